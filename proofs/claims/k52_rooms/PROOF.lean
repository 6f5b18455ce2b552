import PyProof.Rows.All
import Wide.All
import OpenK.AllK
import Wide.FinOn
import PyProof.EqAt
import PyProof.EqKinds
import PyProof.TupleCall
import KE.BitLaws
import PyProof.Rows.SortShellAny
import KE.IntBitsLaws
import PyProof.InstStore
import PyProof.InstStoreFacts
import PyProof.NsDelKeeps
import PyProof.ExcAttrAll.ValueError
import KE.KIsAll
import PyProof.Rows.SortShellAny
import KE.IntBitsLaws
import KE.KSortTupG
import PyProof.ExcClass3
import OpenK.KOwn
import PySem.Challenge.RW_pillarstore_k52_rooms
set_option Elab.async false
set_option linter.all false
set_option maxRecDepth 100000
/-! THE HAND LAYER, for ints, bools, texts, own classes, lists, tuples, dicts, comprehensions, walks over dicts, enumerate, zip, reversed, texts, calls, loops. Paste it whole ahead of your own text; what your proof does not reach may be deleted. -/
namespace L2
open PySem PySem.Spec PyProof.Rows

/-- a key: an int or a str -/
abbrev Key := Sum Int Str
def keyIs : Key → Value → Bool
  | .inl k, v => Value.isInt k v
  | .inr x, v => Value.isStrOf x v
def keyH (w : World) : Key → Int
  | .inl k => hashInt k
  | .inr x => hashStr w x
theorem keyIs_shape : ∀ {k : Key} {v : Value}, keyIs k v = true → (∃ i t, k = Sum.inl i ∧ v = Value.int i t) ∨ (∃ x t, k = Sum.inr x ∧ v = Value.str x t)
  | .inl i, v, h => by
    obtain ⟨t, e⟩ := Value.isInt_shape (k := i) (v := v) h
    exact .inl ⟨i, t, rfl, e⟩
  | .inr x, v, h => by
    obtain ⟨t, e⟩ := Value.isStrOf_shape (x := x) (v := v) h
    exact .inr ⟨x, t, rfl, e⟩
theorem keyIs_int (i : Int) (t : Tok) : keyIs (.inl i) (.int i t) = true := by simp [keyIs, Value.isInt]
theorem keyIs_str (x : Str) (t : Tok) : keyIs (.inr x) (.str x t) = true := by simp [keyIs, Value.isStrOf]
theorem key_ll (a b : Int) : decide ((Sum.inl a : Key) = Sum.inl b) = (a == b) := by
  by_cases e : a = b
  · subst e; simp
  · have h : ¬ (Sum.inl a : Key) = Sum.inl b := fun q => e (Sum.inl.inj q)
    rw [decide_eq_false h]
    exact (beq_eq_false_iff_ne.mpr e).symm
theorem key_rr (a b : Str) : decide ((Sum.inr a : Key) = Sum.inr b) = decide (a = b) := by
  by_cases e : a = b
  · subst e; simp
  · have h : ¬ (Sum.inr a : Key) = Sum.inr b := fun q => e (Sum.inr.inj q)
    rw [decide_eq_false h, decide_eq_false e]
theorem key_lr (a : Int) (b : Str) : decide ((Sum.inl a : Key) = Sum.inr b) = false := decide_eq_false (fun q => nomatch q)
theorem key_rl (a : Str) (b : Int) : decide ((Sum.inr a : Key) = Sum.inl b) = false := decide_eq_false (fun q => nomatch q)

def mixKind (prog : Program) (w : World) : PySem.KeyKind prog w Key where
  is := keyIs
  hash := keyH w
  inj := fun v a b ha hb => by
    rcases keyIs_shape ha with ⟨i, t, rfl, rfl⟩ | ⟨x, t, rfl, rfl⟩
    · rcases keyIs_shape hb with ⟨j, u, rfl, e⟩ | ⟨y, u, rfl, e⟩
      · injection e with e1 _; rw [e1]
      · exact nomatch e
    · rcases keyIs_shape hb with ⟨j, u, rfl, e⟩ | ⟨y, u, rfl, e⟩
      · exact nomatch e
      · injection e with e1 _; rw [e1]
  byValue := fun k v h => by
    rcases keyIs_shape h with ⟨i, t, rfl, rfl⟩ | ⟨x, t, rfl, rfl⟩ <;> rfl
  pyHash := fun hv h => by
    rcases keyIs_shape hv with ⟨i, t, rfl, rfl⟩ | ⟨x, t, rfl, rfl⟩
    · exact wpAny_pyHash_int h
    · exact wpAny_pyHash_str h
  eqBool := fun hu hv h => by
    rcases keyIs_shape hu with ⟨i, t, rfl, rfl⟩ | ⟨x, t, rfl, rfl⟩
    · rcases keyIs_shape hv with ⟨j, u, rfl, rfl⟩ | ⟨y, u, rfl, rfl⟩
      · rw [key_ll] at h; exact wpAny_eqBool_int h
      · rw [key_lr] at h; exact SeqAt.EqAt.int_str i t y u _ _ _ _ h
    · rcases keyIs_shape hv with ⟨j, u, rfl, rfl⟩ | ⟨y, u, rfl, rfl⟩
      · rw [key_rl] at h; exact SeqAt.EqAt.str_int x t j u _ _ _ _ h
      · rw [key_rr] at h; exact wpAny_eqBool_str h
  «strs» := fun k x t v h => by
    rcases keyIs_shape h with ⟨i, u, rfl, e⟩ | ⟨y, u, rfl, e⟩
    · exact nomatch e
    · injection e with e1 _
      subst e1
      cases v <;> rfl

theorem mixKind_int (prog : Program) (w : World) (i : Int) (t : Tok) : (mixKind prog w).is (.inl i) (.int i t) = true := keyIs_int i t
theorem mixKind_str (prog : Program) (w : World) (x : Str) (t : Tok) : (mixKind prog w).is (.inr x) (.str x t) = true := keyIs_str x t
end L2

namespace L2
open PySem PySem.Spec PyProof.Rows

/-- a value, without the heap -/
inductive V where
  | non | bl (b : Bool) | int (i : Int) | str (x : Str) | byt (b : Array UInt8) | flt (b : UInt64) | ref (a : Addr) | ty (n : String)
  deriving DecidableEq

def RelV : V → Value → Prop
  | .non, u => u = Value.none
  | .bl b, u => u = Value.bool b
  | .int i, u => ∃ t, u = Value.int i t
  | .str x, u => ∃ t, u = Value.str x t
  | .byt b, u => ∃ t, u = Value.bytes b t
  | .flt b, u => ∃ t, u = Value.float b t
  | .ref a, u => u = Value.ref a
  | .ty n, u => u = Value.type n

abbrev Vals : List V → List Value → Prop := Paired RelV
theorem Vals.length {xs : List V} {us : List Value} (r : Vals xs us) : xs.length = us.length := Paired.length r
theorem Vals.get : ∀ {xs : List V} {us : List Value} {i : Nat} {x : V}, Vals xs us → xs[i]? = some x → ∃ u, us[i]? = some u ∧ RelV x u
  | _, _, _, _, .nil, e => by simp at e
  | _, _, 0, _, .cons r _, e => by simp at e; subst e; exact ⟨_, rfl, r⟩
  | _, _, i + 1, x, .cons _ t, e => by
    obtain ⟨u, h1, h2⟩ := Vals.get (i := i) (x := x) t (by simpa using e)
    exact ⟨u, by simpa using h1, h2⟩
theorem Vals.set {x : V} {u : Value} (r : RelV x u) : ∀ {xs : List V} {us : List Value} (i : Nat), Vals xs us → Vals (xs.set i x) (us.set i u)
  | _, _, _, .nil => .nil
  | _, _, 0, .cons _ t => .cons r t
  | _, _, i + 1, .cons q t => .cons q (Vals.set r i t)
theorem Vals.append : ∀ {xs ys : List V} {us ws : List Value}, Vals xs us → Vals ys ws → Vals (xs ++ ys) (us ++ ws)
  | _, _, _, _, .nil, s => s
  | _, _, _, _, .cons r t, s => .cons r (Vals.append t s)
theorem Vals.take : ∀ {xs : List V} {us : List Value} (n : Nat), Vals xs us → Vals (xs.take n) (us.take n)
  | _, _, 0, _ => .nil
  | _, _, _ + 1, .nil => .nil
  | _, _, n + 1, .cons r t => .cons r (Vals.take n t)
theorem Vals.drop : ∀ {xs : List V} {us : List Value} (n : Nat), Vals xs us → Vals (xs.drop n) (us.drop n)
  | _, _, 0, r => r
  | _, _, _ + 1, .nil => .nil
  | _, _, n + 1, .cons _ t => Vals.drop n t
theorem Vals.none_of : ∀ {xs : List V} {us : List Value} {i : Nat}, Vals xs us → xs[i]? = none → us[i]? = none := fun {xs us i} r e => by
  have h1 := r.length
  have h2 : xs.length ≤ i := List.getElem?_eq_none_iff.mp e
  exact List.getElem?_eq_none_iff.mpr (by omega)

def RelO : Option V → Option Value → Prop
  | some v, some u => RelV v u
  | none, none => True
  | _, _ => False
def KV {κ : Type} : List (κ × V) → List (κ × Value) → Prop := Paired fun (p : κ × V) (q : κ × Value) => p.1 = q.1 ∧ RelV p.2 q.2

/-- a key of a dict (00_mix): an int or a text -/
def kV : Key → V
  | .inl i => .int i
  | .inr x => .str x

/-- what stands at a tracked address -/
inductive HO where
  /-- a list -/
  | lst (xs : List V)
  /-- a tuple (never changes) -/
  | tup (xs : List V)
  /-- a dict whose keys are ints and texts; one whose keys are tuples of ints and texts (the empty one is both) -/
  | dK (kvs : List (Key × V)) | dT (kvs : List (List Key × V))
  /-- a set of ints: its members, its size -/
  | set (S : Int → Bool) (n : Nat)
  /-- an instance of the class at C, its dict at dx, its attributes -/
  | ins (C dx : Addr) (fs : List (Str × V))
  /-- the dict of the instance at x -/
  | own (x : Addr)
  /-- the dict of an exception -/
  | xd (fs : List (Str × V))
  /-- a bound method, f of x -/
  | met (f x : Addr)
  /-- a range object lo, lo + 1, .. below hi -/
  | rng (lo hi : Int)
  /-- a thing that is known to the object (the script; a dict while a loop walks it): read, never written while it is so -/
  | frz (o : Obj) (u : HO)
  /-- a code object's table -/
  | tbl (ps : Array Value)
  /-- any other thing, by what is true of its one object (a def of one's own: SetO a S n := HO.ext fun h => ..) -/
  | ext (φ : Heap → Prop)
  | mk (u : HO)

abbrev Hp := Addr → Option HO
def upd (H : Hp) (a : Addr) (o : HO) : Hp := fun b => if b = a then some o else H b
theorem upd_same {H : Hp} {a : Addr} {o : HO} : upd H a o a = some o := by unfold upd; rw [if_pos rfl]
theorem upd_ne {H : Hp} {a b : Addr} {o : HO} (h : b ≠ a) : upd H a o b = H b := by unfold upd; rw [if_neg h]
theorem upd_upd {H : Hp} {a : Addr} {o u : HO} : upd (upd H a o) a u = upd H a u := by
  funext b; unfold upd; split <;> rfl
/-- two objects of different content stand apart -/
theorem ne_of {H : Hp} {a b : Addr} {o u : HO} (h : H a = some o) (h' : H b = some u) (d : o ≠ u) : a ≠ b := by
  intro e; subst e; rw [h] at h'; exact d (Option.some.inj h')
theorem ne_of_none {H : Hp} {a b : Addr} {o : HO} (h : H a = some o) (h' : H b = none) : a ≠ b := by
  intro e; subst e; rw [h] at h'; cases h'

section
variable (P : Program) (w : World)
def HO.mut : HO → Bool
  | .lst _ => true
  | .dK _ => true
  | .dT _ => true
  | .set _ _ => true
  | .ins _ _ _ => true
  | .ext _ => true
  | _ => false
def ObjOk (H : Hp) (h : Heap) (a : Addr) : HO → Prop
  | .lst xs => xs.length ≤ sizeLine ∧ ∃ (its : List Value) (n : Nat), Vals xs its ∧ h.get? a = some { cls := .type "list", data := .seq its.toArray n }
  | .tup xs => xs.length ≤ sizeLine ∧ ∃ its : List Value, Vals xs its ∧ IsTup h a its.toArray
  | .dK kvs => kvs.length ≤ sizeLine ∧ (a == sysModules) = false ∧ ∃ vs, KV kvs vs ∧ h.DictOf (mixKind P w) a vs
  | .dT kvs => kvs.length ≤ sizeLine ∧ (a == sysModules) = false ∧ ∃ xs : List (List Key × Addr × Value),
      Paired (fun (p : List Key × V) (q : List Key × Addr × Value) => p.1 = q.1 ∧ H q.2.1 = some (.tup (p.1.map kV)) ∧ RelV p.2 q.2.2) kvs xs ∧
      ∃ o es ep, h.get? a = some o ∧ o.ExactDict ∧ o.data = .dict es ep ∧ es.toList = xs.map (entryOfKey (tupleKind (mixKind P w))) ∧ (xs.map (·.1)).Nodup
  | .set S n => h.SetOf (intKind P w) a S n
  | .ins C dx fs => H dx = some (.own a) ∧ fs.length ≤ 1000 ∧ dx ≠ a ∧ h.get? a = some (PySem.W.instObj C dx) ∧
      ∃ mA, h.Ns1 dx mA ∧ (∀ f, RelO (fs.lookup f) (mA f)) ∧ PySem.Within mA (fs.map (·.1))
  | .own _ => ∃ o, h.get? a = some o
  | .xd fs => ∃ mA, h.Ns1 a mA ∧ ∀ f, RelO (fs.lookup f) (mA f)
  | .rng lo hi => ∃ t u v, h.get? a = some { cls := .type "range", data := .fields #[.int lo t, .int hi u, .int 1 v] }
  | .frz o u => h.get? a = some o ∧ ObjOk H h a u
  | .tbl ps => h.get? a = some { cls := .none, data := .fields ps }
  | .met f x => h.get? a = some (PySem.W.methodObj (.ref f) (.ref x))
  | .ext φ => φ h ∧ (∃ o, h.get? a = some o) ∧ ∀ h1 h2 : Heap, φ h1 → (∀ o, h1.get? a = some o → h2.get? a = some o) → φ h2
  | .mk u => HO.mut u = true ∧ ObjOk H h a u
/-- the abstract heap is held -/
def HOk (H : Hp) (h : Heap) : Prop := ∀ a o, H a = some o → ObjOk P w H h a o
end

section
variable {P : Program} {w : World} {H H' : Hp} {h h' : Heap} {a : Addr} {o : HO}
theorem ObjOk.lt (x : ObjOk P w H h a o) : a < h.objs.size := by
  induction o with
  | lst xs => obtain ⟨_, _, _, _, e⟩ := x; exact Heap.lt_size e
  | tup xs => obtain ⟨_, _, _, p⟩ := x; exact p.lt
  | dK kvs => obtain ⟨_, _, _, _, o, _, _, e, _⟩ := x; exact Heap.lt_size e
  | dT kvs => obtain ⟨_, _, _, _, o, _, _, e, _⟩ := x; exact Heap.lt_size e
  | set S n => obtain ⟨o, _, _, _, e, _⟩ := x; exact Heap.lt_size e
  | ins C dx fs => obtain ⟨_, _, _, e, _⟩ := x; exact Heap.lt_size e
  | own y => obtain ⟨_, e⟩ := x; exact Heap.lt_size e
  | xd fs => obtain ⟨_, ⟨_, _, _, e, _⟩, _⟩ := x; exact Heap.lt_size e
  | rng lo hi => obtain ⟨_, _, _, e⟩ := x; exact Heap.lt_size e
  | frz ob u _ => obtain ⟨e, _⟩ := x; exact Heap.lt_size e
  | tbl ps => exact Heap.lt_size (show h.get? a = some _ from x)
  | met f y => exact Heap.lt_size (show h.get? a = some _ from x)
  | ext φ => obtain ⟨_, ⟨_, e⟩, _⟩ := x; exact Heap.lt_size e
  | mk u ih => exact ih x.2
theorem Paired.mapP {α β : Type} {F G : α → β → Prop} : ∀ {l₁ : List α} {l₂ : List β}, Paired F l₁ l₂ → (∀ a b, F a b → G a b) → Paired G l₁ l₂
  | _, _, .nil, _ => .nil
  | _, _, .cons r t, f => .cons (f _ _ r) (Paired.mapP t f)
/-- what an object's description leans on: its own object, its own dict, the tuples -/
theorem ObjOk.stay (x : ObjOk P w H h a o) (k : ∀ b u, (b = a ∨ H b = some (.own a)) → h.get? b = some u → h'.get? b = some u)
    (ho : ∀ b, H b = some (.own a) → H' b = some (.own a)) (ht : ∀ b xs, H b = some (.tup xs) → H' b = some (.tup xs)) : ObjOk P w H' h' a o := by
  induction o with
  | lst xs => obtain ⟨z, its, n, r, e⟩ := x; exact ⟨z, its, n, r, k _ _ (.inl rfl) e⟩
  | tup xs => obtain ⟨z, its, r, ob, e, c⟩ := x; exact ⟨z, its, r, ob, k _ _ (.inl rfl) e, c⟩
  | dK kvs => obtain ⟨z, y, vs, r, ob, es, ep, e, c⟩ := x; exact ⟨z, y, vs, r, ob, es, ep, k _ _ (.inl rfl) e, c⟩
  | dT kvs =>
    obtain ⟨z, y, xs, r, ob, es, ep, e, c⟩ := x
    exact ⟨z, y, xs, Paired.mapP r fun p q z => ⟨z.1, ht _ _ z.2.1, z.2.2⟩, ob, es, ep, k _ _ (.inl rfl) e, c⟩
  | set S n => obtain ⟨ob, es, ep, t, e, c⟩ := x; exact ⟨ob, es, ep, t, k _ _ (.inl rfl) e, c⟩
  | ins C dx fs =>
    obtain ⟨d, z, ne, e, mA, ⟨od, es, ep, e2, c⟩, r⟩ := x
    exact ⟨ho _ d, z, ne, k _ _ (.inl rfl) e, mA, ⟨od, es, ep, k _ _ (.inr d) e2, c⟩, r⟩
  | own y => obtain ⟨ob, e⟩ := x; exact ⟨ob, k _ _ (.inl rfl) e⟩
  | xd fs => obtain ⟨mA, ⟨od, es, ep, e, c⟩, r⟩ := x; exact ⟨mA, ⟨od, es, ep, k _ _ (.inl rfl) e, c⟩, r⟩
  | rng lo hi => obtain ⟨t, u, v, e⟩ := x; exact ⟨t, u, v, k _ _ (.inl rfl) e⟩
  | frz ob u ih => obtain ⟨e, q⟩ := x; exact ⟨k _ _ (.inl rfl) e, ih q⟩
  | tbl ps =>
    have e : h.get? a = some { cls := .none, data := .fields ps } := x
    show h'.get? a = some { cls := .none, data := .fields ps }
    exact k a _ (.inl rfl) e
  | met f y =>
    have e : h.get? a = some (PySem.W.methodObj (.ref f) (.ref y)) := x
    show h'.get? a = some (PySem.W.methodObj (.ref f) (.ref y))
    exact k a _ (.inl rfl) e
  | ext φ => obtain ⟨p, ⟨o, e⟩, st⟩ := x; exact ⟨st _ _ p fun o q => k _ _ (.inl rfl) q, ⟨o, k _ _ (.inl rfl) e⟩, st⟩
  | mk u ih => exact ⟨x.1, ih x.2⟩
theorem HOk.lt (x : HOk P w H h) (e : H a = some o) : a < h.objs.size := (x a o e).lt
theorem HOk.fresh (x : HOk P w H h) (e : h.objs.size ≤ a) : H a = none := by
  cases q : H a with
  | none => rfl
  | some u => exact absurd (Nat.lt_of_lt_of_le (x.lt q) e) (Nat.lt_irrefl _)
/-- every object of the heap is kept -/
theorem HOk.kept (x : HOk P w H h) (k : ∀ b u, h.get? b = some u → h'.get? b = some u) : HOk P w H h' := fun a o e =>
  (x a o e).stay (fun b u _ q => k b u q) (fun _ q => q) fun _ _ q => q
/-- a new object is laid and tracked -/
theorem HOk.laid (x : HOk P w H h) (k : ∀ b u, h.get? b = some u → h'.get? b = some u) (hp : h.objs.size ≤ a) (new : ObjOk P w (upd H a o) h' a o) : HOk P w (upd H a o) h' := fun b u e => by
  have hn := x.fresh hp
  by_cases hb : b = a
  · subst hb; rw [upd_same] at e; cases e; exact new
  · rw [upd_ne hb] at e
    exact (x b u e).stay (fun c v _ q => k c v q) (fun c q => by rw [upd_ne (ne_of_none q hn)]; exact q) fun c xs q => by rw [upd_ne (ne_of_none q hn)]; exact q
end

/-- what may be read as u: it is u, or a known u -/
def Rd (H : Hp) (a : Addr) (u : HO) : Prop := H a = some u ∨ ∃ o, H a = some (.frz o u)
theorem Rd.of {H : Hp} {a : Addr} {u : HO} (h : H a = some u) : Rd H a u := .inl h
theorem Rd.ok {P : Program} {w : World} {H : Hp} {h : Heap} {a : Addr} {u : HO} (r : Rd H a u) (x : HOk P w H h) : ObjOk P w H h a u := by
  rcases r with r | ⟨o, r⟩
  · exact x a u r
  · obtain ⟨_, q⟩ := x a _ r
    exact q
/-- what may be written -/
def Mut : Option HO → Prop
  | some (.lst _) => True
  | some (.dK _) => True
  | some (.dT _) => True
  | some (.set _ _) => True
  | some (.ins _ _ _) => True
  | some (.ext _) => True
  | _ => False
section
variable {P : Program} {w : World} {H : Hp} {h h' : Heap} {x e : Addr} {o' : HO}
/-- the object at e is changed: x itself, or the dict of the instance x -/
theorem HOk.write (ok : HOk P w H h) (mu : Mut (H x)) (he : e = x ∨ H e = some (.own x)) (k : ∀ b u, b ≠ e → h.get? b = some u → h'.get? b = some u) (heo : ∃ u, h'.get? e = some u)
    (new : ObjOk P w (upd H x o') h' x o') : HOk P w (upd H x o') h' := fun b u q => by
  have nown : ∀ c y, H c = some (.own y) → c ≠ x := fun c y r z => by subst z; rw [r] at mu; exact mu
  have ntup : ∀ c xs, H c = some (.tup xs) → c ≠ x := fun c xs r z => by subst z; rw [r] at mu; exact mu
  by_cases hb : b = x
  · subst hb; rw [upd_same] at q; cases q; exact new
  · rw [upd_ne hb] at q
    by_cases hbe : b = e
    · have q' : H b = some (.own x) := by
        rcases he with z | z
        · exact absurd (hbe.trans z) hb
        · rw [hbe]; exact z
      rw [q] at q'; cases q'
      obtain ⟨v, hv⟩ := heo
      exact ⟨v, by rw [hbe]; exact hv⟩
    · refine (ok b u q).stay (fun c v hc r => k c v ?_ r) (fun c r => by rw [upd_ne (nown c b r)]; exact r) fun c xs r => by rw [upd_ne (ntup c xs r)]; exact r
      rcases hc with rfl | hc
      · exact hbe
      · rintro rfl
        rcases he with z | z
        · exact nown c b hc z
        · rw [hc] at z; cases z; exact hb rfl
end

/-! ### kept unless tracked; of the frames at fs (the callers') the slots may change (an exception that passes writes there); of the records at ex (iterators) nothing is said -/
structure Un (fs ex : List Addr) (H H' : Hp) (h h' : Heap) : Prop where
  keep : ∀ b o, h.get? b = some o → H b = none → b ∉ fs → b ∉ ex → h'.get? b = some o
  slot : ∀ b o, h.get? b = some o → H b = none → b ∈ fs → b ∉ ex → ∃ sl, h'.get? b = some { o with slots := sl }
  free : ∀ b o, h.get? b = some o → H b = none → b ∉ ex → H' b = none
  there : ∀ b o, h.get? b = some o → b ∉ ex → ∃ o', h'.get? b = some o'
  tups : ∀ b xs, H b = some (.tup xs) → H' b = some (.tup xs)
  frzs : ∀ b o u, H b = some (.frz o u) → H' b = some (.frz o u)
  tbls : ∀ b ps, H b = some (.tbl ps) → ∃ more, H' b = some (.tbl (ps ++ more))
section
variable {fs fs' ex ex' : List Addr} {H H1 H2 : Hp} {h h1 h2 h' : Heap} {a x e : Addr} {o : HO}
theorem Un.any (u : Un fs ex H H1 h h1) {b : Addr} {ob : Obj} (q : h.get? b = some ob) (n : H b = none) (hx : b ∉ ex) : ∃ sl, h1.get? b = some { ob with slots := sl } := by
  by_cases hb : b ∈ fs
  · exact u.slot b ob q n hb hx
  · exact ⟨ob.slots, u.keep b ob q n hb hx⟩
theorem Un.trans (a : Un fs ex H H1 h h1) (b : Un fs ex H1 H2 h1 h2) : Un fs ex H H2 h h2 where
  keep := fun c ob q n hc hx => b.keep c ob (a.keep c ob q n hc hx) (a.free c ob q n hx) hc hx
  slot := fun c ob q n hc hx => by
    obtain ⟨sl, e1⟩ := a.slot c ob q n hc hx
    obtain ⟨sl', e2⟩ := b.slot c _ e1 (a.free c ob q n hx) hc hx
    exact ⟨sl', e2⟩
  free := fun c ob q n hx => by
    obtain ⟨o', e1⟩ := a.there c ob q hx
    exact b.free c o' e1 (a.free c ob q n hx) hx
  there := fun c ob q hx => by
    obtain ⟨o', e1⟩ := a.there c ob q hx
    exact b.there c o' e1 hx
  tups := fun c xs q => b.tups c xs (a.tups c xs q)
  frzs := fun c ob xs q => b.frzs c ob xs (a.frzs c ob xs q)
  tbls := fun c ps q => by
    obtain ⟨m1, e1⟩ := a.tbls c ps q
    obtain ⟨m2, e2⟩ := b.tbls c _ e1
    exact ⟨m1 ++ m2, by rw [e2, Array.append_assoc]⟩
theorem Un.kept (k : ∀ b u, h.get? b = some u → h'.get? b = some u) : Un fs ex H H h h' :=
  ⟨fun b ob q _ _ _ => k b ob q, fun b ob q _ _ _ => ⟨ob.slots, k b ob q⟩, fun _ _ _ n _ => n, fun b ob q _ => ⟨ob, k b ob q⟩, fun _ _ q => q, fun _ _ _ q => q, fun _ ps q => ⟨#[], by rw [q]; simp⟩⟩
theorem Un.refl : Un fs ex H H h h := Un.kept fun _ _ q => q
theorem Un.laid (k : ∀ b u, h.get? b = some u → h'.get? b = some u) (hp : h.objs.size ≤ a) (hn : H a = none) : Un fs ex H (upd H a o) h h' where
  keep := fun b u q _ _ _ => k b u q
  slot := fun b u q _ _ _ => ⟨u.slots, k b u q⟩
  free := fun b u q n _ => by rw [upd_ne (Nat.ne_of_lt (Nat.lt_of_lt_of_le (Heap.lt_size q) hp))]; exact n
  there := fun b u q _ => ⟨u, k b u q⟩
  tups := fun b xs q => by rw [upd_ne (ne_of_none q hn)]; exact q
  frzs := fun b u xs q => by rw [upd_ne (ne_of_none q hn)]; exact q
  tbls := fun b ps q => ⟨#[], by rw [upd_ne (ne_of_none q hn), q]; simp⟩
theorem Un.write (mu : Mut (H x)) (he : e = x ∨ H e = some (.own x)) (k : ∀ b u, b ≠ e → h.get? b = some u → h'.get? b = some u) (heo : ∃ u, h'.get? e = some u) : Un fs ex H (upd H x o) h h' := by
  have hx : ∀ b, H b = none → b ≠ x := fun b n z => by subst z; rw [n] at mu; exact mu
  have hb : ∀ b, H b = none → b ≠ e := fun b n z => by
    subst z
    rcases he with r | r
    · exact hx b n r
    · rw [n] at r; cases r
  have hm : ∀ b u, H b = some u → ¬ Mut (some u) → b ≠ x := fun b u q nm z => by subst z; rw [q] at mu; exact nm mu
  refine ⟨fun b u q n _ _ => k b u (hb b n) q, fun b u q n _ _ => ⟨u.slots, k b u (hb b n) q⟩, fun b u q n _ => by rw [upd_ne (hx b n)]; exact n, fun b u q _ => ?_,
    fun b xs q => by rw [upd_ne (hm b _ q fun z => z)]; exact q, fun b u xs q => by rw [upd_ne (hm b _ q fun z => z)]; exact q, fun b ps q => ⟨#[], by rw [upd_ne (hm b _ q fun z => z), q]; simp⟩⟩
  by_cases hbe : b = e
  · subst hbe; exact heo
  · exact ⟨u, k b u hbe q⟩
theorem Un.mono (u : Un fs ex H H1 h h1) (hs : ∀ b ∈ fs, b ∈ fs') (hx : ∀ b ∈ ex, b ∈ ex') : Un fs' ex' H H1 h h1 :=
  ⟨fun b ob q n hb he => u.keep b ob q n (fun z => hb (hs b z)) fun z => he (hx b z), fun _ _ q n _ he => u.any q n fun z => he (hx _ z), fun b ob q n he => u.free b ob q n fun z => he (hx b z), fun b ob q he => u.there b ob q fun z => he (hx b z), u.tups, u.frzs, u.tbls⟩
end

/-! ### the heap without what is tracked -/
def trk (h : Heap) (H : Hp) : List Addr := (List.range h.objs.size).filter fun a => (H a).isSome
def hidT (h : Heap) (H : Hp) : Heap := PySem.W.hideAll h (trk h H)
theorem hidT_size (h : Heap) (H : Hp) : (hidT h H).objs.size = h.objs.size := PySem.W.hideAll_size _ _
theorem hidT_get {h : Heap} {H : Hp} {b : Addr} {o : Obj} (e : h.get? b = some o) (n : H b = none) : (hidT h H).get? b = some o :=
  PySem.W.hideAll_get _ e fun hm => by
    have q : (H b).isSome = true := (List.mem_filter.mp hm).2
    rw [n] at q; simp at q
theorem of_hidT {h : Heap} {H : Hp} {b : Addr} {o : Obj} (e : (hidT h H).get? b = some o) : h.get? b = some o ∧ H b = none := by
  have e' : h.get? b = some o := PySem.W.of_hideAll (trk h H) e
  refine ⟨e', ?_⟩
  cases q : H b with
  | none => rfl
  | some x =>
    have hm : b ∈ trk h H := List.mem_filter.mpr ⟨List.mem_range.mpr (Heap.lt_size e'), by simp [q]⟩
    have z : (hidT h H).get? b = none := PySem.W.hideAll_none (trk h H) hm
    rw [z] at e; cases e

/-! ### OpenK's ledger, filled with every new object but one -/
def allNews (g h : Heap) (L : Addr) : List (Addr × Obj) := (List.range h.objs.size).filterMap fun a => if a = L ∨ (g.get? a).isSome = true then none else (h.get? a).map fun o => (a, o)
def rest (g h : Heap) (L d : Addr) : List (Addr × Obj) := (allNews g h L).filter fun p => decide (p.1 ≠ d)
end L2

namespace L2
open PySem PySem.Spec PyProof.Rows

/-- the module's facts, over the base: the heap at the law's entry without what is tracked there -/
structure Mod (K : PySem.W.Frag) (mg : Str → Option Value) (base : Heap) : Prop where
  kin : K.In base
  glob : base.Ns mainGlobals mg
  blt : ∃ mb, base.Ns builtinsNs mb ∧ ∀ x : Str, x ≠ "__name__" → mb x = bootBuiltins x
  nolimit : base.NoLimit

/-- the context: a def's body (or a comprehension's block) running. base: fixed through the whole law; s₀, H₀: the entry; outer: the frames whose slots others may change (a def's callers); stack: all frames that run;
   ex: iterators that were made ahead of the entry and are walked here (a comprehension's); fn: the names whose cells were made at the entry (a def: all; a comprehension's block: its own); calm: not within an except suite; pn: pins that every state bears; xe: what is wanted of an exception that leaves the code -/
structure Cx where
  prog : Program
  w : World
  K : PySem.W.Frag
  mg : Str → Option Value
  base : Heap
  A : Around
  N : List Str
  s_0 : Shared
  H_0 : Hp
  env : Env
  outer : List Env
  stack : List Env
  ex : List Addr
  fn : Str → Bool
  calm : Bool
  pn : List (Addr × Obj)
  xe : Value → Shared → Prop
/-- the callers' frames -/
def frs (l : List Env) : List Addr := l.filterMap (·.frame)
abbrev Cx.fs (X : Cx) : List Addr := frs X.outer

def Vis (sc : Scope) (x : Str) : Prop := sc.names.lookup x = some .local ∨ sc.names.lookup x = some .cell ∨ sc.names.lookup x = some .free
def Loc (sc : Scope) (x : Str) : Prop := sc.names.lookup x = some .local ∨ sc.names.lookup x = some .cell
def Look (env : Env) (h : Heap) (m : Str → Option Value) (x : Str) (u : Value) : Prop :=
  (env.kindOf x = some .local ∧ m x = some u) ∨ ((env.kindOf x = some .cell ∨ env.kindOf x = some .free) ∧ ∃ c, env.cells.lookup x = some c ∧ h.IsCell c (some u))

structure Cx.Ok (X : Cx) : Prop where
  mod : Mod X.K X.mg X.base
  kind : X.env.scope.kind = .function
  glob : X.env.globals = mainGlobals
  blt : X.env.builtins = builtinsNs
  above : X.s_0.heap.objs.size ≤ X.env.locals
  inj : ∀ x y c, X.env.cells.lookup x = some c → X.env.cells.lookup y = some c → x = y
  has : ∀ x, (X.env.kindOf x = some .cell ∨ X.env.kindOf x = some .free) → ∃ c, X.env.cells.lookup x = some c
  cab : ∀ x c, X.fn x = true → X.env.cells.lookup x = some c → X.s_0.heap.objs.size ≤ c
  hd : X.calm = true → X.A.handled = none
  frames : X.A.frames = some X.stack
  stk : X.stack = X.outer ∨ (X.stack = X.env :: X.outer ∧ X.env.frame = some X.env.locals)
  exf : ∀ b ∈ X.ex, b ≠ X.env.locals ∧ ∀ x c, X.env.cells.lookup x = some c → c ≠ b
  bs : ∀ b o, X.base.get? b = some o → X.s_0.heap.get? b = some o ∧ X.H_0 b = none
  bsz : X.base.objs.size ≤ X.s_0.heap.objs.size
  noex : ∀ b o, X.base.get? b = some o → b ∉ X.ex
  exfs : ∀ b ∈ X.ex, b ∉ X.fs
  funs : X.s_0.heap.FunFrames X.base X.outer
  frf : ∀ b ∈ X.fs, X.H_0 b = none

structure Inv (X : Cx) (pins : List (Addr × Obj)) (σ : List (Option V)) (H : Hp) (s : Shared) : Prop where
  ok : X.Ok
  os : s.os = X.s_0.os
  bare : AllBare s.gens
  base : Un X.fs X.ex X.H_0 H X.s_0.heap s.heap
  loc : ∃ m, s.heap.Ns X.env.locals m ∧ ∀ (i : Nat) (x : Str) (v : V), X.N[i]? = some x → σ[i]? = some (some v) → Vis X.env.scope x → ∃ u, RelV v u ∧ Look X.env s.heap m x u
  cell : ∀ x c, X.env.cells.lookup x = some c → ∃ v, s.heap.IsCell c v
  free : H X.env.locals = none
  freeC : ∀ x c, X.env.cells.lookup x = some c → H c = none
  pin : ∀ p ∈ X.pn ++ pins, s.heap.get? p.1 = some p.2 ∧ H p.1 = none ∧ p.1 ≠ X.env.locals ∧ p.1 ∉ X.fs ∧ ∀ v, p.2.data ≠ .cell v
  hok : HOk X.prog X.w H s.heap
  len : σ.length = X.N.length

section
variable {X : Cx} {pins : List (Addr × Obj)} {σ : List (Option V)} {H H' : Hp} {s : Shared} {h' : Heap}

theorem Cx.Ok.nofr (ok : X.Ok) {b : Addr} {o : Obj} (e : X.base.get? b = some o) : b ∉ X.fs := fun hb => by
  have := (ok.funs.mem hb).1
  rw [e] at this; cases this
theorem Inv.bs (I : Inv X pins σ H s) : ∀ b o, X.base.get? b = some o → s.heap.get? b = some o ∧ H b = none := fun b o e =>
  ⟨I.base.keep b o (I.ok.bs b o e).1 (I.ok.bs b o e).2 (I.ok.nofr e) (I.ok.noex b o e), I.base.free b o (I.ok.bs b o e).1 (I.ok.bs b o e).2 (I.ok.noex b o e)⟩
theorem Inv.bk (I : Inv X pins σ H s) : ∀ b o, X.base.get? b = some o → s.heap.get? b = some o := fun b o e => (I.bs b o e).1
theorem Inv.mod (I : Inv X pins σ H s) : Mod X.K X.mg X.base := I.ok.mod
theorem Inv.kIn (I : Inv X pins σ H s) : X.K.In s.heap := I.ok.mod.kin.keeps I.bk
theorem Inv.nolimit (I : Inv X pins σ H s) : s.heap.NoLimit := I.ok.mod.nolimit.keeps I.bk
/-- the frame over the base: for OpenK's rules (K.In X.base is I.mod.kin) -/
theorem Inv.fr (I : Inv X pins σ H s) : ∃ m, Fr X.base X.env.locals s.heap m :=
  let ⟨m, hn, _⟩ := I.loc
  ⟨m, hn, I.bk, Nat.le_trans I.ok.bsz I.ok.above⟩
theorem Inv.lt (I : Inv X pins σ H s) : X.env.locals < s.heap.objs.size := let ⟨_, hn, _⟩ := I.loc; hn.lt
theorem Inv.sz (I : Inv X pins σ H s) : X.s_0.heap.objs.size ≤ s.heap.objs.size := Nat.le_trans I.ok.above (Nat.le_of_lt I.lt)
theorem Inv.nofs (I : Inv X pins σ H s) {a : Addr} (h : s.heap.objs.size ≤ a) : a ∉ X.fs := fun hb => by
  obtain ⟨_, o, ho, _⟩ := I.ok.funs.mem hb
  exact absurd (Nat.lt_of_lt_of_le (Heap.lt_size ho) (Nat.le_trans I.sz h)) (Nat.lt_irrefl _)
theorem Inv.cne (I : Inv X pins σ H s) : ∀ x c, X.env.cells.lookup x = some c → c ≠ X.env.locals := fun x c e z => by
  obtain ⟨v, o, ho, hd⟩ := I.cell x c e
  obtain ⟨m, ⟨o', es, ep, ho', hd', _⟩, _⟩ := I.loc
  rw [z, ho'] at ho; cases ho; rw [hd'] at hd; cases hd
theorem Inv.funs (I : Inv X pins σ H s) : s.heap.FunFrames X.base X.outer := by
  have all : ∀ (l : List Env), (∀ b ∈ frs l, b ∈ X.fs) → X.s_0.heap.FunFrames X.base l → s.heap.FunFrames X.base l := by
    intro l
    induction l with
    | nil => intro _ _; trivial
    | cons env r ih =>
      intro hs hl
      obtain ⟨hk, ⟨L, o, hf, hn, ho, hd⟩, hr⟩ := hl
      have hL : L ∈ X.fs := hs L (by unfold frs; rw [List.filterMap_cons, hf]; exact List.mem_cons_self)
      obtain ⟨sl, e⟩ := I.base.slot L o ho (I.ok.frf L hL) hL fun z => I.ok.exfs L z hL
      exact ⟨hk, ⟨L, _, hf, hn, e, hd⟩, ih (fun b hb => hs b (by unfold frs; rw [List.filterMap_cons, hf]; exact List.mem_cons_of_mem _ hb)) hr⟩
  exact all X.outer (fun _ hb => hb) I.ok.funs

/-- the frames that run, for a call -/
theorem Inv.stack (I : Inv X pins σ H s) : s.heap.FunFrames X.base X.stack := by
  rcases I.ok.stk with e | ⟨e, hf⟩
  · rw [e]; exact I.funs
  · rw [e]
    obtain ⟨m, hn, _⟩ := I.loc
    refine .cons (by rw [I.ok.kind]; decide) hf hn ?_ I.funs
    exact Heap.get?_none_of_le (Nat.le_trans I.ok.bsz I.ok.above)
theorem Inv.stkSub (I : Inv X pins σ H s) : ∀ b ∈ frs X.stack, b ∈ X.env.locals :: X.fs := fun b hb => by
  rcases I.ok.stk with e | ⟨e, hf⟩
  · rw [e] at hb; exact List.mem_cons_of_mem _ hb
  · rw [e] at hb
    unfold frs at hb
    rw [List.filterMap_cons, hf] at hb
    exact hb
theorem Inv.stkFree (I : Inv X pins σ H s) : ∀ b ∈ frs X.stack, H b = none := fun b hb => by
  rcases List.mem_cons.mp (I.stkSub b hb) with e | hb
  · rw [e]; exact I.free
  · obtain ⟨_, o, ho, _⟩ := I.ok.funs.mem hb
    exact I.base.free b o ho (I.ok.frf b hb) fun z => I.ok.exfs b z hb

/-- THE STEP: the untracked objects but the frame and the records at ch are kept (the callers' frames up to slots), the frame's map is kept, the new abstract heap is held -/
theorem Inv.step {g' : Array GenState} {t' : Nat} {d' : Drawn} {ch : List Addr} (I : Inv X pins σ H s)
    (hch : ∀ b ∈ ch, (b ∈ X.ex ∨ X.s_0.heap.objs.size ≤ b) ∧ b ≠ X.env.locals ∧ (∀ x c, X.env.cells.lookup x = some c → c ≠ b) ∧ ∀ p ∈ X.pn ++ pins, p.1 ≠ b)
    (keep : ∀ b o, b ≠ X.env.locals → b ∉ X.fs → b ∉ ch → s.heap.get? b = some o → H b = none → h'.get? b = some o)
    (slot : ∀ b o, b ≠ X.env.locals → b ∈ X.fs → b ∉ ch → s.heap.get? b = some o → H b = none → ∃ sl, h'.get? b = some { o with slots := sl }) (free : ∀ b o, b ∉ ch → s.heap.get? b = some o → H b = none → H' b = none)
    (there : ∀ b o, b ∉ ch → s.heap.get? b = some o → ∃ o', h'.get? b = some o')
    (tups : ∀ b xs, H b = some (.tup xs) → H' b = some (.tup xs)) (frzs : ∀ b o u, H b = some (.frz o u) → H' b = some (.frz o u)) (tbls : ∀ b ps, H b = some (.tbl ps) → ∃ more, H' b = some (.tbl (ps ++ more)))
    (ns : ∀ m, s.heap.Ns X.env.locals m → h'.Ns X.env.locals m) (hok : HOk X.prog X.w H' h') (hg : AllBare g') :
    Inv X pins σ H' { s with heap := h', gens := g', drawn := d', toks := t' } := by
  have neL : ∀ b o, X.s_0.heap.get? b = some o → b ≠ X.env.locals := fun b o e => Nat.ne_of_lt (Nat.lt_of_lt_of_le (Heap.lt_size e) I.ok.above)
  have neC : ∀ b o, X.s_0.heap.get? b = some o → b ∉ X.ex → b ∉ ch := fun b o e hx hb => by
    rcases (hch b hb).1 with z | z
    · exact hx z
    · exact absurd (Nat.lt_of_lt_of_le (Heap.lt_size e) z) (Nat.lt_irrefl _)
  have cellK : ∀ x c, X.env.cells.lookup x = some c → ∀ v, s.heap.IsCell c v → h'.IsCell c v := fun x c e v ⟨o, ho, hd⟩ => by
    have nch : c ∉ ch := fun z => (hch c z).2.2.1 x c e rfl
    by_cases hc : c ∈ X.fs
    · obtain ⟨sl, q⟩ := slot c o (I.cne x c e) hc nch ho (I.freeC x c e)
      exact ⟨_, q, hd⟩
    · exact ⟨o, keep c o (I.cne x c e) hc nch ho (I.freeC x c e), hd⟩
  refine ⟨I.ok, I.os, hg, ⟨fun b o e n hb hx => ?_, fun b o e n hb hx => ?_, fun b o e n hx => ?_, fun b o e hx => ?_, fun b xs e => tups b xs (I.base.tups b xs e), fun b o xs e => frzs b o xs (I.base.frzs b o xs e), fun b ps e => ?_⟩, ?_, fun x c e => ?_, ?_, fun x c e => ?_, fun p hp => ?_, hok, I.len⟩
  · exact keep b o (neL b o e) hb (neC b o e hx) (I.base.keep b o e n hb hx) (I.base.free b o e n hx)
  · obtain ⟨sl, e1⟩ := I.base.slot b o e n hb hx
    obtain ⟨sl', e2⟩ := slot b _ (neL b o e) hb (neC b o e hx) e1 (I.base.free b o e n hx)
    exact ⟨sl', e2⟩
  · obtain ⟨o', e1⟩ := I.base.there b o e hx
    exact free b o' (neC b o e hx) e1 (I.base.free b o e n hx)
  · obtain ⟨o', e1⟩ := I.base.there b o e hx
    exact there b o' (neC b o e hx) e1
  · obtain ⟨m1, e1⟩ := I.base.tbls b ps e
    obtain ⟨m2, e2⟩ := tbls b _ e1
    exact ⟨m1 ++ m2, by rw [e2, Array.append_assoc]⟩
  · obtain ⟨m, hn, hl⟩ := I.loc
    refine ⟨m, ns m hn, fun i x v e1 e2 e3 => ?_⟩
    obtain ⟨u, r, l⟩ := hl i x v e1 e2 e3
    refine ⟨u, r, ?_⟩
    rcases l with l | ⟨k, c, e, z⟩
    · exact .inl l
    · exact .inr ⟨k, c, e, cellK x c e _ z⟩
  · obtain ⟨v, z⟩ := I.cell x c e
    exact ⟨v, cellK x c e v z⟩
  · obtain ⟨m, ⟨o, _, _, ho, _⟩, _⟩ := I.loc
    exact free _ o (fun z => (hch _ z).2.1 rfl) ho I.free
  · obtain ⟨v, o, ho, hd⟩ := I.cell x c e
    exact free c o (fun z => (hch c z).2.2.1 x c e rfl) ho (I.freeC x c e)
  · obtain ⟨e, n, ne, nf, d⟩ := I.pin p hp
    have nch : p.1 ∉ ch := fun z => (hch p.1 z).2.2.2 p hp rfl
    exact ⟨keep p.1 p.2 ne nf nch e n, free p.1 p.2 nch e n, ne, nf, d⟩
/-- .. where the frame's own object is kept too -/
theorem Inv.un {t' : Nat} (I : Inv X pins σ H s) (u : Un X.fs [] H H' s.heap h') (hok : HOk X.prog X.w H' h') : Inv X pins σ H' { s with heap := h', toks := t' } := by
  obtain ⟨m, ⟨o, es, ep, ho, r⟩, _⟩ := id I.loc
  obtain ⟨sl, hL⟩ := u.any ho I.free (by simp)
  exact I.step (g' := s.gens) (d' := s.drawn) (ch := []) (fun _ z => nomatch z) (fun b o _ hb _ e n => u.keep b o e n hb (by simp)) (fun b o _ hb _ e n => u.slot b o e n hb (by simp)) (fun b o _ e n => u.free b o e n (by simp)) (fun b o _ e => u.there b o e (by simp)) u.tups u.frzs u.tbls (fun m' hm => by
    obtain ⟨o', es', ep', ho', r'⟩ := hm
    rw [ho] at ho'; cases ho'
    exact ⟨_, es', ep', hL, r'⟩) hok I.bare
/-- behind a call (or a comprehension's block): the slots of this frame may have changed too, the records at ch may have turned -/
theorem Inv.call {g' : Array GenState} {t' : Nat} {d' : Drawn} {ch : List Addr} (I : Inv X pins σ H s) (u : Un (frs X.stack) ch H H' s.heap h') (hok : HOk X.prog X.w H' h') (hg : AllBare g')
    (hch : ∀ b ∈ ch, (b ∈ X.ex ∨ X.s_0.heap.objs.size ≤ b) ∧ b ≠ X.env.locals ∧ (∀ x c, X.env.cells.lookup x = some c → c ≠ b) ∧ ∀ p ∈ X.pn ++ pins, p.1 ≠ b) :
    Inv X pins σ H' { s with heap := h', gens := g', drawn := d', toks := t' } := by
  obtain ⟨m, ⟨o, es, ep, ho, r⟩, _⟩ := id I.loc
  obtain ⟨sl, hL⟩ := u.any ho I.free fun z => (hch _ z).2.1 rfl
  exact I.step (ch := ch) hch (fun b o hL hb hc e n => u.keep b o e n (fun z => (List.mem_cons.mp (I.stkSub b z)).elim hL hb) hc) (fun b o _ _ hc e n => u.any e n hc) (fun b o hc e n => u.free b o e n hc) (fun b o hc e => u.there b o e hc) u.tups u.frzs u.tbls (fun m' hm => by
    obtain ⟨o', es', ep', ho', r'⟩ := hm
    rw [ho] at ho'; cases ho'
    exact ⟨_, es', ep', hL, r'⟩) hok hg
/-- an untracked record of ours (an iterator) has turned -/
theorem Inv.turned {t' : Nat} {it : Addr} (I : Inv X pins σ H s) (k : ∀ b o, b ≠ it → s.heap.get? b = some o → h'.get? b = some o) (hn : H it = none) (hL : it ≠ X.env.locals)
    (h1 : it ∈ X.ex ∨ X.s_0.heap.objs.size ≤ it) (h2 : ∀ x c, X.env.cells.lookup x = some c → c ≠ it) (h3 : ∀ p ∈ X.pn ++ pins, p.1 ≠ it) : Inv X pins σ H { s with heap := h', toks := t' } := by
  have nit : ∀ b u, H b = some u → b ≠ it := fun b u e z => by rw [z, hn] at e; cases e
  refine I.step (g' := s.gens) (d' := s.drawn) (ch := [it]) (fun b hb => ?_) (fun b o _ _ hc e _ => k b o (fun z => hc (by simp [z])) e) (fun b o _ _ hc e _ => ⟨o.slots, k b o (fun z => hc (by simp [z])) e⟩) (fun _ _ _ _ n => n)
    (fun b o hc e => ⟨o, k b o (fun z => hc (by simp [z])) e⟩) (fun _ _ e => e) (fun _ _ _ e => e) (fun b ps e => ⟨#[], by rw [e]; simp⟩) (fun m hm => ?_) (fun b u e => ?_) I.bare
  · have e : b = it := by simpa using hb
    subst e
    exact ⟨h1, hL, h2, h3⟩
  · obtain ⟨o, es, ep, ho, r⟩ := hm
    exact ⟨o, es, ep, k _ o (Ne.symm hL) ho, r⟩
  · refine (I.hok b u e).stay (fun c v hc q => k c v ?_ q) (fun _ q => q) fun _ _ q => q
    rcases hc with z | z
    · rw [z]; exact nit b u e
    · exact nit c _ z
theorem Inv.tok (I : Inv X pins σ H s) (t : Nat) : Inv X pins σ H { s with toks := t } := I.un (h' := s.heap) (t' := t) Un.refl I.hok
/-- all objects kept -/
theorem Inv.kept {t' : Nat} (I : Inv X pins σ H s) (k : ∀ b u, s.heap.get? b = some u → h'.get? b = some u) : Inv X pins σ H { s with heap := h', toks := t' } := I.un (Un.kept k) (I.hok.kept k)
/-- a new object laid and tracked -/
theorem Inv.laid {a : Addr} {o : HO} {t' : Nat} (I : Inv X pins σ H s) (k : ∀ b u, s.heap.get? b = some u → h'.get? b = some u) (hp : s.heap.objs.size ≤ a) (new : ObjOk X.prog X.w (upd H a o) h' a o) :
    Inv X pins σ (upd H a o) { s with heap := h', toks := t' } := I.un (Un.laid k hp (I.hok.fresh hp)) (I.hok.laid k hp new)
/-- an object written -/
theorem Inv.write {x e : Addr} {o : HO} {t' : Nat} (I : Inv X pins σ H s) (mu : Mut (H x)) (he : e = x ∨ H e = some (.own x)) (k : ∀ b u, b ≠ e → s.heap.get? b = some u → h'.get? b = some u) (heo : ∃ u, h'.get? e = some u)
    (new : ObjOk X.prog X.w (upd H x o) h' x o) : Inv X pins σ (upd H x o) { s with heap := h', toks := t' } := I.un (Un.write mu he k heo) (I.hok.write mu he k heo new)
/-- forgetting slots, pins -/
theorem Inv.weak {σ' : List (Option V)} (I : Inv X pins σ H s) (hl : σ'.length = σ.length) (w : ∀ (i : Nat) v, σ'[i]? = some (some v) → σ[i]? = some (some v)) : Inv X pins σ' H s :=
  ⟨I.ok, I.os, I.bare, I.base, let ⟨m, hn, hl'⟩ := I.loc; ⟨m, hn, fun i x v e1 e2 e3 => hl' i x v e1 (w i v e2) e3⟩, I.cell, I.free, I.freeC, I.pin, I.hok, hl.trans I.len⟩
theorem Inv.pins_of {pins' : List (Addr × Obj)} (I : Inv X pins σ H s) (h : ∀ p ∈ pins', s.heap.get? p.1 = some p.2 ∧ H p.1 = none ∧ p.1 ≠ X.env.locals ∧ p.1 ∉ X.fs ∧ ∀ v, p.2.data ≠ .cell v) : Inv X pins' σ H s :=
  ⟨I.ok, I.os, I.bare, I.base, I.loc, I.cell, I.free, I.freeC, fun p hp => (List.mem_append.mp hp).elim (fun z => I.pin p (List.mem_append_left _ z)) (h p), I.hok, I.len⟩

theorem nodup_ix {N : List Str} (hN : N.Nodup) {i j : Nat} {x : Str} (a : N[i]? = some x) (b : N[j]? = some x) : i = j := by
  obtain ⟨h1, e1⟩ := List.getElem?_eq_some_iff.mp a
  obtain ⟨h2, e2⟩ := List.getElem?_eq_some_iff.mp b
  exact (List.getElem_inj hN).mp (e1.trans e2.symm)

/-- a name is stored; what changed -/
theorem store_ok2 {M : Model} {A : Around} {E : Value → Shared → Prop} {i : Nat} {x : Str} {v : V} {u : Value} {Q : Unit → Shared → Prop} (I : Inv X pins σ H s) (hN : X.N.Nodup) (hi : X.N[i]? = some x) (hx : Loc X.env.scope x) (r : RelV v u)
    (h : ∀ s', Inv X pins (σ.set i (some v)) H s' → (∃ a, Heap.SameBut a s.heap s'.heap ∧ (a = X.env.locals ∨ X.env.cells.lookup x = some a)) → Q () s') (hf : X.fn x = true ∨ X.env.scope.names.lookup x = some .local := by first | exact .inl rfl | exact .inr rfl | assumption) : wpAny M A (storeName X.env x u) Q E s := by
  obtain ⟨m, hn, hl⟩ := id I.loc
  have hcls : (X.env.scope.kind == .class || (X.env.scope.kind == .module && X.env.locals != X.env.globals)) = false := by rw [I.ok.kind]; rfl
  have hiσ : i < σ.length := by rw [I.len]; exact (List.getElem?_eq_some_iff.mp hi).1
  have cne := I.cne
  have tracked : ∀ {a : Addr} {h' : Heap}, (∃ o, s.heap.get? a = some o ∧ H a = none) → Heap.SameBut a s.heap h' → HOk X.prog X.w H h' := fun {a h'} ha hs b ob e => by
    obtain ⟨_, _, hfree⟩ := ha
    refine (I.hok b ob e).stay (fun c w' hc q => (hs.2 c ?_).trans q) (fun _ q => q) fun _ _ q => q
    rintro rfl
    rcases hc with rfl | hc
    · rw [hfree] at e; cases e
    · rw [hfree] at hc; cases hc
  rcases hx with hk | hk
  · refine wpAny_storeName_local hk hn (fun h' hn' hs => ?_) hcls
    obtain ⟨oL, _, _, hoL, _⟩ := id hn
    refine h _ ⟨I.ok, I.os, I.bare, ⟨fun b o e n hb hx => ?_, fun b o e n hb hx => ?_, I.base.free, fun b o e hx => ?_, I.base.tups, I.base.frzs, I.base.tbls⟩, ⟨_, hn', fun j y v' e1 e2 e3 => ?_⟩, fun y c e => ?_, I.free, I.freeC, fun p hp => ?_, tracked ⟨oL, hoL, I.free⟩ hs, by simpa using I.len⟩ ⟨_, hs, .inl rfl⟩
    · exact (hs.2 b (Nat.ne_of_lt (Nat.lt_of_lt_of_le (Heap.lt_size e) I.ok.above))).trans (I.base.keep b o e n hb hx)
    · obtain ⟨sl, e1⟩ := I.base.slot b o e n hb hx
      exact ⟨sl, (hs.2 b (Nat.ne_of_lt (Nat.lt_of_lt_of_le (Heap.lt_size e) I.ok.above))).trans e1⟩
    · obtain ⟨o', e1⟩ := I.base.there b o e hx
      exact ⟨o', (hs.2 b (Nat.ne_of_lt (Nat.lt_of_lt_of_le (Heap.lt_size e) I.ok.above))).trans e1⟩
    · by_cases hj : j = i
      · subst hj
        rw [hi] at e1; cases e1
        rw [List.getElem?_set_self hiσ] at e2
        cases e2
        exact ⟨u, r, .inl ⟨hk, by simp⟩⟩
      · rw [List.getElem?_set_ne (Ne.symm hj)] at e2
        obtain ⟨u', r', q⟩ := hl j y v' e1 e2 e3
        refine ⟨u', r', ?_⟩
        rcases q with ⟨k, e⟩ | ⟨k, c, e, z⟩
        · refine .inl ⟨k, ?_⟩
          have : y ≠ x := fun e => hj (nodup_ix hN e1 (e ▸ hi))
          simp [this, e]
        · exact .inr ⟨k, c, e, z.sameBut hs (cne y c e)⟩
    · obtain ⟨w', z⟩ := I.cell y c e
      exact ⟨w', z.sameBut hs (cne y c e)⟩
    · obtain ⟨e, n, ne, nf, d⟩ := I.pin p hp
      exact ⟨(hs.2 p.1 ne).trans e, n, ne, nf, d⟩
  · have hfn : X.fn x = true := by
      rcases hf with z | z
      · exact z
      · rw [z] at hk; cases hk
    obtain ⟨c, hc⟩ := I.ok.has x (.inl hk)
    obtain ⟨w', z⟩ := I.cell x c hc
    refine wpAny_storeName_cell I.ok.kind hk hc z (fun h' hc' hs => ?_)
    obtain ⟨oc, hoc, hocd⟩ := id z
    refine h { s with heap := h' } ⟨I.ok, I.os, I.bare, ⟨fun b o e n hb hx => ?_, fun b o e n hb hx => ?_, I.base.free, fun b o e hx => ?_, I.base.tups, I.base.frzs, I.base.tbls⟩, ⟨m, hn.sameBut hs (Ne.symm (cne x c hc)), fun j y v' e1 e2 e3 => ?_⟩, fun y c' e => ?_, I.free, I.freeC, fun p hp => ?_, tracked ⟨oc, hoc, I.freeC x c hc⟩ hs, by simpa using I.len⟩ ⟨c, hs, .inr hc⟩
    · exact (hs.2 b (Nat.ne_of_lt (Nat.lt_of_lt_of_le (Heap.lt_size e) (I.ok.cab x c hfn hc)))).trans (I.base.keep b o e n hb hx)
    · obtain ⟨sl, e1⟩ := I.base.slot b o e n hb hx
      exact ⟨sl, (hs.2 b (Nat.ne_of_lt (Nat.lt_of_lt_of_le (Heap.lt_size e) (I.ok.cab x c hfn hc)))).trans e1⟩
    · obtain ⟨o', e1⟩ := I.base.there b o e hx
      exact ⟨o', (hs.2 b (Nat.ne_of_lt (Nat.lt_of_lt_of_le (Heap.lt_size e) (I.ok.cab x c hfn hc)))).trans e1⟩
    · by_cases hj : j = i
      · subst hj
        rw [hi] at e1; cases e1
        rw [List.getElem?_set_self hiσ] at e2
        cases e2
        exact ⟨u, r, .inr ⟨.inl hk, c, hc, hc'⟩⟩
      · rw [List.getElem?_set_ne (Ne.symm hj)] at e2
        obtain ⟨u', r', q⟩ := hl j y v' e1 e2 e3
        refine ⟨u', r', ?_⟩
        rcases q with q | ⟨k, c', e, z'⟩
        · exact .inl q
        · refine .inr ⟨k, c', e, z'.sameBut hs ?_⟩
          rintro rfl
          exact hj (nodup_ix hN e1 (I.ok.inj _ _ _ e hc ▸ hi))
    · by_cases hcc : c' = c
      · subst hcc; exact ⟨_, hc'⟩
      · obtain ⟨w2, z2⟩ := I.cell y c' e
        exact ⟨w2, z2.sameBut hs hcc⟩
    · obtain ⟨e, n, ne, nf, d⟩ := I.pin p hp
      refine ⟨(hs.2 p.1 ?_).trans e, n, ne, nf, d⟩
      intro q
      rw [q, hoc] at e
      have q' : oc = p.2 := Option.some.inj e
      exact d w' (by rw [← q']; exact hocd)
theorem store_ok {M : Model} {A : Around} {E : Value → Shared → Prop} {i : Nat} {x : Str} {v : V} {u : Value} {Q : Unit → Shared → Prop} (I : Inv X pins σ H s) (hN : X.N.Nodup) (hi : X.N[i]? = some x) (hx : Loc X.env.scope x) (r : RelV v u)
    (h : ∀ s', Inv X pins (σ.set i (some v)) H s' → Q () s') (hf : X.fn x = true ∨ X.env.scope.names.lookup x = some .local := by first | exact .inl rfl | exact .inr rfl | assumption) : wpAny M A (storeName X.env x u) Q E s :=
  store_ok2 I hN hi hx r (fun s' I' _ => h s' I') hf
/-- behind a call or a block, the state as it is -/
theorem Inv.call' {s' : Shared} {ch : List Addr} (I : Inv X pins σ H s) (ho : s'.os = s.os) (u : Un (frs X.stack) ch H H' s.heap s'.heap) (hok : HOk X.prog X.w H' s'.heap) (hg : AllBare s'.gens)
    (hch : ∀ b ∈ ch, (b ∈ X.ex ∨ X.s_0.heap.objs.size ≤ b) ∧ b ≠ X.env.locals ∧ (∀ x c, X.env.cells.lookup x = some c → c ≠ b) ∧ ∀ p ∈ X.pn ++ pins, p.1 ≠ b) : Inv X pins σ H' s' := by
  obtain ⟨h', g', d', t', o'⟩ := s'
  have e : o' = s.os := ho
  subst e
  exact I.call (g' := g') (t' := t') (d' := d') u hok hg hch
end

/-! ### the judgements -/
/-- an exception: its class, its own dict's address (where it has one), the abstract heap behind it -/
abbrev XK := Value → Option Addr → Hp → Prop
abbrev St := List (Option V)
abbrev VK := V → Hp → Prop
/-- an expression's reading; a test's; an argument list's -/
abbrev TE := St → Hp → VK → Prop
abbrev TT := St → Hp → (Bool → Hp → Prop) → Prop
abbrev TA := St → Hp → (List V → Hp → Prop) → Prop
/-- what is wanted behind a statement -/
structure Ends where
  nx : St → Hp → Prop
  rt : VK
  bk : St → Hp → Prop := fun _ _ => False
  ct : St → Hp → Prop := fun _ _ => False
abbrev TS := Ends → St → Hp → Prop

def EP (X : Cx) (pins : List (Addr × Obj)) (σ : St) (Q : VK) (u : Value) (s' : Shared) : Prop := ∃ v H', Inv X pins σ H' s' ∧ RelV v u ∧ Q v H'
def TP (X : Cx) (pins : List (Addr × Obj)) (σ : St) (Q : Bool → Hp → Prop) (b : Bool) (s' : Shared) : Prop := ∃ H', Inv X pins σ H' s' ∧ Q b H'
def AP (X : Cx) (pins : List (Addr × Obj)) (σ : St) (Q : List V → Hp → Prop) (us : List Value) (s' : Shared) : Prop := ∃ vs H', Inv X pins σ H' s' ∧ Vals vs us ∧ Q vs H'
def SP (X : Cx) (pins : List (Addr × Obj)) (D : Ends) (f : Flow) (s' : Shared) : Prop :=
  match f with
  | .next => ∃ σ' H', Inv X pins σ' H' s' ∧ D.nx σ' H'
  | .brk => ∃ σ' H', Inv X pins σ' H' s' ∧ D.bk σ' H'
  | .cont => ∃ σ' H', Inv X pins σ' H' s' ∧ D.ct σ' H'
  | .ret u => ∃ v σ' H', Inv X pins σ' H' s' ∧ RelV v u ∧ D.rt v H'

def PE (X : Cx) (e : Expr) (t : TE) : Prop :=
  ∀ (pins : List (Addr × Obj)) (s : Shared) (σ : St) (H : Hp) (Q : VK), Inv X pins σ H s → t σ H Q → wpAny (model X.prog X.w) X.A (eval e X.env) (EP X pins σ Q) X.xe s
def PT (X : Cx) (e : Expr) (t : TT) : Prop :=
  ∀ (pins : List (Addr × Obj)) (s : Shared) (σ : St) (H : Hp) (Q : Bool → Hp → Prop), Inv X pins σ H s → t σ H Q → wpAny (model X.prog X.w) X.A (isTrue e X.env (eval e X.env)) (TP X pins σ Q) X.xe s
/-- a test whatever its 'whole' is (and, or) -/
def PW (X : Cx) (e : Expr) (t : TT) : Prop :=
  ∀ (whole : Sem Value) (pins : List (Addr × Obj)) (s : Shared) (σ : St) (H : Hp) (Q : Bool → Hp → Prop), Inv X pins σ H s → t σ H Q → wpAny (model X.prog X.w) X.A (isTrue e X.env whole) (TP X pins σ Q) X.xe s
theorem PW.pt {X : Cx} {e : Expr} {t : TT} (h : PW X e t) : PT X e t := h _
/-- an argument list (no star), from the left -/
def PA (X : Cx) (es : List Expr) (t : TA) : Prop :=
  ∀ (pos : Pos) (pins : List (Addr × Obj)) (s : Shared) (σ : St) (H : Hp) (Q : List V → Hp → Prop), Inv X pins σ H s → t σ H Q → wpAny (model X.prog X.w) X.A (spliced (backTo pos (starEach es X.env))) (AP X pins σ Q) X.xe s
def PS (X : Cx) (st : Stmt) (t : TS) : Prop :=
  ∀ (pins : List (Addr × Obj)) (s : Shared) (σ : St) (H : Hp) (D : Ends), Inv X pins σ H s → t D σ H → wpAny (model X.prog X.w) X.A (exec st X.env) (SP X pins D) X.xe s
def PSs (X : Cx) (st : List Stmt) (t : TS) : Prop :=
  ∀ (pins : List (Addr × Obj)) (s : Shared) (σ : St) (H : Hp) (D : Ends), Inv X pins σ H s → t D σ H → wpAny (model X.prog X.w) X.A (execs st X.env) (SP X pins D) X.xe s
/-- weaken the end -/
theorem thn {α : Type} {t : Sem α} {Q Q' : α → Shared → Prop} {M : Model} {A : Around} {E : Value → Shared → Prop} {s : Shared} (h : wpAny M A t Q E s) (hQ : ∀ a s, Q a s → Q' a s) : wpAny M A t Q' E s := wpAny_mono h hQ fun _ _ x => x
end L2

namespace L2
open PySem PySem.Spec PyProof.Rows
section
variable {X : Cx}

/-! ### names and constants -/
def tVar (i : Nat) : TE := fun σ H Q => ∃ v, σ[i]? = some (some v) ∧ Q v H
def tC (v : V) : TE := fun _ H Q => Q v H
theorem pe_var {i : Nat} {x : Str} {pos : Pos} (hN : X.N[i]? = some x) (hv : Vis X.env.scope x) (hd : (x == ("__debug__" : Str)) = false := by decide) (hcd : (x == ("__classdict__" : Str)) = false := by decide) : PE X (.Name x pos) (tVar i) := by
  intro pins s σ H Q I h
  obtain ⟨v, e, h⟩ := h
  obtain ⟨m, hn, hl⟩ := I.loc
  obtain ⟨u, r, l⟩ := hl i x v hN e hv
  have fin : EP X pins σ Q u s := ⟨v, H, I, r, h⟩
  rcases l with ⟨hk, hm⟩ | ⟨hk, c, hc, hcell⟩
  · exact wpAny_Name (wpAny_loadName_local I.ok.kind hk hn hm fin) hd
  · rcases hk with hk | hk
    · exact wpAny_Name (wpAny_loadName_cell I.ok.kind hk hc hcell fin) hd
    · exact wpAny_Name (wpAny_loadName_free I.ok.kind hk hc hcell fin hcd) hd
theorem pe_int {i j pos} : PE X (.Constant (.int i) j pos) (tC (.int i)) := fun _ _ _ H _ I h => wpAny_Constant_int ⟨.int i, H, I.tok _, ⟨_, rfl⟩, h⟩
theorem pe_bl {b j pos} : PE X (.Constant (.bool b) j pos) (tC (.bl b)) := fun _ _ _ H _ I h => Constant_bool ⟨.bl b, H, I, rfl, h⟩
theorem pe_non {j pos} : PE X (.Constant .none j pos) (tC .non) := fun _ _ _ H _ I h => Constant_none ⟨.non, H, I, rfl, h⟩
theorem pe_str {x j pos} : PE X (.Constant (.str x) j pos) (tC (.str x)) := fun _ _ _ H _ I h => Calls.Constant_str ⟨.str x, H, I.tok _, ⟨_, rfl⟩, h⟩

/-- a global name of the def -/
def Gl (X : Cx) (x : Str) : Prop := X.env.kindOf x = some .globalImplicit
theorem ld_glob {E : Value → Shared → Prop} {pins : List (Addr × Obj)} {s : Shared} {σ : St} {H : Hp} {x : Str} {u : Value} {pos : Pos} {Q : Value → Shared → Prop} (I : Inv X pins σ H s) (hg : Gl X x) (hm : X.mg x = some u) (h : Q u s)
    (hd : (x == ("__debug__" : Str)) = false := by decide) : wpAny (model X.prog X.w) X.A (eval (.Name x pos) X.env) Q E s :=
  Calls.Name_function_global I.ok.kind hg (Calls.loadGlobal_global (by rw [I.ok.glob]; exact I.mod.glob.keeps I.bk) hm h) hd
theorem ld_blt {E : Value → Shared → Prop} {pins : List (Addr × Obj)} {s : Shared} {σ : St} {H : Hp} {x : Str} {u : Value} {pos : Pos} {Q : Value → Shared → Prop} (I : Inv X pins σ H s) (hg : Gl X x) (hm : X.mg x = none) (hv : bootBuiltins x = some u) (h : Q u s)
    (hn : x ≠ "__name__" := by decide) (hd : (x == ("__debug__" : Str)) = false := by decide) : wpAny (model X.prog X.w) X.A (eval (.Name x pos) X.env) Q E s := by
  obtain ⟨mb, h1, h2⟩ := I.mod.blt
  exact Calls.Name_function_global I.ok.kind hg (Calls.loadGlobal_builtin (by rw [I.ok.glob]; exact I.mod.glob.keeps I.bk) hm (by rw [I.ok.blt]; exact h1.keeps I.bk) ((h2 x hn).trans hv) h) hd
/-- a module's constant, a class, a function, as a value -/
theorem pe_glob {x : Str} {v : V} {u : Value} {pos : Pos} (hg : Gl X x) (hm : X.mg x = some u) (r : RelV v u) (hd : (x == ("__debug__" : Str)) = false := by decide) : PE X (.Name x pos) (tC v) :=
  fun _ _ _ H _ I h => ld_glob I hg hm ⟨v, H, I, r, h⟩ hd
theorem pe_bltn {x : Str} {v : V} {u : Value} {pos : Pos} (hg : Gl X x) (hm : X.mg x = none) (hv : bootBuiltins x = some u) (r : RelV v u) (hn : x ≠ "__name__" := by decide) (hd : (x == ("__debug__" : Str)) = false := by decide) : PE X (.Name x pos) (tC v) :=
  fun _ _ _ H _ I h => ld_blt I hg hm hv ⟨v, H, I, r, h⟩ hn hd

/-! ### arithmetic -/
/-- two ints -/
def t2I (ta tb : TE) (k : Int → Int → Hp → Prop) : St → Hp → Prop := fun σ H => ta σ H fun x H1 => tb σ H1 fun y H2 => ∃ i j, x = .int i ∧ y = .int j ∧ k i j H2
def tAdd (ta tb : TE) : TE := fun σ H Q => t2I ta tb (fun i j H2 => Q (.int (i + j)) H2) σ H
def tSub (ta tb : TE) : TE := fun σ H Q => t2I ta tb (fun i j H2 => Q (.int (i - j)) H2) σ H
/-- the left factor below 2^64 -/
def tMul (ta tb : TE) : TE := fun σ H Q => t2I ta tb (fun i j H2 => (-(2 ^ 64) < i ∧ i < 2 ^ 64) ∧ Q (.int (i * j)) H2) σ H
variable {a b : Expr} {ta tb : TE} {pos : Pos}
/-! ### comparisons -/
def PC (X : Cx) (op : CmpOp) (a b : Expr) (t : TE) : Prop :=
  ∀ (pins : List (Addr × Obj)) (s : Shared) (σ : St) (H : Hp) (Q : VK), Inv X pins σ H s → t σ H Q →
    wpAny (model X.prog X.w) X.A (eval a X.env) (fun v s₁ => wpAny (model X.prog X.w) X.A (eval b X.env) (fun u s₂ => wpAny (model X.prog X.w) X.A (compareOp op v u) (EP X pins σ Q) X.xe s₂) X.xe s₁) X.xe s
def tCmp (p : Int → Int → Bool) (ta tb : TE) : TE := fun σ H Q => t2I ta tb (fun i j H2 => Q (.bl (p i j)) H2) σ H
abbrev tLt : TE → TE → TE := tCmp fun i j => decide (i < j)
abbrev tLe : TE → TE → TE := tCmp fun i j => decide (i ≤ j)
abbrev tGt : TE → TE → TE := tCmp fun i j => decide (j < i)
abbrev tGe : TE → TE → TE := tCmp fun i j => decide (j ≤ i)
abbrev tEqI : TE → TE → TE := tCmp fun i j => decide (i = j)
abbrev tNeI : TE → TE → TE := tCmp fun i j => !decide (i = j)
/-- is None -/
def tIsN (ta : TE) : TE := fun σ H Q => ta σ H fun x H1 => Q (.bl (decide (x = .non))) H1
def tNotN (ta : TE) : TE := fun σ H Q => ta σ H fun x H1 => Q (.bl (!decide (x = .non))) H1
/-- a comparison as a value, as a test -/
def tB (t : TE) : TT := fun σ H Q => t σ H fun x H1 => ∃ c, x = .bl c ∧ Q c H1
/-- an expression whose value is a bool, as a test -/
theorem pt_val {e : Expr} {t : TE} (h : PE X e t) (he : ∀ whole, isTrue e X.env whole = (do let v ← whole; standAt e.pos; holding [v] (truthy v)) := by intro _; rfl) : PT X e (tB t) := by
  intro pins s σ H Q I hw
  refine isTrue_plain (thn (h pins s σ H _ I hw) fun v s1 ⟨x, H1, I1, r1, q1⟩ => ?_) (he _)
  obtain ⟨d, rfl, q⟩ := q1
  cases r1
  exact wpAny_truthy_bool ⟨H1, I1, q⟩

/-! ### and, or, not -/
variable {tA tB' : TT} {rest : List Expr}
def tAnd (t u : TT) : TT := fun σ H Q => t σ H fun c H1 => if c = true then u σ H1 Q else Q false H1
def tOr (t u : TT) : TT := fun σ H Q => t σ H fun c H1 => if c = true then Q true H1 else u σ H1 Q
def tNot (t : TT) : TT := fun σ H Q => t σ H fun c H1 => Q (!c) H1
theorem pw_or1 (ha : PT X a tA) : PW X (.BoolOp .Or [a] pos) tA := by
  intro wh pins s σ H Q I h
  refine isTrue_or (thn (ha pins s σ H Q I h) fun c s1 e => ?_)
  cases c with
  | false => exact isTrue_or_nil e
  | true => exact e
theorem pw_or (ha : PT X a tA) (hb : PW X (.BoolOp .Or (b :: rest) pos) tB') : PW X (.BoolOp .Or (a :: b :: rest) pos) (tOr tA tB') := by
  intro wh pins s σ H Q I h
  refine isTrue_or (thn (ha pins s σ H _ I h) fun c s1 ⟨H1, I1, q1⟩ => ?_)
  cases c with
  | true => exact ⟨H1, I1, q1⟩
  | false => exact hb wh pins s1 σ H1 Q I1 q1
theorem pt_not (ha : PT X a tA) : PT X (.UnaryOp .Not a pos) (tNot tA) := by
  intro pins s σ H Q I h
  exact isTrue_not (ha pins s σ H (fun c H1 => Q (!c) H1) I h)
/-- .. as values (bools) -/
def tAndV (ta tb : TE) : TE := fun σ H Q => ta σ H fun x H1 => ∃ c, x = .bl c ∧ if c = true then tb σ H1 Q else Q (.bl false) H1
def tOrV (ta tb : TE) : TE := fun σ H Q => ta σ H fun x H1 => ∃ c, x = .bl c ∧ if c = true then Q (.bl true) H1 else tb σ H1 Q
def tNotV (ta : TE) : TE := fun σ H Q => ta σ H fun x H1 => ∃ c, x = .bl c ∧ Q (.bl (!c)) H1
theorem pe_one {op} {t : TE} (h : PE X a t) : PE X (.BoolOp op [a] pos) t := fun pins s σ H Q I hw => BoolOp_one (h pins s σ H Q I hw)
theorem pe_and (ha : PE X a ta) (hb : PE X (.BoolOp .And (b :: rest) pos) tb) : PE X (.BoolOp .And (a :: b :: rest) pos) (tAndV ta tb) := by
  intro pins s σ H Q I h
  refine BoolOp_and (thn (ha pins s σ H _ I h) fun v s1 ⟨x, H1, I1, r1, q1⟩ => ?_)
  obtain ⟨c, rfl, q1⟩ := q1
  cases r1
  refine wpAny_truthy_bool ?_
  cases c with
  | true => exact hb pins s1 σ H1 Q I1 q1
  | false => exact ⟨.bl false, H1, I1, rfl, q1⟩
theorem pe_not (ha : PE X a ta) : PE X (.UnaryOp .Not a pos) (tNotV ta) := by
  intro pins s σ H Q I h
  refine UnaryOp_ (thn (ha pins s σ H _ I h) fun v s1 ⟨x, H1, I1, r1, q1⟩ => ?_)
  obtain ⟨c, rfl, q1⟩ := q1
  cases r1
  exact not_of (wpAny_truthy_bool ⟨.bl (!c), H1, I1, rfl, q1⟩)
/-- a if t else b -/
def tIf (t : TT) (ta tb : TE) : TE := fun σ H Q => t σ H fun c H1 => if c = true then ta σ H1 Q else tb σ H1 Q
end
end L2

namespace L2
open PySem PySem.Spec PyProof.Rows

/-! ### a list, a tuple that is read: tracked, frozen, or an object of the module -/
def SqL (K : PySem.W.Frag) (H : Hp) (a : Addr) (xs : List V) : Prop :=
  Rd H a (.lst xs) ∨
    ∃ (o : Obj) (its : Array Value) (n : Nat), K.lookup a = some o ∧ o.cls = .type "list" ∧ o.dict = none ∧ o.data = .seq its n ∧ its.size ≤ sizeLine ∧ Vals xs its.toList
def SqT (K : PySem.W.Frag) (H : Hp) (a : Addr) (xs : List V) : Prop :=
  Rd H a (.tup xs) ∨
    ∃ (o : Obj) (its : Array Value) (n : Nat), K.lookup a = some o ∧ o.cls = .type "tuple" ∧ o.data = .seq its n ∧ its.size ≤ sizeLine ∧ Vals xs its.toList
def absV : Value → Option V
  | .none => some .non
  | .bool b => some (.bl b)
  | .int i _ => some (.int i)
  | .str x _ => some (.str x)
  | .bytes b _ => some (.byt b)
  | .float b _ => some (.flt b)
  | .ref a => some (.ref a)
  | .type n => some (.ty n)
  | _ => none
theorem RelV.abs {x : V} {u : Value} (r : RelV x u) : absV u = some x := by
  cases x with
  | non => cases r; rfl
  | bl _ => cases r; rfl
  | int _ => obtain ⟨t, rfl⟩ := r; rfl
  | str _ => obtain ⟨t, rfl⟩ := r; rfl
  | byt _ => obtain ⟨t, rfl⟩ := r; rfl
  | flt _ => obtain ⟨t, rfl⟩ := r; rfl
  | ref _ => cases r; rfl
  | ty _ => cases r; rfl
theorem RelV.inj {x y : V} {u : Value} (r : RelV x u) (q : RelV y u) : x = y := Option.some.inj (r.abs.symm.trans q.abs)
theorem Vals.inj : ∀ {xs ys : List V} {us : List Value}, Vals xs us → Vals ys us → xs = ys
  | _, _, _, .nil, .nil => rfl
  | _, _, _, .cons r t, .cons r' t' => by rw [r.inj r', Vals.inj t t']
section
variable {X : Cx} {pins : List (Addr × Obj)} {σ : St} {H : Hp} {s : Shared} {a : Addr} {xs ys : List V}
theorem SqL.of {K : PySem.W.Frag} (h : H a = some (.lst xs)) : SqL K H a xs := .inl (.inl h)
theorem SqT.of {K : PySem.W.Frag} (h : H a = some (.tup xs)) : SqT K H a xs := .inl (.inl h)
theorem Inv.list (I : Inv X pins σ H s) (h : SqL X.K H a xs) : ∃ its : List Value, Vals xs its ∧ PlainL s.heap a its.toArray ∧ xs.length ≤ sizeLine := by
  rcases h with h | ⟨o, its, n, hk, hc, hd, hs, hz, r⟩
  · obtain ⟨z, its, n, r, e⟩ := h.ok I.hok
    exact ⟨its, r, ⟨_, n, e, rfl, rfl, rfl⟩, z⟩
  · refine ⟨its.toList, r, ⟨o, n, I.kIn a o hk, hc, hd, by simpa using hs⟩, ?_⟩
    have e := r.length
    simp only [Array.length_toList] at e
    omega
theorem Inv.tuple (I : Inv X pins σ H s) (h : SqT X.K H a xs) : ∃ its : List Value, Vals xs its ∧ IsTup s.heap a its.toArray ∧ xs.length ≤ sizeLine := by
  rcases h with h | ⟨o, its, n, hk, hc, hs, hz, r⟩
  · obtain ⟨z, its, r, p⟩ := h.ok I.hok
    exact ⟨its, r, p, z⟩
  · refine ⟨its.toList, r, ⟨o, I.kIn a o hk, hc, n, by simpa using hs⟩, ?_⟩
    have e := r.length
    simp only [Array.length_toList] at e
    omega
theorem Inv.list_inj (I : Inv X pins σ H s) (h : SqL X.K H a xs) (h' : SqL X.K H a ys) : xs = ys := by
  obtain ⟨its, r, ⟨o, n, e, _, _, d⟩, _⟩ := I.list h
  obtain ⟨its', r', ⟨o', n', e', _, _, d'⟩, _⟩ := I.list h'
  rw [e] at e'; cases e'
  rw [d] at d'
  injection d' with d1 _
  have : its = its' := by simpa using congrArg Array.toList d1
  subst this
  exact r.inj r'
theorem Inv.tuple_inj (I : Inv X pins σ H s) (h : SqT X.K H a xs) (h' : SqT X.K H a ys) : xs = ys := by
  obtain ⟨its, r, ⟨o, e, _, n, d⟩, _⟩ := I.tuple h
  obtain ⟨its', r', ⟨o', e', _, n', d'⟩, _⟩ := I.tuple h'
  rw [e] at e'; cases e'
  rw [d] at d'
  injection d' with d1 _
  have : its = its' := by simpa using congrArg Array.toList d1
  subst this
  exact r.inj r'
end

/-! ### another wish about exceptions -/
abbrev Cx.wish (X : Cx) (E : Value → Shared → Prop) : Cx := { X with xe := E }
/-- no exception leaves -/
abbrev Cx.nox (X : Cx) : Cx := X.wish fun _ _ => False
theorem Cx.Ok.wish {X : Cx} (ok : X.Ok) (E : Value → Shared → Prop) : (X.wish E).Ok :=
  ⟨ok.mod, ok.kind, ok.glob, ok.blt, ok.above, ok.inj, ok.has, ok.cab, ok.hd, ok.frames, ok.stk, ok.exf, ok.bs, ok.bsz, ok.noex, ok.exfs, ok.funs, ok.frf⟩
theorem Cx.Ok.unwish {X : Cx} {E : Value → Shared → Prop} (ok : (X.wish E).Ok) : X.Ok :=
  ⟨ok.mod, ok.kind, ok.glob, ok.blt, ok.above, ok.inj, ok.has, ok.cab, ok.hd, ok.frames, ok.stk, ok.exf, ok.bs, ok.bsz, ok.noex, ok.exfs, ok.funs, ok.frf⟩
section
variable {X : Cx} {pins : List (Addr × Obj)} {σ : St} {H : Hp} {s : Shared} {E : Value → Shared → Prop}
theorem Inv.wish (I : Inv X pins σ H s) (E : Value → Shared → Prop) : Inv (X.wish E) pins σ H s := ⟨I.ok.wish E, I.os, I.bare, I.base, I.loc, I.cell, I.free, I.freeC, I.pin, I.hok, I.len⟩
theorem Inv.unwish (I : Inv (X.wish E) pins σ H s) : Inv X pins σ H s := ⟨I.ok.unwish, I.os, I.bare, I.base, I.loc, I.cell, I.free, I.freeC, I.pin, I.hok, I.len⟩
theorem SP.unwish {D : Ends} {f : Flow} {s' : Shared} (h : SP (X.wish E) pins D f s') : SP X pins D f s' := by
  cases f with
  | next => obtain ⟨σ', H', I, q⟩ := h; exact ⟨σ', H', I.unwish, q⟩
  | brk => obtain ⟨σ', H', I, q⟩ := h; exact ⟨σ', H', I.unwish, q⟩
  | cont => obtain ⟨σ', H', I, q⟩ := h; exact ⟨σ', H', I.unwish, q⟩
  | ret u => obtain ⟨v, σ', H', I, r, q⟩ := h; exact ⟨v, σ', H', I.unwish, r, q⟩
theorem PE.nox {e : Expr} {t : TE} (h : PE X.nox e t) : PE X e t := fun pins s σ H Q I hw =>
  wpAny_mono (h pins s σ H Q (I.wish _) hw) (fun _ _ ⟨v, H', I', r, q⟩ => ⟨v, H', I'.unwish, r, q⟩) fun _ _ z => False.elim z
theorem PT.nox {e : Expr} {t : TT} (h : PT X.nox e t) : PT X e t := fun pins s σ H Q I hw =>
  wpAny_mono (h pins s σ H Q (I.wish _) hw) (fun _ _ ⟨H', I', q⟩ => ⟨H', I'.unwish, q⟩) fun _ _ z => False.elim z
theorem PSs.nox {st : List Stmt} {t : TS} (h : PSs X.nox st t) : PSs X st t := fun pins s σ H D I hw =>
  wpAny_mono (h pins s σ H D (I.wish _) hw) (fun _ _ q => q.unwish) fun _ _ z => False.elim z
end

/-! ### blocks and small statements -/
section
variable {X : Cx} {st : Stmt} {rest : List Stmt} {t u : TS} {e : Expr} {te : TE} {pos : Pos}
def tNext : TS := fun D σ H => D.nx σ H
def tSeq (t u : TS) : TS := fun D σ H => t { D with nx := u D } σ H
theorem pss_nil : PSs X [] tNext := fun _ _ σ H _ I h => wpAny_execs_nil ⟨σ, H, I, h⟩
theorem pss_cons (h1 : PS X st t) (h2 : PSs X rest u) : PSs X (st :: rest) (tSeq t u) := by
  intro pins s σ H D I h
  refine wpAny_execs_cons (thn (h1 pins s σ H { D with nx := u D } I h) fun f s1 q => ?_)
  cases f with
  | next =>
    obtain ⟨σ', H', I', q⟩ := q
    exact h2 pins s1 σ' H' D I' q
  | ret v => exact q
  | brk => exact q
  | cont => exact q
theorem pss_one (h1 : PS X st t) : PSs X [st] t := by
  intro pins s σ H D I h
  refine wpAny_execs_cons (thn (h1 pins s σ H D I h) fun f s1 q => ?_)
  cases f with
  | next => exact wpAny_execs_nil q
  | ret v => exact q
  | brk => exact q
  | cont => exact q
def tBreak : TS := fun D σ H => D.bk σ H
def tCont : TS := fun D σ H => D.ct σ H
/-- in a def's body nothing is shown -/
theorem Inv.quiet {pins : List (Addr × Obj)} {σ : St} {H : Hp} {s : Shared} (I : Inv X pins σ H s) : interactive X.env = false := by simp [interactive, I.ok.kind]
/-- an expression whose value is dropped -/
def tDrop (te : TE) : TS := fun D σ H => te σ H fun _ H1 => D.nx σ H1
theorem ps_expr (he : PE X e te) (hs : swapsWith e none pos.line X.env = pure false := by rfl) : PS X (.Expr e pos) (tDrop te) := by
  intro pins s σ H D I h
  exact wpAny_Expr_any (thn (he pins s σ H _ I h) fun v s1 ⟨x, H1, I1, r1, q1⟩ => ⟨σ, H1, I1, q1⟩) I.quiet hs
def tRet (te : TE) : TS := fun D σ H => te σ H D.rt
theorem ps_ret (he : PE X e te) : PS X (.Return (some e) pos) (tRet te) := by
  intro pins s σ H D I h
  exact wpAny_Return_some (thn (he pins s σ H _ I h) fun v s1 ⟨x, H1, I1, r1, q1⟩ => ⟨x, σ, H1, I1, r1, q1⟩)
def tRetN : TS := fun D _ H => D.rt .non H
def tIfS (c : TT) (t u : TS) : TS := fun D σ H => c σ H fun b H1 => if b = true then t D σ H1 else u D σ H1
theorem ps_if {c : Expr} {a b : List Stmt} {tc : TT} (hc : PT X c tc) (ha : PSs X a t) (hb : PSs X b u) : PS X (.If c a b pos) (tIfS tc t u) := by
  intro pins s σ H D I h
  refine wpAny_If (thn (hc pins s σ H _ I h) fun d s1 ⟨H1, I1, q1⟩ => ?_)
  cases d with
  | true => exact ha pins s1 σ H1 D I1 q1
  | false => exact hb pins s1 σ H1 D I1 q1
/-- code that the proof never comes to -/
def tNever : TS := fun _ _ _ => False
theorem pss_never {sts : List Stmt} : PSs X sts tNever := fun _ _ _ _ _ _ h => h.elim
end

/-! ### targets -/
abbrev TG := V → St → Hp → (St → Hp → Prop) → Prop
abbrev TGs := List V → St → Hp → (St → Hp → Prop) → Prop
def PG (X : Cx) (target : Expr) (t : TG) : Prop :=
  ∀ (pins : List (Addr × Obj)) (s : Shared) (σ : St) (H : Hp) (v : V) (u : Value) (Q : St → Hp → Prop), Inv X pins σ H s → RelV v u → t v σ H Q →
    wpAny (model X.prog X.w) X.A (assign target X.env u) (fun _ s' => ∃ σ' H', Inv X pins σ' H' s' ∧ Q σ' H') X.xe s
/-- several targets, one after another -/
def PGs (X : Cx) (ts : List Expr) (t : TGs) : Prop :=
  ∀ (pins : List (Addr × Obj)) (s : Shared) (σ : St) (H : Hp) (vs : List V) (us : List Value) (Q : St → Hp → Prop), Inv X pins σ H s → Vals vs us → t vs σ H Q →
    wpAny (model X.prog X.w) X.A (assignInOrder ((assignEach ts X.env).map (·.2)) us) (fun _ s' => ∃ σ' H', Inv X pins σ' H' s' ∧ Q σ' H') X.xe s
/-- o[i] = v, by values -/
abbrev TSet := V → V → V → Hp → (Hp → Prop) → Prop
def PSet (X : Cx) (t : TSet) : Prop :=
  ∀ (pins : List (Addr × Obj)) (s : Shared) (σ : St) (H : Hp) (o i v : V) (ov iv u : Value) (Q : Hp → Prop), Inv X pins σ H s → RelV o ov → RelV i iv → RelV v u → t o i v H Q →
    wpAny (model X.prog X.w) X.A (setItem ov iv u) (fun _ s' => ∃ H', Inv X pins σ H' s' ∧ Q H') X.xe s
/-- a op= b, by values -/
abbrev TIp := V → V → Hp → VK → Prop
def PIp (X : Cx) (op : Operator) (t : TIp) : Prop :=
  ∀ (pins : List (Addr × Obj)) (s : Shared) (σ : St) (H : Hp) (x y : V) (v u : Value) (Q : VK), Inv X pins σ H s → RelV x v → RelV y u → t x y H Q →
    wpAny (model X.prog X.w) X.A (inplaceOp op v u) (EP X pins σ Q) X.xe s
section
variable {X : Cx} {pos : Pos}
def gName (i : Nat) : TG := fun v σ H Q => Q (σ.set i (some v)) H
theorem pg_name {i : Nat} {x : Str} (hN : X.N.Nodup) (hi : X.N[i]? = some x) (hx : Loc X.env.scope x) (hf : X.fn x = true ∨ X.env.scope.names.lookup x = some .local := by first | exact .inl rfl | exact .inr rfl | assumption) : PG X (.Name x pos) (gName i) := by
  intro pins s σ H v u Q I r h
  exact wpAny_assign_Name (store_ok I hN hi hx r (fun s' I' => ⟨_, H, I', h⟩) hf)
def gNil : TGs := fun vs σ H Q => vs = [] ∧ Q σ H
def gCons (t : TG) (u : TGs) : TGs := fun vs σ H Q => ∃ v r, vs = v :: r ∧ t v σ H fun σ' H' => u r σ' H' Q
theorem pgs_nil : PGs X [] gNil := by
  intro pins s σ H vs us Q I r h
  obtain ⟨e, h⟩ := h
  subst e
  cases r
  exact assignInOrder_nil ⟨σ, H, I, h⟩
theorem pgs_cons {e : Expr} {es : List Expr} {t : TG} {u : TGs} (h1 : PG X e t) (h2 : PGs X es u)
    (hs : (assignEach (e :: es) X.env).map (·.2) = assign e X.env :: (assignEach es X.env).map (·.2) := by rfl) : PGs X (e :: es) (gCons t u) := by
  intro pins s σ H vs us Q I r h
  obtain ⟨v, vr, e1, h⟩ := h
  subst e1
  cases r with
  | cons r rr =>
    rw [hs]
    refine assignInOrder_cons (thn (h1 pins s σ H _ _ _ I r h) fun _ s1 ⟨σ1, H1, I1, q1⟩ => ?_)
    exact h2 pins s1 σ1 H1 _ _ Q I1 rr q1
/-- (a, b, ..) = a tuple of that length -/
def gTup (K : PySem.W.Frag) (n : Nat) (t : TGs) : TG := fun v σ H Q => ∃ a xs, v = .ref a ∧ SqT K H a xs ∧ xs.length = n ∧ t xs σ H Q
theorem pg_tup {es : List Expr} {k : Nat} {t : TGs} {n : Nat} (hc : X.calm = true) (h : PGs X es t)
    (hn : (assignEach es X.env).length = n := by rfl) (hst : (assignEach es X.env).findIdx? (·.1) = none := by rfl) : PG X (.Tuple es k pos) (gTup X.K n t) := by
  intro pins s σ H v u Q I r hw
  obtain ⟨a, xs, e1, hq, hl, hw⟩ := hw
  subst e1
  cases r
  obtain ⟨its, rv, ht, hz⟩ := I.tuple hq
  refine assign_Tuple_tuple (I.ok.hd hc) ht (by simp [hn, ← hl, rv.length]) hst fun h' hx => ?_
  have I1 : Inv X pins σ H { s with heap := h' } := I.kept (t' := s.toks) fun b o e => hx b o (Nat.ne_of_lt (Heap.lt_size e)) e
  exact h pins _ σ H xs _ Q I1 (by simpa using rv) hw
/-- o[i] = .. -/
def gSub (to ti : TE) (t : TSet) : TG := fun v σ H Q => to σ H fun o H1 => ti σ H1 fun i H2 => t o i v H2 fun H3 => Q σ H3
theorem pg_sub {o i : Expr} {to ti : TE} {t : TSet} (ho : PE X o to) (hi : PE X i ti) (hs : PSet X t)
    (ha : ∀ v, assign (.Subscript o i pos) X.env v = (do
      let ov ← holding [v] (eval o X.env)
      let iv ← holding [v, ov] (eval i X.env)
      standAt pos
      holding [v, ov, iv] (setItem ov iv v)
      release [v, ov, iv] []) := by intro _; rfl) : PG X (.Subscript o i pos) (gSub to ti t) := by
  intro pins s σ H v u Q I r h
  rw [ha]
  refine wpAny_bind (wpAny_holding (thn (ho pins s σ H _ I h) fun ov s1 ⟨x, H1, I1, r1, q1⟩ => ?_))
  refine wpAny_bind (wpAny_holding (thn (hi pins s1 σ H1 _ I1 q1) fun iv s2 ⟨y, H2, I2, r2, q2⟩ => ?_))
  refine wpAny_bind (wpAny_standAt (wpAny_bind (wpAny_holding (thn (hs pins s2 σ H2 x y v ov iv u _ I2 r1 r2 r q2) fun _ s3 ⟨H3, I3, q3⟩ => ?_))))
  exact wpAny_release ⟨σ, H3, I3, q3⟩
/-- target = value -/
def tAsg (te : TE) (g : TG) : TS := fun D σ H => te σ H fun x H1 => g x σ H1 D.nx
theorem ps_asg {tg e : Expr} {te : TE} {g : TG} (he : PE X e te) (hg : PG X tg g) (hs : swapsWithSole [tg] e pos.line X.env = pure false := by rfl) (hw : swappedStores [tg] e X.env = pure none := by rfl)
    (h1 : (assignEach [tg] X.env).map (·.2) = [assign tg X.env] := by rfl) : PS X (.Assign [tg] e pos) (tAsg te g) := by
  intro pins s σ H D I h
  refine wpAny_Assign_stores (thn (he pins s σ H _ I h) fun v s1 ⟨x, H1, I1, r1, q1⟩ => ?_) hs hw
  rw [h1]
  exact thn (hg pins s1 σ H1 x v _ I1 r1 q1) fun _ s2 q => q
/-- name = value -/
theorem ps_set {i : Nat} {x : Str} {e : Expr} {te : TE} {pos' : Pos} (hN : X.N.Nodup) (hi : X.N[i]? = some x) (hx : Loc X.env.scope x) (he : PE X e te) (hs : swapsWith e (some (.Name x pos')) pos.line X.env = pure false := by rfl) (hf : X.fn x = true ∨ X.env.scope.names.lookup x = some .local := by first | exact .inl rfl | exact .inr rfl | assumption) :
    PS X (.Assign [.Name x pos'] e pos) (tAsg te (gName i)) := by
  intro pins s σ H D I h
  refine wpAny_Assign_Name (thn (he pins s σ H _ I h) fun v s1 ⟨y, H1, I1, r1, q1⟩ => ?_) hs
  exact store_ok I1 hN hi hx r1 (fun s2 I2 => ⟨_, H1, I2, q1⟩) hf
/-- a, b = x, y with plain local names: stored from the right; the pair itself is not tracked (the opening rows as in PyProof/Rows/TupAssign.lean:23) -/
def tPar (i j : Nat) (ta : TA) : TS := fun D σ H => ta σ H fun vs H1 => ∃ v w, vs = [v, w] ∧ D.nx ((σ.set i (some v)).set j (some w)) H1
/-- name op= e -/
def tAug (i : Nat) (te : TE) (ti : TIp) : TS := fun D σ H => ∃ x, σ[i]? = some (some x) ∧ te σ H fun y H1 => ti x y H1 fun z H2 => D.nx (σ.set i (some z)) H2
/-- o[i] op= e -/
def tAugS (to ti te : TE) (tget : V → V → Hp → VK → Prop) (tip : TIp) (tset : TSet) : TS := fun D σ H => to σ H fun o H1 => ti σ H1 fun i H2 => tget o i H2 fun x H3 => te σ H3 fun y H4 => tip x y H4 fun z H5 => tset o i z H5 fun H6 => D.nx σ H6
/-- o[i], by values -/
def PGet (X : Cx) (t : V → V → Hp → VK → Prop) : Prop :=
  ∀ (pins : List (Addr × Obj)) (s : Shared) (σ : St) (H : Hp) (o i : V) (ov iv : Value) (Q : VK), Inv X pins σ H s → RelV o ov → RelV i iv → t o i H Q →
    wpAny (model X.prog X.w) X.A (getItem ov iv) (EP X pins σ Q) X.xe s
/-- ints -/
def ipI (f : Int → Int → Int) : TIp := fun x y H Q => ∃ i j, x = .int i ∧ y = .int j ∧ Q (.int (f i j)) H
theorem ip_add : PIp X .Add (ipI fun i j => i + j) := by
  intro pins s σ H x y v u Q I r1 r2 h
  obtain ⟨i, j, e1, e2, q⟩ := h
  subst e1; subst e2
  obtain ⟨t, rfl⟩ := r1
  obtain ⟨t', rfl⟩ := r2
  exact iadd_int ⟨.int _, H, I.tok _, ⟨_, rfl⟩, q⟩
theorem ip_sub : PIp X .Sub (ipI fun i j => i - j) := by
  intro pins s σ H x y v u Q I r1 r2 h
  obtain ⟨i, j, e1, e2, q⟩ := h
  subst e1; subst e2
  obtain ⟨t, rfl⟩ := r1
  obtain ⟨t', rfl⟩ := r2
  exact isub_int ⟨.int _, H, I.tok _, ⟨_, rfl⟩, q⟩
end

/-! ### while -/
section
variable {X : Cx} {pos : Pos}
/-- the invariant W with its measure -/
def tWhile (c : TT) (tb : TS) : TS := fun D σ H => ∃ W : Nat → St → Hp → Prop, (∃ m, W m σ H) ∧ ∀ m σ H, W m σ H →
  c σ H fun b H1 => if b = true then ∃ N : St → Hp → Prop, (∀ σ' H', N σ' H' → ∃ m', m' < m ∧ W m' σ' H') ∧ tb { D with nx := N, ct := N, bk := D.nx } σ H1 else D.nx σ H1
end

/-! ### what a loop or a comprehension walks -/
/-- at turn i: it yields x (the heap may grow), or it stops -/
structure It where
  go : Nat → Hp → Prop
  yld : Nat → Hp → V → Hp → Prop
  stop : Nat → Hp → Prop
/-- the iterator's own objects may turn: they are not the frame's, not pinned, younger than the entry (or a comprehension's own) -/
def FpOk (X : Cx) (pins : List (Addr × Obj)) (H : Hp) (b : Addr) : Prop :=
  H b = none ∧ b ≠ X.env.locals ∧ b ∉ X.fs ∧ (b ∈ X.ex ∨ X.s_0.heap.objs.size ≤ b) ∧ (∀ x c, X.env.cells.lookup x = some c → c ≠ b) ∧ ∀ p ∈ X.pn ++ pins, p.1 ≠ b
theorem Inv.fpOk {X : Cx} {pins : List (Addr × Obj)} {σ : St} {H H' : Hp} {s : Shared} {b : Addr} (I : Inv X pins σ H s) (hb : s.heap.objs.size ≤ b) (hn : H' b = none) : FpOk X pins H' b := by
  refine ⟨hn, Nat.ne_of_gt (Nat.lt_of_lt_of_le I.lt hb), I.nofs hb, .inr (Nat.le_trans I.sz hb), fun x c e z => ?_, fun p hp z => ?_⟩
  · obtain ⟨v, q⟩ := I.cell x c e
    exact absurd (Nat.lt_of_lt_of_le q.lt (by rw [z]; exact hb)) (Nat.lt_irrefl _)
  · exact absurd (Nat.lt_of_lt_of_le (Heap.lt_size (I.pin p hp).1) (by rw [z]; exact hb)) (Nat.lt_irrefl _)
structure Turn (P : Program) (w : World) (K : PySem.W.Frag) (tg : Expr) (J : It) (fp : List Addr) (it : Addr) (tn : Nat → Heap → Prop) : Prop where
  mem : it ∈ fp
  obj : ∀ i h, tn i h → ∀ b ∈ fp, ∃ o, h.get? b = some o ∧ ∀ v, o.data ≠ .cell v
  keep : ∀ i h h', tn i h → (∀ b ∈ fp, ∀ o, h.get? b = some o → h'.get? b = some o) → tn i h'
  item : ∀ (X : Cx), X.prog = P → X.w = w → X.K = K → X.calm = true → ∀ (i : Nat) (pins : List (Addr × Obj)) (s : Shared) (σ : St) (H : Hp) (E : Value → Shared → Prop), Inv X pins σ H s → (∀ b ∈ fp, FpOk X pins H b) → tn i s.heap → J.go i H →
    wpAny (model P w) X.A (pyNext (.ref it)) (fun r s1 => ∃ u, r = some u ∧
      wpAny (model P w) X.A (letOwnedTupleGo tg (.ref it) u) (fun _ s2 => ∃ x H', Inv X pins σ H' s2 ∧ RelV x u ∧ J.yld i H x H' ∧ tn (i + 1) s2.heap ∧ ∀ b ∈ fp, H' b = none) E s1) E s
  done : ∀ (X : Cx), X.prog = P → X.w = w → X.K = K → X.calm = true → ∀ (i : Nat) (pins : List (Addr × Obj)) (s : Shared) (σ : St) (H : Hp) (E : Value → Shared → Prop), Inv X pins σ H s → (∀ b ∈ fp, FpOk X pins H b) → tn i s.heap → J.stop i H →
    wpAny (model P w) X.A (pyNext (.ref it)) (fun r s1 => r = none ∧ Inv X pins σ H s1) E s
  self : ∀ (A : Around) (i : Nat) (s : Shared) (Q : Value → Shared → Prop) (E : Value → Shared → Prop), tn i s.heap → Q (.ref it) s → wpAny (model P w) A (pyIter (.ref it)) Q E s
abbrev TI := St → Hp → (It → Hp → Prop) → Prop
/-- an iterator has come -/
def PIE (X : Cx) (pins : List (Addr × Obj)) (σ : St) (tg : Expr) (R : It → Hp → Prop) (itv : Value) (s2 : Shared) : Prop :=
  ∃ (it : Addr) (fp : List Addr) (tn : Nat → Heap → Prop) (J : It) (H' : Hp), itv = .ref it ∧ Inv X pins σ H' s2 ∧ Turn X.prog X.w X.K tg J fp it tn ∧ tn 0 s2.heap ∧ (∀ b ∈ fp, FpOk X pins H' b) ∧ R J H'
def PI (X : Cx) (tg iter : Expr) (wi : TI) : Prop :=
  ∀ (pins : List (Addr × Obj)) (s : Shared) (σ : St) (H : Hp) (R : It → Hp → Prop), Inv X pins σ H s → wi σ H R →
    wpAny (model X.prog X.w) X.A (eval iter X.env) (fun v s1 => wpAny (model X.prog X.w) X.A (pyIter v) (PIE X pins σ tg R) X.xe s1) X.xe s

/-- the step ahead of the store is nothing for an iterator that keeps no tuple -/
theorem go_of {M : Model} {A : Around} {E : Value → Shared → Prop} {s : Shared} {tg : Expr} {it : Addr} {u : Value} {o : Obj} {n : String} {vs : Array Value} {Q : Unit → Shared → Prop} (ho : s.heap.get? it = some o) (hc : o.cls = .type n) (hd : o.data = .fields vs)
    (hn : ["enumerate", "zip", "dict_itemiterator", "dict_reverseitemiterator", "odict_iterator", "itertools.zip_longest", "itertools.pairwise"].contains n = false) (hQ : Q () s) : wpAny M A (letOwnedTupleGo tg (.ref it) u) Q E s := by
  unfold letOwnedTupleGo
  cases tg <;> first
    | exact wpAny_pure hQ
    | (cases u <;> first
        | exact wpAny_pure hQ
        | (refine wpAny_bind (wpAny_load ho ?_)
           rw [hc, hd]
           show wpAny M A (if (["enumerate", "zip", "dict_itemiterator", "dict_reverseitemiterator", "odict_iterator", "itertools.zip_longest", "itertools.pairwise"].contains n && vs[0]? == some (rawInt _)) = true then _ else _) Q E s
           rw [if_neg (by intro h; rw [hn, Bool.false_and] at h; cases h)]
           exact wpAny_pure hQ))

/-- the list at a, as it stands at each turn (a loop may append to it) -/
def Itl (K : PySem.W.Frag) (a : Addr) : It :=
  ⟨fun i H => ∃ xs x, SqL K H a xs ∧ xs[i]? = some x, fun i H x H' => H' = H ∧ ∀ xs, SqL K H a xs → xs[i]? = some x, fun i H => ∃ xs, SqL K H a xs ∧ xs.length ≤ i⟩
def Itt (K : PySem.W.Frag) (a : Addr) : It :=
  ⟨fun i H => ∃ xs x, SqT K H a xs ∧ xs[i]? = some x, fun i H x H' => H' = H ∧ ∀ xs, SqT K H a xs → xs[i]? = some x, fun i H => ∃ xs, SqT K H a xs ∧ xs.length ≤ i⟩
/-- lo, lo + 1, .. (n of them) -/
def Itr (lo : Int) (n : Nat) : It := ⟨fun i _ => i < n, fun i H x H' => H' = H ∧ x = .int (lo + i), fun i _ => n ≤ i⟩
theorem turn_range {P : Program} {w : World} {K : PySem.W.Frag} {tg : Expr} (it : Addr) (lo : Int) (n : Nat) : Turn P w K tg (Itr lo n) [it] it (fun i h => IsRangeIter h it (lo + (i : Nat) * 1) ((n : Int) - (i : Nat)) 1) where
  mem := by simp
  obj := fun i h st b hb => by
    have e : b = it := by simpa using hb
    subst e
    exact ⟨_, st, fun v z => by
      have z' : Data.fields _ = Data.cell v := z
      cases z'⟩
  keep := fun i h h' st k => k it (by simp) _ st
  item := by
    intro X hP hw hK hc i pins s σ H E I hf st hg
    subst hP hw hK
    obtain ⟨f0, f1, f2, f3, f4, f5⟩ := hf it (by simp)
    have W := Walks.range (prog := X.prog) (w := X.w) (I.ok.hd hc) it lo 1 n
    refine W.item i s _ _ hg st fun v h' tk hv st' kk => ?_
    obtain ⟨t, rfl⟩ := hv
    have I1 : Inv X pins σ H { s with heap := h', toks := tk } := I.turned (fun b o hb e => kk b o (by simpa using hb) e) f0 f1 f3 f4 f5
    refine ⟨_, rfl, go_of (s := { s with heap := h', toks := tk }) (n := "range_iterator") st' rfl rfl (by decide) ⟨.int (lo + i), H, I1, ⟨t, ?_⟩, ⟨rfl, rfl⟩, st', fun b hb => (hf b hb).1⟩⟩
    rw [Int.mul_one]
  done := by
    intro X hP hw hK hc i pins s σ H E I hf st hg
    subst hP hw hK
    obtain ⟨f0, f1, f2, f3, f4, f5⟩ := hf it (by simp)
    exact wpAny_pyNext_range_end (I.ok.hd hc) st (by have : n ≤ i := hg; omega) fun h' eb => ⟨rfl, I.turned (t' := s.toks) (fun b o hb e => eb b o hb e) f0 f1 f3 f4 f5⟩
  self := fun _ _ _ _ _ st h => wpAny_pyIter_rangeiter st h
end L2

namespace L2
open PySem PySem.Spec PyProof.Rows
section
variable {X : Cx} {tg : Expr}
def iList (K : PySem.W.Frag) (tl : TE) : TI := fun σ H R => tl σ H fun x H1 => ∃ a, x = .ref a ∧ (∃ xs, SqL K H1 a xs) ∧ R (Itl K a) H1
def iTup (K : PySem.W.Frag) (tl : TE) : TI := fun σ H R => tl σ H fun x H1 => ∃ a, x = .ref a ∧ (∃ xs, SqT K H1 a xs) ∧ R (Itt K a) H1
/-- a range object just made, walked -/
theorem range_it {pins : List (Addr × Obj)} {σ : St} {H : Hp} {s : Shared} {R : It → Hp → Prop} {E : Value → Shared → Prop} {lo hi : Int} {t u v : Tok} {tk : Nat} (I : Inv X pins σ H s) (h1 : -(2 ^ 62) ≤ lo) (h2 : lo < 2 ^ 62) (h3 : -(2 ^ 62) ≤ hi) (h4 : hi < 2 ^ 62)
    (q : R (Itr lo (hi - lo).toNat) H) : wpAny (model X.prog X.w) X.A (pyIter (.ref s.heap.objs.size)) (PIE X pins σ tg R) E { s with heap := s.heap.push { cls := .type "range", data := .fields #[.int lo t, .int hi u, .int 1 v] }, toks := tk } := by
  refine wpAny_pyIter_range (IsRange.new ..) (small_one h1 h2 h3 h4) ?_
  have I1 : Inv X pins σ H { s with heap := s.heap.push { cls := .type "range", data := .fields #[.int lo t, .int hi u, .int 1 v] }, toks := tk } := I.kept fun b o e => Heap.get?_push_of_some _ e
  refine ⟨(s.heap.push { cls := .type "range", data := .fields #[.int lo t, .int hi u, .int 1 v] }).objs.size, [(s.heap.push { cls := .type "range", data := .fields #[.int lo t, .int hi u, .int 1 v] }).objs.size], _, _, H, rfl,
    I1.kept (t' := tk) fun b o e => Heap.get?_push_of_some _ e, turn_range _ lo (hi - lo).toNat, ?_, fun b hb => ?_, q⟩
  · have e1 : lo + ((0 : Nat) : Int) * 1 = lo := by simp
    have e2 : (((hi - lo).toNat : Nat) : Int) - ((0 : Nat) : Int) = Builtin.Range.rangeSize lo hi 1 := by rw [rangeSize_one]; split <;> omega
    show IsRangeIter _ _ (lo + ((0 : Nat) : Int) * 1) ((((hi - lo).toNat : Nat) : Int) - ((0 : Nat) : Int)) 1
    rw [e1, e2]
    exact Heap.get?_push_size _ rfl
  · have e : b = (s.heap.push { cls := .type "range", data := .fields #[.int lo t, .int hi u, .int 1 v] }).objs.size := by simpa using hb
    subst e
    exact I1.fpOk (Nat.le_refl _) (I1.hok.fresh (Nat.le_refl _))
def iRng1 (ta : TA) : TI := fun σ H R => ta σ H fun vs H1 => ∃ j : Int, vs = [.int j] ∧ -(2 ^ 62) ≤ j ∧ j < 2 ^ 62 ∧ R (Itr 0 j.toNat) H1
def iRng2 (ta : TA) : TI := fun σ H R => ta σ H fun vs H1 => ∃ i j : Int, vs = [.int i, .int j] ∧ (-(2 ^ 62) ≤ i ∧ i < 2 ^ 62 ∧ -(2 ^ 62) ≤ j ∧ j < 2 ^ 62) ∧ R (Itr i (j - i).toNat) H1
theorem pi_range1 {a : Expr} {ta : TA} {p pos : Pos} (hg : Gl X "range") (hm : X.mg "range" = none) (ha : PA X [a] ta) (hs : starEach [a] X.env = [(false, eval a X.env)] := by rfl) : PI X tg (.Call (.Name "range" p) [a] [] pos) (iRng1 ta) := by
  intro pins s σ H R I h
  refine Call_ (ld_blt I hg hm boot_range (PyProof.Rows.callWith_type1 (thn (ha pos pins s σ H _ I h) fun us s1 ⟨vs, H1, I1, r1, q1⟩ => ?_) hs rfl))
  obtain ⟨j, e, q1, q2, q⟩ := q1
  subst e
  cases r1 with
  | cons r rr =>
    cases rr
    obtain ⟨t, rfl⟩ := r
    exact call_range_1 (range_it I1 (by omega) (by omega) q1 q2 (by simpa using q))
/-! ### for -/
/-- W: the invariant by the turn and a measure; N: what the body is to reach -/
def tFor (wi : TI) (g : TG) (tb : TS) : TS := fun D σ H => wi σ H fun J H1 => ∃ W : Nat → Nat → St → Hp → Prop, (∃ m, W 0 m σ H1) ∧ ∀ i m σ H, W i m σ H →
  (J.stop i H ∧ D.nx σ H) ∨ (J.go i H ∧ ∃ N : St → Hp → Prop, (∀ σ' H', N σ' H' → ∃ m', m' < m ∧ W (i + 1) m' σ' H') ∧ ∀ x H', J.yld i H x H' → g x σ H' fun σ2 H2 => tb { D with nx := N, ct := N, bk := D.nx } σ2 H2)
/-- the records at fp as they stand -/
def pinsAt (fp : List Addr) (h : Heap) : List (Addr × Obj) := fp.filterMap fun b => (h.get? b).map fun o => (b, o)
theorem mem_pinsAt {fp : List Addr} {h : Heap} {b : Addr} {o : Obj} (hb : b ∈ fp) (e : h.get? b = some o) : (b, o) ∈ pinsAt fp h := List.mem_filterMap.mpr ⟨b, hb, by rw [e]; rfl⟩
theorem of_pinsAt {fp : List Addr} {h : Heap} {p : Addr × Obj} (hp : p ∈ pinsAt fp h) : p.1 ∈ fp ∧ h.get? p.1 = some p.2 := by
  obtain ⟨b, hb, e⟩ := List.mem_filterMap.mp hp
  cases q : h.get? b with
  | none => rw [q] at e; cases e
  | some o =>
    rw [q] at e
    have e' : (b, o) = p := Option.some.inj e
    subst e'
    exact ⟨hb, q⟩
theorem Inv.pinned {pins : List (Addr × Obj)} {σ : St} {H : Hp} {s : Shared} {fp : List Addr} (I : Inv X pins σ H s) (hf : ∀ b ∈ fp, FpOk X pins H b) (ho : ∀ b ∈ fp, ∃ o, s.heap.get? b = some o ∧ ∀ v, o.data ≠ .cell v) : Inv X (pins ++ pinsAt fp s.heap) σ H s :=
  I.pins_of fun p hp => (List.mem_append.mp hp).elim (fun z => I.pin p (List.mem_append_right _ z)) fun z => by
    obtain ⟨hb, e⟩ := of_pinsAt z
    obtain ⟨f0, f1, f2, _⟩ := hf p.1 hb
    obtain ⟨o, e', d⟩ := ho p.1 hb
    rw [e] at e'; cases e'
    exact ⟨e, f0, f1, f2, d⟩
theorem Inv.unpinned {pins pl : List (Addr × Obj)} {σ : St} {H : Hp} {s : Shared} (I : Inv X (pins ++ pl) σ H s) : Inv X pins σ H s := I.pins_of fun p hp => I.pin p (List.mem_append_right _ (List.mem_append_left _ hp))
theorem ps_for {iter : Expr} {body : List Stmt} {wi : TI} {g : TG} {tb : TS} {pos : Pos} (hp : PassesOwn (model X.prog X.w) X.A X.env X.xe) (hc : X.calm = true) (hi : PI X tg iter wi) (hg : PG X tg g) (hb : PSs X body tb)
    (hs : ∀ x, foldedSetIterable iter X.env x = pure x := by intro _; rfl) : PS X (.For tg iter body [] pos) (tFor wi g tb) := by
  intro pins s σ H D I h
  refine wpAny_For (thn (hi pins s σ H _ I h) fun v s1 h1 => thn h1 fun itv s2 h2 => ?_) hs
  obtain ⟨it, fp, tn, J, H2, e, I2, T, st2, f2, W, ⟨m0, w0⟩, turn⟩ := h2
  subst e
  -- what stays true of the iterator's objects through the loop
  have stat : ∀ {H' : Hp}, (∀ b ∈ fp, H' b = none) → ∀ b ∈ fp, FpOk X pins H' b := fun hn b hb => ⟨hn b hb, (f2 b hb).2⟩
  refine codeAny_forLoop_any (fun n s' => ∃ i σ' H', Inv X pins σ' H' s' ∧ tn i s'.heap ∧ (∀ b ∈ fp, H' b = none) ∧ W i n σ' H') ?_ m0 ⟨0, σ, H2, I2, st2, fun b hb => (f2 b hb).1, w0⟩
  rintro n s3 ⟨i, σ3, H3, I3, st3, fr3, w3⟩
  rcases turn i n σ3 H3 w3 with ⟨stop, qn⟩ | ⟨go, N, hN, step⟩
  · refine wpAny_passesOwn hp (thn (T.done X rfl rfl rfl hc i pins s3 σ3 H3 X.xe I3 (stat fr3) st3 stop) fun r s4 ⟨hr, I4⟩ => ?_)
    subst hr
    exact wpAny_execs_nil ⟨σ3, H3, I4, qn⟩
  · refine wpAny_passesOwn hp (thn (T.item X rfl rfl rfl hc i pins s3 σ3 H3 X.xe I3 (stat fr3) st3 go) fun r s4 ⟨u, hr, h4⟩ => ?_)
    subst hr
    refine wpAny_passesOwn hp (thn h4 fun _ s5 ⟨x, H5, I5, r5, y5, st5, fr5⟩ => ?_)
    have I5' := I5.pinned (stat fr5) (T.obj _ _ st5)
    refine wpAny_passesOwn hp (thn (hg _ s5 σ3 H5 x u _ I5' r5 (step x H5 y5)) fun _ s6 ⟨σ6, H6, I6, q6⟩ => ?_)
    refine wpAny_passesOwn hp (thn (hb _ s6 σ6 H6 _ I6 q6) fun f s7 q7 => ?_)
    have again : ∀ {σ7 : St} {H7 : Hp}, Inv X (pins ++ pinsAt fp s5.heap) σ7 H7 s7 → N σ7 H7 → ∃ m, m < n ∧ ∃ i σ' H', Inv X pins σ' H' s7 ∧ tn i s7.heap ∧ (∀ b ∈ fp, H' b = none) ∧ W i m σ' H' := fun {σ7 H7} I7 n7 => by
      obtain ⟨m', hm, w7⟩ := hN σ7 H7 n7
      refine ⟨m', hm, i + 1, σ7, H7, I7.unpinned, T.keep _ _ _ st5 fun b hb o e => (I7.pin (b, o) (List.mem_append_right _ (List.mem_append_right _ (mem_pinsAt hb e)))).1, fun b hb => ?_, w7⟩
      obtain ⟨o, e, d⟩ := T.obj _ _ st5 b hb
      exact (I7.pin (b, o) (List.mem_append_right _ (List.mem_append_right _ (mem_pinsAt hb e)))).2.1
    cases f with
    | next => obtain ⟨σ7, H7, I7, n7⟩ := q7; exact again I7 n7
    | cont => obtain ⟨σ7, H7, I7, n7⟩ := q7; exact again I7 n7
    | brk => obtain ⟨σ7, H7, I7, q7⟩ := q7; exact ⟨σ7, H7, I7.unpinned, q7⟩
    | ret v => obtain ⟨x7, σ7, H7, I7, r7, q7⟩ := q7; exact ⟨x7, σ7, H7, I7.unpinned, r7, q7⟩
end

/-! ### the forms one uses -/
end L2

namespace L2
open PySem PySem.Spec PyProof.Rows

abbrev R2 := V → V → Hp → VK → Prop
/-- a two-place operation on values: f is binaryOp op, inplaceOp op or compareOp op -/
def OpR (X : Cx) (f : Value → Value → Sem Value) (r : R2) : Prop :=
  ∀ (pins : List (Addr × Obj)) (s : Shared) (σ : St) (H : Hp) (x y : V) (v u : Value) (Q : VK), Inv X pins σ H s → RelV x v → RelV y u → r x y H Q →
    wpAny (model X.prog X.w) X.A (f v u) (EP X pins σ Q) X.xe s
/-- a one-place operation -/
def UnR (X : Cx) (f : Value → Sem Value) (r : V → Hp → VK → Prop) : Prop :=
  ∀ (pins : List (Addr × Obj)) (s : Shared) (σ : St) (H : Hp) (x : V) (v : Value) (Q : VK), Inv X pins σ H s → RelV x v → r x H Q →
    wpAny (model X.prog X.w) X.A (f v) (EP X pins σ Q) X.xe s
/-- a call of a value that is known (a builtin, a type) with values -/
def CallR (X : Cx) (f : Value) (r : List V → Hp → VK → Prop) : Prop :=
  ∀ (pins : List (Addr × Obj)) (s : Shared) (σ : St) (H : Hp) (xs : List V) (us : List Value) (Q : VK), Inv X pins σ H s → Vals xs us → r xs H Q →
    wpAny (model X.prog X.w) X.A (call f us) (EP X pins σ Q) X.xe s
/-- a value's truth -/
def TruR (X : Cx) (r : V → Hp → (Bool → Hp → Prop) → Prop) : Prop :=
  ∀ (pins : List (Addr × Obj)) (s : Shared) (σ : St) (H : Hp) (x : V) (v : Value) (Q : Bool → Hp → Prop), Inv X pins σ H s → RelV x v → r x H Q →
    wpAny (model X.prog X.w) X.A (truthy v) (TP X pins σ Q) X.xe s

def tOp (r : R2) (ta tb : TE) : TE := fun σ H Q => ta σ H fun x H1 => tb σ H1 fun y H2 => r x y H2 Q
def tUn (r : V → Hp → VK → Prop) (ta : TE) : TE := fun σ H Q => ta σ H fun x H1 => r x H1 Q
/-- ints in, under C, and a value out -/
def rI (C : Int → Int → Prop) (g : Int → Int → V) : R2 := fun x y H Q => ∃ i j, x = .int i ∧ y = .int j ∧ C i j ∧ Q (g i j) H
def rI0 (g : Int → Int → V) : R2 := fun x y H Q => ∃ i j, x = .int i ∧ y = .int j ∧ Q (g i j) H
def rU (g : Int → V) : V → Hp → VK → Prop := fun x H Q => ∃ i, x = .int i ∧ Q (g i) H

section
variable {X : Cx} {a b c : Expr} {ta tb tc : TE} {pos : Pos}

theorem binT (ha : PE X a ta) (hb : PE X b tb) {pins : List (Addr × Obj)} {s : Shared} {σ : St} {H : Hp} {R : V → V → Hp → Prop} (I : Inv X pins σ H s)
    (h : ta σ H fun x H1 => tb σ H1 fun y H2 => R x y H2) {Q : Value → Shared → Prop} {f : Value → Value → Sem Value}
    (hf : ∀ v u s2 x y H2, Inv X pins σ H2 s2 → RelV x v → RelV y u → R x y H2 → wpAny (model X.prog X.w) X.A (f v u) Q X.xe s2) :
    wpAny (model X.prog X.w) X.A (eval a X.env) (fun v s₁ => wpAny (model X.prog X.w) X.A (eval b X.env) (fun u s₂ => wpAny (model X.prog X.w) X.A (f v u) Q X.xe s₂) X.xe s₁) X.xe s := by
  refine thn (ha pins s σ H _ I h) fun v s1 ⟨x, H1, I1, r1, q1⟩ => ?_
  refine thn (hb pins s1 σ H1 _ I1 q1) fun u s2 ⟨y, H2, I2, r2, q2⟩ => ?_
  exact hf v u s2 x y H2 I2 r1 r2 q2

theorem pe_op {op : Operator} {r : R2} (ho : OpR X (binaryOp op) r) (ha : PE X a ta) (hb : PE X b tb) : PE X (.BinOp a op b pos) (tOp r ta tb) := by
  intro pins s σ H Q I h
  exact wpAny_BinOp (binT ha hb I h fun v u s2 x y H2 I2 rx ry q => ho pins s2 σ H2 x y v u Q I2 rx ry q)
theorem pe_un {op : UnaryOp} {r : V → Hp → VK → Prop} (ho : UnR X (unaryOp op) r) (ha : PE X a ta) : PE X (.UnaryOp op a pos) (tUn r ta) := by
  intro pins s σ H Q I h
  exact UnaryOp_ (thn (ha pins s σ H _ I h) fun v s1 ⟨x, H1, I1, r1, q1⟩ => ho pins s1 σ H1 x v Q I1 r1 q1)
/-! ### ints -/
theorem opI {f : Value → Value → Sem Value} {C : Int → Int → Prop} {g : Int → Int → Int}
    (rule : ∀ (i j : Int) (t u : Tok) (s : Shared) (Q : Value → Shared → Prop) (E : Value → Shared → Prop), C i j → Q (.int (g i j) s.toks) { s with toks := s.toks + 1 } → wpAny (model X.prog X.w) X.A (f (.int i t) (.int j u)) Q E s) :
    OpR X f (rI C fun i j => .int (g i j)) := by
  intro pins s σ H x y v u Q I rx ry h
  obtain ⟨i, j, rfl, rfl, hc, q⟩ := h
  obtain ⟨t, rfl⟩ := rx
  obtain ⟨t', rfl⟩ := ry
  exact rule i j t t' s _ _ hc ⟨.int (g i j), H, I.tok _, ⟨_, rfl⟩, q⟩
theorem opI0 {f : Value → Value → Sem Value} {g : Int → Int → Int}
    (rule : ∀ (i j : Int) (t u : Tok) (s : Shared) (Q : Value → Shared → Prop) (E : Value → Shared → Prop), Q (.int (g i j) s.toks) { s with toks := s.toks + 1 } → wpAny (model X.prog X.w) X.A (f (.int i t) (.int j u)) Q E s) :
    OpR X f (rI0 fun i j => .int (g i j)) := by
  intro pins s σ H x y v u Q I rx ry h
  obtain ⟨i, j, rfl, rfl, q⟩ := h
  obtain ⟨t, rfl⟩ := rx
  obtain ⟨t', rfl⟩ := ry
  exact rule i j t t' s _ _ ⟨.int (g i j), H, I.tok _, ⟨_, rfl⟩, q⟩
theorem opB0 {f : Value → Value → Sem Value} {g : Int → Int → Bool}
    (rule : ∀ (i j : Int) (t u : Tok) (s : Shared) (Q : Value → Shared → Prop) (E : Value → Shared → Prop), Q (.bool (g i j)) s → wpAny (model X.prog X.w) X.A (f (.int i t) (.int j u)) Q E s) :
    OpR X f (rI0 fun i j => .bl (g i j)) := by
  intro pins s σ H x y v u Q I rx ry h
  obtain ⟨i, j, rfl, rfl, q⟩ := h
  obtain ⟨t, rfl⟩ := rx
  obtain ⟨t', rfl⟩ := ry
  exact rule i j t t' s _ _ ⟨.bl (g i j), H, I, rfl, q⟩

def CDiv (i j : Int) : Prop := 0 < j ∧ j < 1073741824
def CDivN (i j : Int) : Prop := j ≠ 0 ∧ j.natAbs < 1073741824
def CPow (i j : Int) : Prop := 0 ≤ j ∧ j ≤ 1000000 ∧ i.natAbs < 2 ^ 64
def CMul (i j : Int) : Prop := (-(2 ^ 64) < i ∧ i < 2 ^ 64) ∨ (-(2 ^ 64) < j ∧ j < 2 ^ 64)
theorem CMul.ok {i j : Int} (h : CMul i j) : IntMulOk i j := by
  rcases h with ⟨h1, h2⟩ | ⟨h1, h2⟩
  · exact .of_left (intBits_le_64 h1 h2)
  · exact .of_right (intBits_le_64 h1 h2)
theorem op_add : OpR X (binaryOp .Add) (rI0 fun i j => .int (i + j)) := opI0 fun _ _ _ _ _ _ _ q => add_int q
theorem op_sub : OpR X (binaryOp .Sub) (rI0 fun i j => .int (i - j)) := opI0 fun _ _ _ _ _ _ _ q => sub_int q
theorem op_mul : OpR X (binaryOp .Mult) (rI CMul fun i j => .int (i * j)) := opI fun _ _ _ _ _ _ _ hc q => mul_int q hc.ok
/-- % by a positive divisor of any size -/
theorem op_mod : OpR X (binaryOp .Mod) (rI (fun _ j => 0 < j) fun i j => .int (i % j)) := opI fun i j _ _ _ _ _ hc q => by
  have h1 : (0 : Int) < j := hc
  exact mod_int' (by omega) (by rw [Int.fmod_eq_emod_of_nonneg i (by omega)]; exact q)
theorem op_pow : OpR X (binaryOp .Pow) (rI CPow fun i j => .int (i ^ j.toNat)) := opI fun _ _ _ _ _ _ _ hc q => pow_int_small hc.1 hc.2.1 hc.2.2 q
theorem unI {f : Value → Sem Value} {g : Int → Int}
    (rule : ∀ (i : Int) (t : Tok) (s : Shared) (Q : Value → Shared → Prop) (E : Value → Shared → Prop), Q (.int (g i) s.toks) { s with toks := s.toks + 1 } → wpAny (model X.prog X.w) X.A (f (.int i t)) Q E s) :
    UnR X f (rU fun i => .int (g i)) := by
  intro pins s σ H x v Q I rx h
  obtain ⟨i, rfl, q⟩ := h
  obtain ⟨t, rfl⟩ := rx
  exact rule i t s _ _ ⟨.int (g i), H, I.tok _, ⟨_, rfl⟩, q⟩
theorem un_neg : UnR X (unaryOp .USub) (rU fun i => .int (-i)) := unI fun _ _ _ _ _ q => neg_int q
/-! ### bools among ints: n += (a < b) -/
end

/-! ### comparisons -/
/-- the scalars that == tells apart as data does -/
def scal : V → V → Bool
  | .non, .non => true | .non, .int _ => true | .int _, .non => true | .non, .bl _ => true | .bl _, .non => true | .non, .str _ => true | .str _, .non => true
  | .int _, .int _ => true | .bl _, .bl _ => true | .str _, .str _ => true | .byt _, .byt _ => true
  | .int _, .str _ => true | .str _, .int _ => true | .bl _, .str _ => true | .str _, .bl _ => true
  | _, _ => false
def rEq : R2 := fun x y H Q => scal x y = true ∧ Q (.bl (decide (x = y))) H
def rNe : R2 := fun x y H Q => scal x y = true ∧ Q (.bl (!decide (x = y))) H

theorem dec_int {i j : Int} : decide (V.int i = V.int j) = (i == j) := by
  rw [Bool.eq_iff_iff]
  simp
theorem dec_bl {i j : Bool} : decide (V.bl i = V.bl j) = (i == j) := by
  rw [Bool.eq_iff_iff]
  simp
theorem dec_str {i j : Str} : decide (V.str i = V.str j) = (i == j) := by
  rw [Bool.eq_iff_iff]
  simp
theorem dec_byt {i j : Array UInt8} : decide (V.byt i = V.byt j) = (i.toList == j.toList) := by
  rw [Bool.eq_iff_iff]
  cases i
  cases j
  simp

section
variable {X : Cx} {a b c : Expr} {ta tb tc : TE} {pos : Pos}
theorem fin_bl {pins : List (Addr × Obj)} {σ : St} {H : Hp} {s : Shared} {Q : VK} {k k' : Bool} (I : Inv X pins σ H s) (q : Q (.bl k) H) (e : k = k') : EP X pins σ Q (.bool k') s := by
  subst e
  exact ⟨.bl k, H, I, rfl, q⟩
theorem op_eq : OpR X (compareOp .Eq) rEq := by
  intro pins s σ H x y v u Q I rx ry h
  obtain ⟨hs, q⟩ := h
  cases x with
  | non =>
    cases rx
    cases y with
    | non => cases ry; exact PySem.EqNone.eq_none_none (fin_bl I q (by simp))
    | bl j => cases ry; exact PySem.EqNone.eq_none_bool (fin_bl I q (by simp))
    | int j => obtain ⟨t', rfl⟩ := ry; exact PySem.EqNone.eq_none_int (fin_bl I q (by simp))
    | str j => obtain ⟨t', rfl⟩ := ry; exact PySem.EqNone.eq_none_str (fin_bl I q (by simp))
    | _ => exact absurd (show false = true from hs) Bool.false_ne_true
  | bl i =>
    cases rx
    cases y with
    | non => cases ry; exact PySem.EqNone.eq_bool_none (fin_bl I q (by simp))
    | bl j => cases ry; exact eq_bool (fin_bl I q dec_bl)
    | str j => obtain ⟨t', rfl⟩ := ry; exact PySem.EqMixed.eq_bool_str (fin_bl I q (by simp))
    | _ => exact absurd (show false = true from hs) Bool.false_ne_true
  | int i =>
    obtain ⟨t, rfl⟩ := rx
    cases y with
    | non => cases ry; exact PySem.EqNone.eq_int_none (fin_bl I q (by simp))
    | int j => obtain ⟨t', rfl⟩ := ry; exact eq_int (fin_bl I q dec_int)
    | str j => obtain ⟨t', rfl⟩ := ry; exact PySem.EqMixed.eq_int_str (fin_bl I q (by simp))
    | _ => exact absurd (show false = true from hs) Bool.false_ne_true
  | str i =>
    obtain ⟨t, rfl⟩ := rx
    cases y with
    | non => cases ry; exact PySem.EqNone.eq_str_none (fin_bl I q (by simp))
    | bl j => cases ry; exact PySem.EqMixed.eq_str_bool (fin_bl I q (by simp))
    | int j => obtain ⟨t', rfl⟩ := ry; exact PySem.EqMixed.eq_str_int (fin_bl I q (by simp))
    | str j => obtain ⟨t', rfl⟩ := ry; exact eq_str (fin_bl I q dec_str)
    | _ => exact absurd (show false = true from hs) Bool.false_ne_true
  | byt i =>
    obtain ⟨t, rfl⟩ := rx
    cases y with
    | byt j => obtain ⟨t', rfl⟩ := ry; exact PySem.W.eq_bytes (fin_bl I q dec_byt)
    | _ => exact absurd (show false = true from hs) Bool.false_ne_true
  | _ => cases y <;> exact absurd (show false = true from hs) Bool.false_ne_true
theorem op_ne : OpR X (compareOp .NotEq) rNe := by
  intro pins s σ H x y v u Q I rx ry h
  obtain ⟨hs, q⟩ := h
  cases x with
  | non =>
    cases rx
    cases y with
    | non => cases ry; exact PySem.EqNone.ne_none_none (fin_bl I q (by simp))
    | bl j => cases ry; exact PySem.EqNone.ne_none_bool (fin_bl I q (by simp))
    | int j => obtain ⟨t', rfl⟩ := ry; exact PySem.EqNone.ne_none_int (fin_bl I q (by simp))
    | str j => obtain ⟨t', rfl⟩ := ry; exact PySem.EqNone.ne_none_str (fin_bl I q (by simp))
    | _ => exact absurd (show false = true from hs) Bool.false_ne_true
  | bl i =>
    cases rx
    cases y with
    | non => cases ry; exact PySem.EqNone.ne_bool_none (fin_bl I q (by simp))
    | bl j => cases ry; exact ne_bool (fin_bl I q (congrArg not dec_bl))
    | str j => obtain ⟨t', rfl⟩ := ry; exact PySem.EqMixed.ne_bool_str (fin_bl I q (by simp))
    | _ => exact absurd (show false = true from hs) Bool.false_ne_true
  | int i =>
    obtain ⟨t, rfl⟩ := rx
    cases y with
    | non => cases ry; exact PySem.EqNone.ne_int_none (fin_bl I q (by simp))
    | int j => obtain ⟨t', rfl⟩ := ry; exact ne_int (fin_bl I q (congrArg not dec_int))
    | str j => obtain ⟨t', rfl⟩ := ry; exact PySem.EqMixed.ne_int_str (fin_bl I q (by simp))
    | _ => exact absurd (show false = true from hs) Bool.false_ne_true
  | str i =>
    obtain ⟨t, rfl⟩ := rx
    cases y with
    | non => cases ry; exact PySem.EqNone.ne_str_none (fin_bl I q (by simp))
    | bl j => cases ry; exact PySem.EqMixed.ne_str_bool (fin_bl I q (by simp))
    | int j => obtain ⟨t', rfl⟩ := ry; exact PySem.EqMixed.ne_str_int (fin_bl I q (by simp))
    | str j => obtain ⟨t', rfl⟩ := ry; exact ne_str (fin_bl I q (congrArg not dec_str))
    | _ => exact absurd (show false = true from hs) Bool.false_ne_true
  | byt i =>
    obtain ⟨t, rfl⟩ := rx
    cases y with
    | byt j => obtain ⟨t', rfl⟩ := ry; exact PySem.W.ne_bytes (fin_bl I q (congrArg not dec_byt))
    | _ => exact absurd (show false = true from hs) Bool.false_ne_true
  | _ => cases y <;> exact absurd (show false = true from hs) Bool.false_ne_true

theorem op_gt : OpR X (compareOp .Gt) (rI0 fun i j => .bl (decide (j < i))) := opB0 fun _ _ _ _ _ _ _ q => gt_int q
theorem op_ge : OpR X (compareOp .GtE) (rI0 fun i j => .bl (decide (j ≤ i))) := opB0 fun _ _ _ _ _ _ _ q => ge_int q
/-- is None, is not None: the right side a value none -/
theorem op_isN : OpR X (compareOp .Is) (fun x y H Q => y = .non ∧ Q (.bl (decide (x = .non))) H) := by
  intro pins s σ H x y v u Q I rx ry h
  obtain ⟨rfl, q⟩ := h
  cases ry
  refine is_none_gen (fin_bl I q ?_)
  cases x <;> first
    | (cases rx; rfl)
    | (obtain ⟨t, rfl⟩ := rx; rfl)
/-- is, is not of two objects that are tracked lists or instances -/
def isObj : HO → Bool
  | .lst _ => true
  | .ins _ _ _ => true
  | _ => false
/-- two rules for one operation: by cases -/
theorem OpR.or {f : Value → Value → Sem Value} {r r' : R2} (h : OpR X f r) (h' : OpR X f r') : OpR X f (fun x y H Q => r x y H Q ∨ r' x y H Q) := by
  intro pins s σ H x y v u Q I rx ry q
  rcases q with q | q
  · exact h pins s σ H x y v u Q I rx ry q
  · exact h' pins s σ H x y v u Q I rx ry q

theorem nomark (b : Expr) {op : CmpOp} (h : op ≠ .In := by decide) (h2 : op ≠ .NotIn := by decide) : behindInMarks op b = false := by
  have e1 : (op == CmpOp.In) = false := by cases op <;> first | rfl | exact absurd rfl h
  have e2 : (op == CmpOp.NotIn) = false := by cases op <;> first | rfl | exact absurd rfl h2
  cases b <;> simp [behindInMarks, e1, e2]
/-- a comparison as a value; hm: nomark b, or (for in, not in) by with_unfolding_all rfl -/
theorem pe_cmpR {op : CmpOp} {r : R2} (ho : OpR X (compareOp op) r) (ha : PE X a ta) (hb : PE X b tb) (hm : behindInMarks op b = false) : PE X (.Compare a [op] [b] pos) (tOp r ta tb) := by
  intro pins s σ H Q I h
  exact wpAny_Compare1 (binT ha hb I h fun v u s2 x y H2 I2 rx ry q => ho pins s2 σ H2 x y v u Q I2 rx ry q) hm
/-- a reading of a value as a test -/
def tTest (t : TE) : TT := fun σ H Q => t σ H fun x H' => ∃ k, x = .bl k ∧ Q k H'
theorem pt_cmpR {op : CmpOp} {r : R2} (ho : OpR X (compareOp op) r) (ha : PE X a ta) (hb : PE X b tb) (hm : behindInMarks op b = false) : PT X (.Compare a [op] [b] pos) (tTest (tOp r ta tb)) := by
  intro pins s σ H Q I h
  refine wpAny_isTrue_Compare1 (thn (ha pins s σ H _ I h) fun v s1 ⟨x, H1, I1, r1, q1⟩ => thn (hb pins s1 σ H1 _ I1 q1) fun u s2 ⟨y, H2, I2, r2, q2⟩ =>
    thn (ho pins s2 σ H2 x y v u _ I2 r1 r2 q2) fun c s3 ⟨z, H3, I3, r3, k, e, q3⟩ => ?_) hm
  subst e
  cases r3
  exact wpAny_truthy_bool ⟨H3, I3, q3⟩
/-- a op1 b op2 c -/
def tChain (r r' : R2) (ta tb tc : TE) : TE := fun σ H Q => ta σ H fun x H1 => tb σ H1 fun y H2 => r x y H2 fun z H3 => ∃ k, z = .bl k ∧
  (if k = true then tc σ H3 fun w' H4 => r' y w' H4 Q else Q (.bl false) H3)
/-! ### truth -/
/-- a value's truth by the abstract heap -/
def TruV (K : PySem.W.Frag) (x : V) (H : Hp) (k : Bool) : Prop :=
  match x with
  | .non => k = false
  | .bl b => k = b
  | .int i => k = (i != 0)
  | .str y => y.length ≤ sizeLine ∧ k = ((y.length : Int) != 0)
  | .byt y => y.size ≤ sizeLine ∧ k = ((y.size : Int) != 0)
  | .ref p => (∃ xs, SqL K H p xs ∧ k = !xs.isEmpty) ∨ (∃ xs, SqT K H p xs ∧ k = !xs.isEmpty) ∨ ∃ kvs, H p = some (.dK kvs) ∧ k = !kvs.isEmpty
  | _ => False
theorem line63 : (sizeLine : Nat) < 2 ^ 63 := by rw [sizeLine_eq]; decide
/-! ### strs and bytes -/
theorem op_add_str : OpR X (binaryOp .Add) (fun x y H Q => ∃ i j, x = .str i ∧ y = .str j ∧ i.length + j.length ≤ sizeLine ∧ Q (.str (i ++ j)) H) := by
  intro pins s σ H x y v u Q I rx ry h
  obtain ⟨i, j, rfl, rfl, hz, q⟩ := h
  obtain ⟨t, rfl⟩ := rx
  obtain ⟨t', rfl⟩ := ry
  exact add_str (fun t' tk => ⟨.str (i ++ j), H, I.tok _, ⟨_, rfl⟩, q⟩) hz
def PlainIxT (b : Expr) : Prop := ∀ o i, subscripted b false o i = operate [o, i] (getItem o i)
/-! ### scalar builtins, by CallR -/
theorem vals1 {x : V} {us : List Value} (r : Vals [x] us) : ∃ u, us = [u] ∧ RelV x u := by
  cases r with
  | cons r1 r2 => cases r2; exact ⟨_, rfl, r1⟩
theorem vals2 {x y : V} {us : List Value} (r : Vals [x, y] us) : ∃ u w', us = [u, w'] ∧ RelV x u ∧ RelV y w' := by
  cases r with
  | cons r1 r2 =>
    cases r2 with
    | cons r3 r4 => cases r4; exact ⟨_, _, rfl, r1, r3⟩
theorem call_max2 (hc : X.calm = true) : CallR X (.builtin "max") (fun xs H Q => ∃ i j, xs = [.int i, .int j] ∧ Q (.int (if j > i then j else i)) H) := by
  intro pins s σ H xs us Q I r h
  obtain ⟨i, j, rfl, q⟩ := h
  obtain ⟨u, w', rfl, ⟨t, rfl⟩, ⟨t', rfl⟩⟩ := vals2 r
  refine max_two_ints (I.ok.hd hc) fun h' tk k => ⟨_, H, I.kept k, ?_, q⟩
  by_cases hj : j > i
  · rw [if_pos hj, if_pos hj]; exact ⟨_, rfl⟩
  · rw [if_neg hj, if_neg hj]; exact ⟨_, rfl⟩
theorem call_int1 : CallR X (.type "int") (fun xs H Q => (∃ i, xs = [.int i] ∧ Q (.int i) H) ∨ ∃ k, xs = [.bl k] ∧ Q (.int (if k then 1 else 0)) H) := by
  intro pins s σ H xs us Q I r h
  rcases h with ⟨i, rfl, q⟩ | ⟨k, rfl, q⟩
  · obtain ⟨u, rfl, t, rfl⟩ := vals1 r
    exact call_int_int ⟨.int i, H, I, ⟨_, rfl⟩, q⟩
  · obtain ⟨u, rfl, r1⟩ := vals1 r
    cases r1
    exact call_int_bool ⟨.int (if k then 1 else 0), H, I.tok _, ⟨_, rfl⟩, q⟩
/-- len of a str, a bytes, a list, a tuple -/
def LenV (K : PySem.W.Frag) (x : V) (H : Hp) (n : Nat) : Prop :=
  match x with
  | .str y => y.length ≤ sizeLine ∧ n = y.length
  | .byt y => y.size ≤ sizeLine ∧ n = y.size
  | .ref p => (∃ xs, SqL K H p xs ∧ n = xs.length) ∨ ∃ xs, SqT K H p xs ∧ n = xs.length
  | _ => False
theorem call_len : CallR X (.builtin "len") (fun xs H Q => ∃ x n, xs = [x] ∧ LenV X.K x H n ∧ Q (.int n) H) := by
  intro pins s σ H xs us Q I r h
  obtain ⟨x, n, rfl, e, q⟩ := h
  obtain ⟨u, rfl, rx⟩ := vals1 r
  have hl := line63
  have hs : sizeLine = 16777216 := sizeLine_eq
  cases x with
  | str y =>
    obtain ⟨t, rfl⟩ := rx
    obtain ⟨hy, e'⟩ : y.length ≤ sizeLine ∧ n = y.length := e
    subst e'
    exact len_str (by omega) ⟨.int _, H, I.tok _, ⟨_, rfl⟩, q⟩
  | byt y =>
    obtain ⟨t, rfl⟩ := rx
    obtain ⟨hy, e'⟩ : y.size ≤ sizeLine ∧ n = y.size := e
    subst e'
    exact PySem.W.len_bytes (by omega) ⟨.int _, H, I.tok _, ⟨_, rfl⟩, q⟩
  | ref p =>
    cases rx
    have e' : (∃ xs, SqL X.K H p xs ∧ n = xs.length) ∨ ∃ xs, SqT X.K H p xs ∧ n = xs.length := e
    rcases e' with ⟨xs, hx, e'⟩ | ⟨xs, hx, e'⟩
    · subst e'
      obtain ⟨its, r', pl, hz⟩ := I.list hx
      have hlen := r'.length
      exact Calls.call_len_list pl.isList (by simp only [List.size_toArray]; omega) ⟨.int xs.length, H, I.tok _, ⟨_, by simp only [List.size_toArray]; rw [hlen]⟩, q⟩
    · subst e'
      obtain ⟨its, r', pl, hz⟩ := I.tuple hx
      have hlen := r'.length
      exact len_tuple pl (by simp only [List.size_toArray]; omega) ⟨.int xs.length, H, I.tok _, ⟨_, by simp only [List.size_toArray]; rw [hlen]⟩, q⟩
  | _ => exact (show False from e).elim
end
end L2

namespace L2
open PySem PySem.Spec PyProof.Rows

/-! ### an instance, its attributes a map -/
structure ObjM (h : Heap) (x dx C : Addr) (mA : Str → Option Value) : Prop where
  obj : h.get? x = some (PySem.W.instObj C dx)
  ns : h.Ns1 dx mA
  ne : dx ≠ x

theorem lookIn_ns {h : Heap} {dx : Addr} {mA : Str → Option Value} (n : h.Ns1 dx mA) : ∃ od, h.get? dx = some od ∧ ∀ name, PySem.W.lookIn name od = some (mA name) := by
  obtain ⟨o, es, ep, ho, hd, hk, _, hm⟩ := n
  refine ⟨o, ho, fun name => ?_⟩
  have e := hm name
  unfold nsFind findBy at e
  rw [← Array.find?_toList] at e
  unfold PySem.W.lookIn
  rw [hd]
  dsimp only
  split
  · rename_i y q
    rw [q] at e
    exact congrArg some e
  · rename_i q
    rw [q] at e
    have a : es.toList.any (·.refKey) = false := by
      rw [List.any_eq_false]
      intro y hy
      obtain ⟨z, t, hkey⟩ := hk y (Array.mem_toList_iff.mp hy)
      simp [DictEntry.refKey, hkey]
    have a' : ¬ es.toList.any (·.refKey) = true := by rw [a]; exact Bool.false_ne_true
    rw [if_neg a']
    exact congrArg some e

theorem ObjM.look {h : Heap} {x dx C : Addr} {mA : Str → Option Value} (I : ObjM h x dx C mA) : ∃ od, PySem.W.InstAt h x (PySem.W.instObj C dx) C (some od) ∧ ∀ name, PySem.W.lookIn name od = some (mA name) :=
  let ⟨od, ho, hl⟩ := lookIn_ns I.ns
  ⟨od, ⟨I.obj, rfl, rfl, ho⟩, hl⟩

section
variable {prog : Program} {w : World} {A : Around} {E : Value → Shared → Prop} {s : Shared} {K : PySem.W.Frag} {x dx C f : Addr} {mA : Str → Option Value} {name : Str} {v : Value}

theorem get_map {expr : Bool} {Q : Value → Shared → Prop} (X : K.In s.heap) (I : ObjM s.heap x dx C mA) (hg : PySem.W.plainGet K C name = true) (hh : PySem.W.hasDictIn K C = true)
    (ha : PySem.W.findIn K (.ref C) name = some none) (hv : mA name = some v) (hv' : PySem.W.handedIn v = true) (h : Q v { s with toks := s.toks + 1 }) :
    wpAny (model prog w) A (getAttr (.ref x) name expr) Q E s := by
  obtain ⟨od, J, hl⟩ := I.look
  exact PySem.W.get_value X J (PySem.W.plainGet_of hg).1 (PySem.W.findObj_own hh ha rfl (by rw [hl, hv])) hv' h

theorem get_meth {pl : Sem Bool} {Q : Value × List Value → Shared → Prop} (X : K.In s.heap) (I : ObjM s.heap x dx C mA) (hg : PySem.W.plainGet K C name = true)
    (hf : PySem.W.findIn K (.ref C) name = some (some (.ref f))) (ht : PySem.W.isFn K (.ref f) = true) (hv : mA name = none) (h : Q (.ref f, [.ref x]) s) :
    wpAny (model prog w) A (getMethod (.ref x) name pl) Q E s := by
  obtain ⟨od, J, hl⟩ := I.look
  exact PySem.W.method_fn X J (PySem.W.plainGet_of hg).1 (PySem.W.plainGet_of hg).2 hf (beq_iff_eq.mp ht) (by show (PySem.W.lookIn name od).map (·.isSome) = some false; rw [hl, hv]; rfl) h

theorem set_map {ns : List Str} {Q : Unit → Shared → Prop} (X : K.In s.heap) (I : ObjM s.heap x dx C mA)
    (hs : PySem.W.findIn K (.ref C) "__setattr__" = some (some (.builtin "object.__setattr__"))) (hp : PySem.W.plainOver K C = true) (ht : PySem.W.takerIn K C name = some none) (hh : PySem.W.hasDictIn K C = true)
    (hw : PySem.Within mA ns) (hsz : ns.length ≤ sizeLine)
    (h : ∀ h', ObjM h' x dx C (fun y => if y = name then some v else mA y) → Heap.SameBut dx s.heap h' → Q () { s with heap := h', toks := s.toks + 2 }) :
    wpAny (model prog w) A (setAttr (.ref x) name v) Q E s := by
  obtain ⟨od, J, hl⟩ := I.look
  refine PySem.W.set_plain X J hs (PySem.W.osa_open (s := { s with toks := s.toks + 1 }) (r := none) X J hp ht fun b => ?_)
  obtain ⟨cd, hc, hd'⟩ := PySem.W.any_some hh
  have hx : s.heap.get? x = some ⟨.ref C, some dx, .plain, #[]⟩ := I.obj
  refine wpAny_bind (wpAny_pure (wpAny_bind (wpAny_bind (wpAny_loadPart hx (wpAny_bind (PySem.W.Looks.here (s := { s with toks := s.toks + 1 }) (PySem.W.looks_clsIn X hc) ?_))))))
  rw [hd']
  refine wpAny_pure (a := some dx) (wpAny_bind (wpAny_pure (wpAny_bind ?_)))
  refine wpAny_nsSet1 (s := { s with toks := s.toks + 1 }) I.ns fun h' hn2 hs2 => ?_
  obtain ⟨oD, esD, epD, hoD, hdD, hcD⟩ := hn2.count (PySem.Within.cons name v hw)
  refine wpAny_bind (wpAny_lookBehind hoD (by rw [hdD]; exact pastItsLine_dict (Nat.le_trans hcD (by rw [List.length_cons]; omega))) ?_)
  exact wpAny_pure (h _ ⟨(hs2.2 _ (Ne.symm I.ne)).trans I.obj, hn2, I.ne⟩ hs2)

/-- C(..): the dict at the heap's end, the instance behind it; then its __init__ -/
theorem make_map {R : Result → Shared → Prop} {vs : List Value} {kw : List (Str × Value)} (X : K.In s.heap) (hm : PySem.W.makesIn K C = true)
    (hi : PySem.W.findIn K (.ref C) "__init__" = some (some (.ref f))) (hf : PySem.W.typeIn K (.ref f) = some (.type "function"))
    (h : codeAny (model prog w) (A.under (.builtin "type.__call__" ⟨.ref C :: vs, kw⟩)) (.call (.ref f) ⟨.ref (s.heap.objs.size + 1) :: vs, kw⟩) (PySem.W.InitBack (s.heap.objs.size + 1) R)
      { s with heap := (s.heap.push PySem.W.emptyDict).push (PySem.W.instObj C s.heap.objs.size) }) :
    codeAny (model prog w) A (.call (.ref C) ⟨vs, kw⟩) R s := by
  obtain ⟨hh, g, d, t, os⟩ := s
  exact PySem.W.make_core (PySem.W.makes_of X hm) (PySem.W.looks_findIn X hi) (fun self => PySem.W.bind_fn X self hf) (.inl rfl) h
end

/-! ### the attributes as a list of pairs -/
def putF (f : Str) (v : V) : List (Str × V) → List (Str × V)
  | [] => [(f, v)]
  | (g, x) :: r => if g = f then (g, v) :: r else (g, x) :: putF f v r
theorem lookup_putF (f g : Str) (v : V) : ∀ fs : List (Str × V), (putF f v fs).lookup g = if g = f then some v else fs.lookup g
  | [] => by
    show List.lookup g [(f, v)] = _
    by_cases h : g = f
    · have hb : (g == f) = true := beq_iff_eq.mpr h
      simp only [List.lookup, hb, if_pos h]
    · have hb : (g == f) = false := beq_eq_false_iff_ne.mpr h
      simp only [List.lookup, hb, if_neg h]
  | (k, x) :: r => by
    have ih := lookup_putF f g v r
    rw [show putF f v ((k, x) :: r) = (if k = f then (k, v) :: r else (k, x) :: putF f v r) from rfl]
    by_cases hk : k = f
    · rw [if_pos hk]
      by_cases h : g = k
      · have hb : (g == k) = true := beq_iff_eq.mpr h
        simp only [List.lookup, hb, if_pos (h.trans hk)]
      · have hb : (g == k) = false := beq_eq_false_iff_ne.mpr h
        simp only [List.lookup, hb, if_neg (fun e : g = f => h (e.trans hk.symm))]
    · rw [if_neg hk]
      by_cases h : g = k
      · have hb : (g == k) = true := beq_iff_eq.mpr h
        simp only [List.lookup, hb, if_neg (fun e : g = f => hk (h.symm.trans e))]
      · have hb : (g == k) = false := beq_eq_false_iff_ne.mpr h
        simp only [List.lookup, hb]
        exact ih
theorem keys_putF (f : Str) (v : V) : ∀ fs : List (Str × V), f ∈ (putF f v fs).map (·.1) ∧ ∀ g, g ∈ fs.map (·.1) → g ∈ (putF f v fs).map (·.1)
  | [] => ⟨by simp [putF], fun g h => by simp at h⟩
  | (k, x) :: r => by
    obtain ⟨i1, i2⟩ := keys_putF f v r
    rw [show putF f v ((k, x) :: r) = (if k = f then (k, v) :: r else (k, x) :: putF f v r) from rfl]
    by_cases hk : k = f
    · rw [if_pos hk]
      subst hk
      exact ⟨by simp, fun g h => by simpa using h⟩
    · rw [if_neg hk]
      refine ⟨?_, fun g h => ?_⟩
      · rw [List.map_cons]
        exact List.mem_cons_of_mem _ i1
      · rw [List.map_cons] at h ⊢
        rcases List.mem_cons.mp h with e | e
        · exact List.mem_cons.mpr (.inl e)
        · exact List.mem_cons_of_mem _ (i2 g e)
theorem length_putF (f : Str) (v : V) : ∀ fs : List (Str × V), (putF f v fs).length ≤ fs.length + 1
  | [] => by simp [putF]
  | (k, x) :: r => by
    have ih := length_putF f v r
    rw [show putF f v ((k, x) :: r) = (if k = f then (k, v) :: r else (k, x) :: putF f v r) from rfl]
    by_cases hk : k = f
    · rw [if_pos hk, List.length_cons, List.length_cons]; omega
    · rw [if_neg hk, List.length_cons, List.length_cons]; omega

theorem RelO.some_of {v : V} {o : Option Value} (r : RelO (some v) o) : ∃ u, o = some u ∧ RelV v u := by
  cases o with
  | none => exact (show False from r).elim
  | some u => exact ⟨u, rfl, r⟩
theorem RelO.none_of {o : Option Value} (r : RelO none o) : o = none := by
  cases o with
  | none => rfl
  | some u => exact (show False from r).elim
theorem handed_of {v : V} {u : Value} (r : RelV v u) : PySem.W.handedIn u = true := by
  cases v with
  | non => cases (show u = Value.none from r); rfl
  | bl b => cases (show u = Value.bool b from r); rfl
  | int i => obtain ⟨t, e⟩ := (show ∃ t, u = Value.int i t from r); cases e; rfl
  | str x => obtain ⟨t, e⟩ := (show ∃ t, u = Value.str x t from r); cases e; rfl
  | byt b => obtain ⟨t, e⟩ := (show ∃ t, u = Value.bytes b t from r); cases e; rfl
  | flt b => obtain ⟨t, e⟩ := (show ∃ t, u = Value.float b t from r); cases e; rfl
  | ref a => cases (show u = Value.ref a from r); rfl
  | ty n => cases (show u = Value.type n from r); rfl

section
variable {P : Program} {w : World} {H H' : Hp} {h h' : Heap} {a C dx : Addr} {fs fs' : List (Str × V)}
theorem ins_get (hok : HOk P w H h) (e : H a = some (.ins C dx fs)) : ∃ mA, ObjM h a dx C mA ∧ (∀ f, RelO (fs.lookup f) (mA f)) ∧ PySem.Within mA (fs.map (·.1)) ∧ fs.length ≤ 1000 ∧ H dx = some (.own a) := by
  obtain ⟨d, z, ne, ob, mA, n, r, q⟩ := (show ObjOk P w H h a (.ins C dx fs) from hok a _ e)
  exact ⟨mA, ⟨ob, n, ne⟩, r, q, z, d⟩
end

/-! ### what of the text a class must have -/
structure Cls (K : PySem.W.Frag) (C : Addr) : Prop where
  pg : PySem.W.plainGet K C Str.empty = true
  hd : PySem.W.hasDictIn K C = true
  po : PySem.W.plainOver K C = true
  sa : PySem.W.findIn K (.ref C) "__setattr__" = some (some (.builtin "object.__setattr__"))
theorem Cls.get {K : PySem.W.Frag} {C : Addr} (c : Cls K C) (f : Str) : PySem.W.plainGet K C f = true := c.pg
/-- no class of it has the name -/
def NoAttr (K : PySem.W.Frag) (C : Addr) (f : Str) : Prop := PySem.W.findIn K (.ref C) f = some none
theorem NoAttr.taker {K : PySem.W.Frag} {C : Addr} {f : Str} (n : NoAttr K C f) : PySem.W.takerIn K C f = some none := by
  unfold PySem.W.takerIn
  rw [show PySem.W.findIn K (.ref C) f = some none from n]
  rfl
/-- a constant of the class -/
structure Con (K : PySem.W.Frag) (C : Addr) (f : Str) (v : V) (u : Value) : Prop where
  at_ : PySem.W.findIn K (.ref C) f = some (some u)
  rel : RelV v u
  get : PySem.W.specialIn K u "__get__" = some none
  cp : PySem.W.copiedNames.contains f = false
/-- a method: a plain def of the class or of one above it -/
structure Meth (K : PySem.W.Frag) (C : Addr) (m : Str) (f : Addr) : Prop where
  at_ : PySem.W.findIn K (.ref C) m = some (some (.ref f))
  fn : PySem.W.isFn K (.ref f) = true
  kp : PySem.W.keepIn K (.ref f) = true

section
variable {X : Cx} {pins : List (Addr × Obj)} {σ : St} {H : Hp} {s : Shared} {a C dx : Addr} {fs : List (Str × V)} {f : Str} {v : V} {A : Around} {E : Value → Shared → Prop}

theorem getattr_ok {b : Bool} {Q : Value → Shared → Prop} (I : Inv X pins σ H s) (e : H a = some (.ins C dx fs)) (c : Cls X.K C) (n : NoAttr X.K C f) (l : fs.lookup f = some v)
    (h : ∀ u s', Inv X pins σ H s' → RelV v u → Q u s') : wpAny (model X.prog X.w) A (getAttr (.ref a) f b) Q E s := by
  obtain ⟨mA, O, r, _, _, _⟩ := ins_get I.hok e
  obtain ⟨u, hu, ru⟩ := RelO.some_of (v := v) (o := mA f) (by rw [← l]; exact r f)
  exact get_map I.kIn O (c.get f) c.hd n hu (handed_of ru) (h u _ (I.tok _) ru)

theorem getmeth_ok {m : Str} {g : Addr} {pl : Sem Bool} {Q : Value × List Value → Shared → Prop} (I : Inv X pins σ H s) (e : H a = some (.ins C dx fs)) (c : Cls X.K C) (k : Meth X.K C m g) (l : fs.lookup m = none)
    (h : Q (.ref g, [.ref a]) s) : wpAny (model X.prog X.w) A (getMethod (.ref a) m pl) Q E s := by
  obtain ⟨mA, O, r, _, _, _⟩ := ins_get I.hok e
  have hn : mA m = none := RelO.none_of (by rw [← l]; exact r m)
  exact get_meth I.kIn O (c.get m) k.at_ k.fn hn h

theorem setattr_ok {y : V} {u : Value} {Q : Unit → Shared → Prop} (I : Inv X pins σ H s) (e : H a = some (.ins C dx fs)) (c : Cls X.K C) (n : NoAttr X.K C f) (hl : fs.length < 1000) (ry : RelV y u)
    (h : ∀ s', Inv X pins σ (upd H a (.ins C dx (putF f y fs))) s' → Q () s') : wpAny (model X.prog X.w) A (setAttr (.ref a) f u) Q E s := by
  obtain ⟨mA, O, r, wi, _, ho⟩ := ins_get I.hok e
  have hz : (fs.map (·.1)).length ≤ sizeLine := by rw [List.length_map, sizeLine_eq]; omega
  refine set_map I.kIn O c.sa c.po n.taker c.hd wi hz fun h' O' sb => h _ ?_
  have hd : ∃ o, h'.get? dx = some o := let ⟨o, _, _, e', _⟩ := O'.ns; ⟨o, e'⟩
  refine I.write (x := a) (e := dx) (by rw [e]; exact True.intro) (.inr ho) (fun b q hb z => (sb.2 b hb).trans z) hd ?_
  refine ⟨by rw [upd_ne O.ne]; exact ho, ?_, O.ne, O'.obj, _, O'.ns, fun g => ?_, fun g hg => ?_⟩
  · have := length_putF f y fs; omega
  · show RelO ((putF f y fs).lookup g) (if g = f then some u else mA g)
    rw [lookup_putF]
    by_cases q : g = f
    · rw [if_pos q, if_pos q]; exact ry
    · rw [if_neg q, if_neg q]; exact r g
  · by_cases q : g = f
    · rw [q]; exact (keys_putF f y fs).1
    · refine (keys_putF f y fs).2 g (wi g fun z => hg ?_)
      show (if g = f then some u else mA g) = none
      rw [if_neg q]; exact z

/-- a new instance, tracked, without attributes -/
theorem Inv.made (I : Inv X pins σ H s) : Inv X pins σ (upd (upd H s.heap.objs.size (.own (s.heap.objs.size + 1))) (s.heap.objs.size + 1) (.ins C s.heap.objs.size []))
    { s with heap := (s.heap.push PySem.W.emptyDict).push (PySem.W.instObj C s.heap.objs.size) } := by
  have e1 : (s.heap.push PySem.W.emptyDict).get? s.heap.objs.size = some PySem.W.emptyDict := Heap.get?_push_size s.heap rfl
  have e2 : ((s.heap.push PySem.W.emptyDict).push (PySem.W.instObj C s.heap.objs.size)).get? (s.heap.objs.size + 1) = some (PySem.W.instObj C s.heap.objs.size) := by
    have := Heap.get?_push_size (s.heap.push PySem.W.emptyDict) (o := PySem.W.instObj C s.heap.objs.size) rfl
    rwa [Heap.size_push] at this
  have e3 : (s.heap.push PySem.W.emptyDict).Ns s.heap.objs.size (fun _ => none) := ⟨PySem.W.emptyDict, #[], _, e1, rfl, (fun e he => absurd he (by simp)), fun _ => rfl⟩
  have I1 := I.laid (a := s.heap.objs.size) (o := .own (s.heap.objs.size + 1)) (h' := s.heap.push PySem.W.emptyDict) (t' := s.toks) (fun b u q => Heap.get?_push_of_some _ q) (Nat.le_refl _) ⟨_, e1⟩
  refine I1.laid (a := s.heap.objs.size + 1) (o := .ins C s.heap.objs.size []) (t' := s.toks) (fun b u q => Heap.get?_push_of_some _ q) (Nat.le_of_eq (Heap.size_push _ _)) ?_
  have ne : s.heap.objs.size ≠ s.heap.objs.size + 1 := Nat.ne_of_lt (Nat.lt_succ_self _)
  refine ⟨by rw [upd_ne ne, upd_same], Nat.zero_le _, ne, e2, fun _ => none, (Heap.Ns1.of_empty e3).at fun o q => Heap.get?_push_of_some _ q, fun _ => True.intro, fun y hy => absurd rfl hy⟩

/-- e.f where nothing but the object is asked: through attributeBase (super) and the last hold -/
theorem attr_of {prog : Program} {w : World} {env : Env} {e : Expr} {f : Str} {pos : Pos} {s : Shared} {Q : Value → Shared → Prop} (hb : attributeBase e f env (eval e env) = eval e env)
    (h : wpAny (model prog w) A (eval e env) (fun o s₁ => wpAny (model prog w) A (getAttr o f true) Q E s₁) E s) : wpAny (model prog w) A (eval (.Attribute e f pos) env) Q E s :=
  Attribute_any_ h (by rw [arm_eval_Attribute, hb])
end

/-! ### readings and rules -/
/-- e.f, an attribute of the instance -/
def tFld (K : PySem.W.Frag) (ta : TE) (f : Str) : TE := fun σ H Q => ta σ H fun x H1 => ∃ a C dx fs v, x = .ref a ∧ H1 a = some (.ins C dx fs) ∧ Cls K C ∧ NoAttr K C f ∧ fs.lookup f = some v ∧ Q v H1
/-- e.f, a constant of the class -/
def tCon (K : PySem.W.Frag) (ta : TE) (f : Str) : TE := fun σ H Q => ta σ H fun x H1 => ∃ a C dx fs v u, x = .ref a ∧ H1 a = some (.ins C dx fs) ∧ Cls K C ∧ Con K C f v u ∧ fs.lookup f = none ∧ Q v H1
/-- e.f = value -/
def sFld (K : PySem.W.Frag) (ta tv : TE) (f : Str) : TS := fun D σ H => tv σ H fun y H1 => ta σ H1 fun x H2 => ∃ a C dx fs, x = .ref a ∧ H2 a = some (.ins C dx fs) ∧ Cls K C ∧ NoAttr K C f ∧ fs.length < 1000 ∧
  D.nx σ (upd H2 a (.ins C dx (putF f y fs)))
/-- an augmented operator on two values -/
def InOp (X : Cx) (op : Operator) (rd : V → V → Hp → VK → Prop) : Prop :=
  ∀ (pins : List (Addr × Obj)) (s : Shared) (σ : St) (H : Hp) (x y : V) (u v : Value) (Q : VK), Inv X pins σ H s → RelV x u → RelV y v → rd x y H Q → wpAny (model X.prog X.w) X.A (inplaceOp op u v) (EP X pins σ Q) X.xe s
/-- e.f op= value -/
def sFldAug (K : PySem.W.Frag) (ta tv : TE) (rd : V → V → Hp → VK → Prop) (f : Str) : TS := fun D σ H => ta σ H fun x H1 => ∃ a C dx fs v, x = .ref a ∧ H1 a = some (.ins C dx fs) ∧ Cls K C ∧ NoAttr K C f ∧ fs.lookup f = some v ∧
  tv σ H1 fun y H2 => rd v y H2 fun z H3 => ∃ dx' fs', H3 a = some (.ins C dx' fs') ∧ fs'.length < 1000 ∧ D.nx σ (upd H3 a (.ins C dx' (putF f z fs')))

section
variable {X : Cx} {o e value : Expr} {f : Str} {pos pos' tpos : Pos} {ta tv : TE}
def rAdd : V → V → Hp → VK → Prop := fun x y H Q => ∃ i j, x = .int i ∧ y = .int j ∧ Q (.int (i + j)) H
def rSub : V → V → Hp → VK → Prop := fun x y H Q => ∃ i j, x = .int i ∧ y = .int j ∧ Q (.int (i - j)) H
end

/-! ### isinstance -/
section
variable {X : Cx} {pins : List (Addr × Obj)} {σ : St} {H : Hp} {s : Shared} {A : Around} {E : Value → Shared → Prop} {Q : Value → Shared → Prop} {c : Value} {b : Bool}
/-- the type of a value, as the fragment's deciders take it; for an instance its class -/
inductive TyOf (K : PySem.W.Frag) (H : Hp) : V → Value → Prop where
  | non : TyOf K H .non (.type "NoneType")
  | bl (x : Bool) : TyOf K H (.bl x) (.type "bool")
  | int (i : Int) : TyOf K H (.int i) (.type "int")
  | str (x : Str) : TyOf K H (.str x) (.type "str")
  | flt (x : UInt64) : TyOf K H (.flt x) (.type "float")
  | lst {a : Addr} {xs : List V} (e : H a = some (.lst xs)) : TyOf K H (.ref a) (.type "list")
  | frz {a : Addr} {o : Obj} {xs : List V} (e : H a = some (.frz o (.lst xs))) : TyOf K H (.ref a) (.type "list")
  | tup {a : Addr} {xs : List V} (e : H a = some (.tup xs)) : TyOf K H (.ref a) (.type "tuple")
  | dK {a : Addr} {kvs : List (Key × V)} (e : H a = some (.dK kvs)) : TyOf K H (.ref a) (.type "dict")
  | dT {a : Addr} {kvs : List (List Key × V)} (e : H a = some (.dT kvs)) : TyOf K H (.ref a) (.type "dict")
  | ins {a C dx : Addr} {fs : List (Str × V)} (e : H a = some (.ins C dx fs)) (cl : Cls K C) (ha : PySem.W.findIn K (.ref C) "__class__" = some (some (.builtin "object.__class__")))
      (hn : PySem.W.specialIn K (.builtin "object.__class__") "__get__" = some (some (.builtin "getset_descriptor.__get__"))) (htk : PySem.W.takesIn K (.builtin "object.__class__") = some true)
      (hm : PySem.W.mroIn K C (.type "object") = some true) : TyOf K H (.ref a) (.ref C)
/-- isinstance(x, c) for one class c, a built-in or an own one: kitOne's answer -/
theorem isinst_ok {x : V} {u t : Value} (I : Inv X pins σ H s) (rx : RelV x u) (ty : TyOf X.K H x t) (e : PySem.W.kitOne X.K t c = some b) (h : ∀ tk, Q (.bool b) { s with toks := tk }) :
    wpAny (model X.prog X.w) A (call (.builtin "isinstance") [u, c]) Q E s := by
  cases ty with
  | non => cases (show u = Value.none from rx); exact PySem.W.kia_one PySem.W.kitx_none I.kIn True.intro e (fun z => nomatch z) h
  | bl y => cases (show u = Value.bool y from rx); exact PySem.W.kia_one PySem.W.kitx_bool I.kIn True.intro e (fun z => nomatch z) h
  | int i => obtain ⟨t, q⟩ := (show ∃ t, u = Value.int i t from rx); cases q; exact PySem.W.kia_one PySem.W.kitx_int I.kIn True.intro e (fun z => nomatch z) h
  | str y => obtain ⟨t, q⟩ := (show ∃ t, u = Value.str y t from rx); cases q; exact PySem.W.kia_one PySem.W.kitx_str I.kIn True.intro e (fun z => nomatch z) h
  | flt y => obtain ⟨t, q⟩ := (show ∃ t, u = Value.float y t from rx); cases q; exact PySem.W.kia_one PySem.W.kitx_float I.kIn True.intro e (fun z => nomatch z) h
  | @lst a xs ea =>
    cases (show u = Value.ref a from rx)
    obtain ⟨_, _, n, _, h1⟩ := (show ObjOk X.prog X.w H s.heap a (.lst xs) from I.hok a _ ea)
    exact PySem.W.kia_one PySem.W.kitx_list I.kIn ⟨_, h1, rfl⟩ e (fun z => nomatch z) h
  | @frz a ob xs ea =>
    cases (show u = Value.ref a from rx)
    obtain ⟨_, _, _, n, _, h1⟩ := (show ObjOk X.prog X.w H s.heap a (.frz ob (.lst xs)) from I.hok a _ ea)
    exact PySem.W.kia_one PySem.W.kitx_list I.kIn ⟨_, h1, rfl⟩ e (fun z => nomatch z) h
  | @tup a xs ea =>
    cases (show u = Value.ref a from rx)
    obtain ⟨_, _, _, p⟩ := (show ObjOk X.prog X.w H s.heap a (.tup xs) from I.hok a _ ea)
    obtain ⟨o, h1, h2, _⟩ := p
    exact PySem.W.kia_one PySem.W.kitx_tuple I.kIn ⟨o, h1, h2⟩ e (fun z => nomatch z) h
  | @dK a kvs ea =>
    cases (show u = Value.ref a from rx)
    obtain ⟨_, _, vs, _, p⟩ := (show ObjOk X.prog X.w H s.heap a (.dK kvs) from I.hok a _ ea)
    obtain ⟨o, es, ep, h1, h2, _⟩ := p
    exact PySem.W.kia_one PySem.W.kitx_dict I.kIn ⟨o, h1, h2.1⟩ e (fun z => nomatch z) h
  | @dT a kvs ea =>
    cases (show u = Value.ref a from rx)
    obtain ⟨_, _, xs, _, o, es, ep, h1, h2, _⟩ := (show ObjOk X.prog X.w H s.heap a (.dT kvs) from I.hok a _ ea)
    exact PySem.W.kia_one PySem.W.kitx_dict I.kIn ⟨o, h1, h2.1⟩ e (fun z => nomatch z) h
  | @ins a C dx fs ea cl ha hn htk hm =>
    cases (show u = Value.ref a from rx)
    obtain ⟨mA, O, _⟩ := ins_get I.hok ea
    obtain ⟨od, J, _⟩ := O.look
    exact PySem.W.kia_one (PySem.W.kitx_own (cl.get _) cl.hd ha hn htk hm) I.kIn J e (fun z => nomatch z) h
end
end L2

namespace L2
open PySem PySem.Spec PyProof.Rows

/-! ### room -/
structure Room (k : Nat) (A : Around) : Prop where
  hd : A.handled = none
  dp : A.depth + 3 * k + 5 < recursionLimit
  un : A.units + 16 * k + 200 < cLine
  gd : A.guards = some []
theorem Room.mono {j k : Nat} {A : Around} (r : Room k A) (h : j ≤ k) : Room j A := ⟨r.hd, by have := r.dp; omega, by have := r.un; omega, r.gd⟩
theorem Room.deeper {k : Nat} {A : Around} (r : Room (k + 1) A) (env : Env) : Room k (A.deeper env) :=
  ⟨r.hd, by have := r.dp; show A.depth + 1 + 3 * k + 5 < _; omega, by have := r.un; show A.units + 3 + 16 * k + 200 < _; omega, r.gd⟩
theorem Room.in1 {k : Nat} {A : Around} (r : Room (k + 1) A) : Room k A.in1 :=
  ⟨r.hd, by have := r.dp; show A.depth + 3 * k + 5 < _; omega, by have := r.un; show A.units + 1 + 16 * k + 200 < _; omega, r.gd⟩
theorem make_depth {A : Around} {C : Addr} {us : List Value} {kw : List (Str × Value)} : (A.under (.builtin "type.__call__" ⟨.ref C :: us, kw⟩)).depth = A.depth + 1 := by
  first | rfl | simp [Around.under, Code.weight, Code.isCreation, Code.isGuard, Code.isCaller, Code.frames, Code.isFrame, guardIds]
theorem make_units {A : Around} {C : Addr} {us : List Value} {kw : List (Str × Value)} : (A.under (.builtin "type.__call__" ⟨.ref C :: us, kw⟩)).units = A.units + 1 := by
  first | rfl | simp [Around.under, Code.cUnits, Code.frames, Code.isFrame]
theorem make_guards {A : Around} {C : Addr} {us : List Value} {kw : List (Str × Value)} : (A.under (.builtin "type.__call__" ⟨.ref C :: us, kw⟩)).guards = A.guards := by
  have h : (Code.builtin "type.__call__" ⟨.ref C :: us, kw⟩).guards = [] := by
    unfold Code.guards
    rw [if_neg (show ¬ (Code.isGuard (Code.builtin "type.__call__" ⟨.ref C :: us, kw⟩) = true) from (show ¬ (guardIds.contains "type.__call__" = true) by decide +kernel))]
  unfold Around.under
  dsimp only
  rw [h]
  unfold pushGuards
  rfl
theorem Room.make {k : Nat} {A : Around} (r : Room (k + 1) A) (C : Addr) (us : List Value) (kw : List (Str × Value)) : Room k (A.under (.builtin "type.__call__" ⟨.ref C :: us, kw⟩)) :=
  ⟨r.hd, by have := r.dp; rw [make_depth]; omega, by have := r.un; rw [make_units]; omega, by rw [make_guards]; exact r.gd⟩
theorem Room.depth {k : Nat} {A : Around} (r : Room k A) : A.depth < recursionLimit := by have := r.dp; omega
theorem Room.units {k : Nat} {A : Around} (r : Room k A) : A.units + 64 < cLine := by have := r.un; omega
/-! ### argument lists and displays -/
def tNil : TA := fun _ H Q => Q [] H
def tCons (ta : TE) (tr : TA) : TA := fun σ H Q => ta σ H fun x H1 => tr σ H1 fun xs H2 => Q (x :: xs) H2
section
variable {X : Cx} {e : Expr} {es : List Expr} {te : TE} {t : TA} {pos : Pos}
theorem pa_nil : PA X [] tNil := fun _ _ _ _ H Q I h => Calls.spliced_nil ⟨[], H, I, .nil, h⟩
theorem pa_cons (ha : PE X e te) (hr : PA X es t) (hs : starEach (e :: es) X.env = (false, eval e X.env) :: starEach es X.env := by rfl) : PA X (e :: es) (tCons te t) := by
  intro pos pins s σ H Q I h
  rw [hs]
  show wpAny _ _ (spliced ((false, eval e X.env) :: backTo pos (starEach es X.env))) _ _ s
  refine Calls.spliced_cons (thn (ha pins s σ H _ I h) fun u s1 ⟨x, H1, I1, r1, q1⟩ => ?_)
  exact thn (hr pos pins s1 σ H1 _ I1 q1) fun us s2 ⟨xs, H2, I2, r2, q2⟩ => ⟨x :: xs, H2, I2, .cons r1 r2, q2⟩

/-- a tuple, a list of written items -/
def tTup (t : TA) : TE := fun σ H Q => t σ H fun xs H1 => xs.length ≤ sizeLine ∧ ∀ p, H1 p = none → Q (.ref p) (upd H1 p (.tup xs))
def tLst (t : TA) : TE := fun σ H Q => t σ H fun xs H1 => xs.length ≤ sizeLine ∧ ∀ p, H1 p = none → Q (.ref p) (upd H1 p (.lst xs))
theorem pe_tup {x1} (h : PA X es t) : PE X (.Tuple es x1 pos) (tTup t) := by
  intro pins s σ H Q I hq
  refine wpAny_Tuple_spliced (thn (h pos pins s σ H _ I hq) fun us s1 ⟨xs, H1, I1, r, z, q⟩ => ⟨by rw [← r.length]; exact z, ?_⟩)
  have hf : H1 s1.heap.objs.size = none := I1.hok.fresh (Nat.le_refl _)
  refine ⟨.ref s1.heap.objs.size, upd H1 s1.heap.objs.size (.tup xs), I1.laid (t' := s1.toks) (fun b u e => Heap.get?_push_of_some _ e) (Nat.le_refl _) ?_, rfl, q _ hf⟩
  exact ⟨z, us, r, ⟨_, Heap.get?_push_size _ rfl, rfl, _, rfl⟩⟩
theorem pe_lst (h : PA X es t) : PE X (.List es pos) (tLst t) := by
  intro pins s σ H Q I hq
  refine wpAny_List_spliced (thn (h pos pins s σ H _ I hq) fun us s1 ⟨xs, H1, I1, r, z, q⟩ => ⟨by rw [← r.length]; exact z, ?_⟩)
  have hf : H1 s1.heap.objs.size = none := I1.hok.fresh (Nat.le_refl _)
  refine ⟨.ref s1.heap.objs.size, upd H1 s1.heap.objs.size (.lst xs), I1.laid (t' := s1.toks) (fun b u e => Heap.get?_push_of_some _ e) (Nat.le_refl _) ?_, rfl, q _ hf⟩
  exact ⟨z, us, 0, r, Heap.get?_push_size _ rfl⟩
end

/-! ### what a def promises -/
/-- a def's promise: the bound arguments in the parameters' order, the heap, the wanted end, the wanted exception -/
abbrev Sp := List V → Hp → VK → XK → Prop
/-- how an exception lies behind a call (file 08 gives it): the callers' frames, abstract heap and state ahead of the call, the wish, the exception, the state -/
abbrev CXT := List Env → Hp → Shared → XK → Value → Shared → Prop

/-- the state at a call -/
structure Env0 (P : Program) (w : World) (K : PySem.W.Frag) (mg : Str → Option Value) (base : Heap) (A : Around) (outer : List Env) (s : Shared) (H : Hp) : Prop where
  frames : A.frames = some outer
  mod : Mod K mg base
  bs : ∀ b o, base.get? b = some o → s.heap.get? b = some o ∧ H b = none
  bsz : base.objs.size ≤ s.heap.objs.size
  funs : s.heap.FunFrames base outer
  frf : ∀ b ∈ frs outer, H b = none
  hok : HOk P w H s.heap
  bare : AllBare s.gens
/-- a call's end -/
def CE (outer : List Env) (P : Program) (w : World) (H : Hp) (s : Shared) (Q : VK) (u : Value) (s' : Shared) : Prop :=
  ∃ v H', s'.os = s.os ∧ AllBare s'.gens ∧ Un (frs outer) [] H H' s.heap s'.heap ∧ HOk P w H' s'.heap ∧ RelV v u ∧ Q v H'
def CR (CX : CXT) (outer : List Env) (P : Program) (w : World) (H : Hp) (s : Shared) (Q : VK) (E : XK) (r : Result) (s' : Shared) : Prop :=
  match r with
  | .ok (.ret u) => CE outer P w H s Q u s'
  | .ok _ => False
  | .error e => CX outer H s E e s'
structure FnOk (P : Program) (w : World) (K : PySem.W.Frag) (mg : Str → Option Value) (base : Heap) (CX : CXT) (k : Nat) (f : Addr) (fd : FuncData) (ps : List Str) (sp : Sp) : Prop where
  len : ∀ vs H Q E, sp vs H Q E → vs.length = ps.length
  run : ∀ (A : Around) (outer : List Env) (s : Shared) (H : Hp) (args : Args) (us : List Value) (vs : List V) (Q : VK) (E : XK), Room k A → Env0 P w K mg base A outer s H → BindsTo s fd args (ps.zip us) → Vals vs us → sp vs H Q E →
    codeAny (model P w) A (.call (.ref f) args) (CR CX outer P w H s Q E) s
theorem FnOk.mono {P : Program} {w : World} {K : PySem.W.Frag} {mg : Str → Option Value} {base : Heap} {CX : CXT} {j k : Nat} {f : Addr} {fd : FuncData} {ps : List Str} {sp : Sp} (F : FnOk P w K mg base CX j f fd ps sp) (h : j ≤ k) :
    FnOk P w K mg base CX k f fd ps sp := ⟨F.len, fun A outer s H args us vs Q E hr => F.run A outer s H args us vs Q E (hr.mono h)⟩
/-- a weaker promise -/
theorem FnOk.imp {P : Program} {w : World} {K : PySem.W.Frag} {mg : Str → Option Value} {base : Heap} {CX : CXT} {k : Nat} {f : Addr} {fd : FuncData} {ps : List Str} {sp sp' : Sp} (F : FnOk P w K mg base CX k f fd ps sp)
    (h : ∀ vs H Q E, sp' vs H Q E → sp vs H Q E) : FnOk P w K mg base CX k f fd ps sp' :=
  ⟨fun vs H Q E q => F.len vs H Q E (h _ _ _ _ q), fun A outer s H args us vs Q E hr he hb hv hs => F.run A outer s H args us vs Q E hr he hb hv (h _ _ _ _ hs)⟩

theorem Env0.make {P : Program} {w : World} {K : PySem.W.Frag} {mg : Str → Option Value} {base : Heap} {A : Around} {outer : List Env} {s : Shared} {H : Hp} (e : Env0 P w K mg base A outer s H) (C : Addr) (us : List Value) (kw : List (Str × Value)) :
    Env0 P w K mg base (A.under (.builtin "type.__call__" ⟨.ref C :: us, kw⟩)) outer s H := ⟨by first | exact e.frames | (simpa [Around.under, Code.envs, Code.isFrame, pushEnvs] using e.frames), e.mod, e.bs, e.bsz, e.funs, e.frf, e.hok, e.bare⟩
theorem Env0.in1 {P : Program} {w : World} {K : PySem.W.Frag} {mg : Str → Option Value} {base : Heap} {A : Around} {outer : List Env} {s : Shared} {H : Hp} (e : Env0 P w K mg base A outer s H) :
    Env0 P w K mg base A.in1 outer s H := ⟨e.frames, e.mod, e.bs, e.bsz, e.funs, e.frf, e.hok, e.bare⟩

section
variable {X : Cx} {pins : List (Addr × Obj)} {σ : St} {H : Hp} {s s' : Shared}
/-- from a body: what a callee wants -/
theorem Inv.env0 (I : Inv X pins σ H s) : Env0 X.prog X.w X.K X.mg X.base X.A X.stack s H :=
  ⟨I.ok.frames, I.ok.mod, I.bs, Nat.le_trans I.ok.bsz I.sz, I.stack, I.stkFree, I.hok, I.bare⟩
/-- behind a call -/
theorem Inv.after {Q : VK} {u : Value} (I : Inv X pins σ H s) (h : CE X.stack X.prog X.w H s Q u s') : EP X pins σ Q u s' := by
  obtain ⟨v, H', os, bare, un, hok, r, q⟩ := h
  obtain ⟨hh, g, d, t, os'⟩ := s'
  obtain rfl : os' = s.os := os
  exact ⟨v, H', I.call (h' := hh) (g' := g) (d' := d) (t' := t) (ch := []) un hok bare (fun b z => absurd z (by simp)), r, q⟩
end

/-! ### calls -/
/-- f(..): the written arguments, then the defaults dvs; E: what is wanted of an exception -/
def tCall (sp : Sp) (dvs : List V) (E : XK) (t : TA) : TE := fun σ H Q => t σ H fun vs H1 => sp (vs ++ dvs) H1 Q E
/-- o.m(..) of an instance of the class at C -/
def tMeth (C : Addr) (m : Str) (sp : Sp) (dvs : List V) (E : XK) (ta : TE) (t : TA) : TE := fun σ H Q => ta σ H fun x H1 => ∃ a dx fs, x = .ref a ∧ H1 a = some (.ins C dx fs) ∧ fs.lookup m = none ∧
  t σ H1 fun vs H2 => sp (x :: (vs ++ dvs)) H2 Q E
/-- C(..): a new instance and its dict, then __init__ -/
def tMake (C : Addr) (sp : Sp) (dvs : List V) (E : XK) (t : TA) : TE := fun σ H Q => t σ H fun vs H1 => ∀ x dx, H1 x = none → H1 dx = none → dx ≠ x →
  sp (.ref x :: (vs ++ dvs)) (upd (upd H1 dx (.own x)) x (.ins C dx [])) (fun v H2 => v = .non ∧ Q (.ref x) H2) E

/-- how the parameters are bound: us the positional arguments, kw the keywords' values by name, ds the defaults that fill up -/
def Binds (K : PySem.W.Frag) (fd : FuncData) (ps : List Str) (ds : List Value) : Prop :=
  ∀ (s : Shared) (us : List Value), K.In s.heap → (us ++ ds).length = ps.length → BindsTo s fd ⟨us, []⟩ (ps.zip (us ++ ds))
/-- every parameter is given -/
theorem Binds.all {K : PySem.W.Frag} {fd : FuncData} {ps : List Str} (h : ∀ us : List Value, us.length = ps.length → bindArgs fd ⟨us, []⟩ = pure (ps.zip us)) : Binds K fd ps [] := fun s us _ hl => by
  rw [List.append_nil] at hl ⊢
  exact .of_eq (h us hl)

/-- an exception of a callee reaches what this body wants of exceptions -/
def Passes (CX : CXT) (X : Cx) (E : XK) : Prop := ∀ (pins : List (Addr × Obj)) (σ : St) (H : Hp) (s : Shared) (e : Value) (s' : Shared), Inv X pins σ H s → CX X.stack H s E e s' → X.xe e s'

section
variable {X : Cx} {CX : CXT} {k : Nat} {f C : Addr} {fd : FuncData} {ps : List Str} {sp : Sp} {dvs : List V} {ds : List Value} {E : XK} {x m : Str} {p pos apos : Pos} {e o : Expr} {es : List Expr} {ta : TE} {t : TA}

/-- the callee runs -/
theorem run_fn {pins : List (Addr × Obj)} {σ : St} {H : Hp} {s : Shared} {Q : VK} {us : List Value} {vs : List V} (F : FnOk X.prog X.w X.K X.mg X.base CX k f fd ps sp) (hr : Room k X.A) (hb : Binds X.K fd ps ds) (hd : Vals dvs ds) (hx : Passes CX X E)
    (I : Inv X pins σ H s) (r : Vals vs us) (h : sp (vs ++ dvs) H Q E) : wpAny (model X.prog X.w) X.A (call (.ref f) us) (EP X pins σ Q) X.xe s := by
  have r2 : Vals (vs ++ dvs) (us ++ ds) := r.append hd
  have hl : (us ++ ds).length = ps.length := by rw [← r2.length]; exact F.len _ _ _ _ h
  refine wpAny_call (codeAny_mono (F.run X.A X.stack s H ⟨us, []⟩ (us ++ ds) (vs ++ dvs) Q E hr I.env0 (hb s us I.kIn hl) r2 h) fun r s' hq => ?_)
  cases r with
  | error e => exact hx pins σ H s e s' I hq
  | ok fl =>
    cases fl with
    | ret u => exact I.after hq
    | next => exact False.elim hq
    | brk => exact False.elim hq
    | cont => exact False.elim hq

theorem pe_call (F : FnOk X.prog X.w X.K X.mg X.base CX k f fd ps sp) (hr : Room k X.A) (hg : Gl X x) (hm : X.mg x = some (.ref f)) (hk : PySem.W.keepIn X.K (.ref f) = true) (hb : Binds X.K fd ps ds) (hd : Vals dvs ds) (hx : Passes CX X E)
    (ha : PA X (e :: es) t) (hdb : (x == ("__debug__" : Str)) = false := by decide) (he : starEach (e :: es) X.env = (false, eval e X.env) :: starEach es X.env := by rfl) (hpl : (backTo pos (starEach es X.env)).any (·.1) = false := by rfl) :
    PE X (.Call (.Name x p) (e :: es) [] pos) (tCall sp dvs E t) := by
  intro pins s σ H Q I h
  refine wpAny_Call_Name_kw (ld_glob I hg hm ?_ hdb)
  refine PySem.W.callWith_K (h₀ := X.base) I.ok.mod.kin hk (thn (ha pos pins s σ H _ I h) fun us s1 ⟨vs, H1, I1, r, q⟩ => ⟨I1.kIn, ?_⟩) he hpl
  exact run_fn F hr hb hd hx I1 r q
/-- what a class must have to be made -/
structure Mk (K : PySem.W.Frag) (C f : Addr) : Prop where
  makes : PySem.W.makesIn K C = true
  init : PySem.W.findIn K (.ref C) "__init__" = some (some (.ref f))
  fn : PySem.W.isFn K (.ref f) = true
  kp : PySem.W.keepIn K (.ref C) = true

theorem run_make {pins : List (Addr × Obj)} {σ : St} {H : Hp} {s : Shared} {Q : VK} {us : List Value} {vs : List V} (M : Mk X.K C f) (F : FnOk X.prog X.w X.K X.mg X.base CX k f fd ps sp) (hr : Room (k + 1) X.A) (hb : Binds X.K fd ps ds) (hd : Vals dvs ds)
    (hx : Passes CX X E) (I : Inv X pins σ H s) (r : Vals vs us)
    (h : ∀ x dx, H x = none → H dx = none → dx ≠ x → sp (.ref x :: (vs ++ dvs)) (upd (upd H dx (.own x)) x (.ins C dx [])) (fun v H2 => v = .non ∧ Q (.ref x) H2) E) :
    wpAny (model X.prog X.w) X.A (call (.ref C) us) (EP X pins σ Q) X.xe s := by
  have hq := h (s.heap.objs.size + 1) s.heap.objs.size (I.hok.fresh (Nat.le_succ _)) (I.hok.fresh (Nat.le_refl _)) (Nat.ne_of_lt (Nat.lt_succ_self _))
  have I2 := Inv.made (C := C) I
  have r2 : Vals (V.ref (s.heap.objs.size + 1) :: (vs ++ dvs)) (Value.ref (s.heap.objs.size + 1) :: (us ++ ds)) := .cons rfl (r.append hd)
  have hl : (Value.ref (s.heap.objs.size + 1) :: us ++ ds).length = ps.length := by
    have e := r2.length
    rw [F.len _ _ _ _ hq] at e
    exact e.symm
  refine wpAny_call (make_map (f := f) I.kIn M.makes M.init (beq_iff_eq.mp M.fn) (codeAny_mono (F.run _ X.stack _ _ ⟨Value.ref (s.heap.objs.size + 1) :: us, []⟩ (Value.ref (s.heap.objs.size + 1) :: (us ++ ds)) _ _ E (hr.make C us [])
    (I2.env0.make C us []) (hb _ (Value.ref (s.heap.objs.size + 1) :: us) I2.kIn hl) r2 hq) fun r s' hq' => ?_))
  cases r with
  | error e => exact hx pins σ _ _ e s' I2 hq'
  | ok fl =>
    cases fl with
    | ret u =>
      obtain ⟨v, H', I3, rv, ev, q3⟩ := I2.after hq'
      subst ev
      exact ⟨rv, ⟨V.ref (s.heap.objs.size + 1), H', I3, rfl, q3⟩⟩
    | next => exact False.elim hq'
    | brk => exact False.elim hq'
    | cont => exact False.elim hq'
theorem pe_make (M : Mk X.K C f) (F : FnOk X.prog X.w X.K X.mg X.base CX k f fd ps sp) (hr : Room (k + 1) X.A) (hg : Gl X x) (hm : X.mg x = some (.ref C)) (hb : Binds X.K fd ps ds) (hd : Vals dvs ds) (hx : Passes CX X E)
    (ha : PA X (e :: es) t) (hdb : (x == ("__debug__" : Str)) = false := by decide) (he : starEach (e :: es) X.env = (false, eval e X.env) :: starEach es X.env := by rfl) (hpl : (backTo pos (starEach es X.env)).any (·.1) = false := by rfl) :
    PE X (.Call (.Name x p) (e :: es) [] pos) (tMake C sp dvs E t) := by
  intro pins s σ H Q I h
  refine wpAny_Call_Name_kw (ld_glob I hg hm ?_ hdb)
  refine PySem.W.callWith_K (h₀ := X.base) I.ok.mod.kin M.kp (thn (ha pos pins s σ H _ I h) fun us s1 ⟨vs, H1, I1, r, q⟩ => ⟨I1.kIn, ?_⟩) he hpl
  exact run_make M F hr hb hd hx I1 r q
end

/-! ### keywords -/
/-- the values of the keywords, from the left -/
def PK (X : Cx) (kws : List Keyword) (t : TA) : Prop :=
  ∀ (pos : Pos) (pins : List (Addr × Obj)) (s : Shared) (σ : St) (H : Hp) (Q : List V → Hp → Prop), Inv X pins σ H s → t σ H Q → wpAny (model X.prog X.w) X.A (evalAll ((backToKw pos (keywordEach kws X.env)).map (·.2))) (AP X pins σ Q) X.xe s
section
variable {X : Cx} {CX : CXT} {k : Nat} {f C : Addr} {fd : FuncData} {ps ks : List Str} {sp : Sp} {E : XK} {x m : Str} {p pos apos kpos : Pos} {e o : Expr} {es : List Expr} {kws : List Keyword} {te ta : TE} {t tk : TA} {nm : Option Str}
/-- how a call with keywords binds: g puts the positional values us and the keywords' values ws (names ks) in the parameters' order, defaults among them -/
structure KBinds (K : PySem.W.Frag) (fd : FuncData) (ps ks : List Str) (g : List Value → List Value → List Value) (gV : List V → List V → List V) : Prop where
  to : ∀ (s : Shared) (us ws : List Value), K.In s.heap → (g us ws).length = ps.length → BindsTo s fd ⟨us, ks.zip ws⟩ (ps.zip (g us ws))
  rel : ∀ {vs : List V} {us : List Value} {zs : List V} {ws : List Value}, Vals vs us → Vals zs ws → Vals (gV vs zs) (g us ws)
def tCallK (sp : Sp) (gV : List V → List V → List V) (E : XK) (t tk : TA) : TE := fun σ H Q => t σ H fun vs H1 => tk σ H1 fun zs H2 => sp (gV vs zs) H2 Q E
variable {g : List Value → List Value → List Value} {gV : List V → List V → List V}
end

/-! ### a def's body keeps its promise -/
/-- names: the parameters first -/
structure FnScope (N P : List Str) (sc : Scope) : Prop where
  kind : sc.kind = .function
  co : sc.isCoroutine = false
  gen : sc.isGenerator = false
  nd : N.Nodup
  pre : N.take P.length = P
  par : ∀ x ∈ P, sc.names.lookup x = some .local ∨ sc.names.lookup x = some .cell
  nofree : ∀ y ∈ sc.names, y.2 ≠ .free

theorem bindL_out {kindOf : Str → Option NameKind} {x : Str} : ∀ {binds : List (Str × Value)} {m : Str → Option Value}, (∀ v, (x, v) ∉ binds) → bindL kindOf binds m x = m x
  | [], _, _ => rfl
  | (n, v) :: r, m, h => by
    unfold bindL
    rw [bindL_out fun w hw => h w (List.mem_cons_of_mem _ hw)]
    split
    · have : x ≠ n := by rintro rfl; exact h v List.mem_cons_self
      simp [this]
    · rfl
theorem bindC_out {kindOf : Str → Option NameKind} {x : Str} : ∀ {binds : List (Str × Value)} {m : Str → Option Value}, (∀ v, (x, v) ∉ binds) → bindC kindOf binds m x = m x
  | [], _, _ => rfl
  | (n, v) :: r, m, h => by
    unfold bindC
    rw [bindC_out fun w hw => h w (List.mem_cons_of_mem _ hw)]
    split
    · rfl
    · have : x ≠ n := by rintro rfl; exact h v List.mem_cons_self
      simp [this]
theorem bindL_get {kindOf : Str → Option NameKind} {x : Str} {v : Value} : ∀ {P : List Str} {vs : List Value} {i : Nat} {m : Str → Option Value}, P.Nodup → P[i]? = some x → vs[i]? = some v → kindOf x = some .local →
    bindL kindOf (P.zip vs) m x = some v
  | [], _, _, _, _, h, _, _ => by simp at h
  | _ :: _, [], _, _, _, _, h, _ => by simp at h
  | p :: P, w :: vs, 0, m, nd, h1, h2, hk => by
    simp at h1 h2; subst h1; subst h2
    show bindL kindOf ((p, w) :: P.zip vs) m p = _
    unfold bindL
    rw [bindL_out fun v hv => (List.nodup_cons.mp nd).1 (List.of_mem_zip hv).1, if_pos hk]
    simp
  | p :: P, w :: vs, i + 1, m, nd, h1, h2, hk => by
    show bindL kindOf ((p, w) :: P.zip vs) m x = _
    unfold bindL
    exact bindL_get (i := i) (List.nodup_cons.mp nd).2 (by simpa using h1) (by simpa using h2) hk
theorem bindC_get {kindOf : Str → Option NameKind} {x : Str} {v : Value} : ∀ {P : List Str} {vs : List Value} {i : Nat} {m : Str → Option Value}, P.Nodup → P[i]? = some x → vs[i]? = some v → kindOf x ≠ some .local →
    bindC kindOf (P.zip vs) m x = some v
  | [], _, _, _, _, h, _, _ => by simp at h
  | _ :: _, [], _, _, _, _, h, _ => by simp at h
  | p :: P, w :: vs, 0, m, nd, h1, h2, hk => by
    simp at h1 h2; subst h1; subst h2
    show bindC kindOf ((p, w) :: P.zip vs) m p = _
    unfold bindC
    rw [bindC_out fun v hv => (List.nodup_cons.mp nd).1 (List.of_mem_zip hv).1, if_neg hk]
    simp
  | p :: P, w :: vs, i + 1, m, nd, h1, h2, hk => by
    show bindC kindOf ((p, w) :: P.zip vs) m x = _
    unfold bindC
    exact bindC_get (i := i) (List.nodup_cons.mp nd).2 (by simpa using h1) (by simpa using h2) hk

/-- the names' values at the entry -/
def start (N : List Str) (vs : List V) : St := vs.map some ++ List.replicate (N.length - vs.length) none

/-- the context of a def's body, at its entry; an exception leaves the frame, then lies as CX says -/
def cxOf (CX : CXT) (P : Program) (w : World) (K : PySem.W.Frag) (mg : Str → Option Value) (base : Heap) (N : List Str) (qual : Str) (scope : Scope) (f : Addr) (cd : Value) (A : Around) (outer : List Env) (s : Shared) (H : Hp) (E : XK) : Cx where
  prog := P
  w := w
  K := K
  mg := mg
  base := base
  A := A.deeper (envOfC qual scope s.heap.objs.size f cd)
  N := N
  s_0 := s
  H_0 := H
  env := envOfC qual scope s.heap.objs.size f cd
  outer := outer
  stack := envOfC qual scope s.heap.objs.size f cd :: outer
  ex := []
  calm := true
  fn := fun _ => true
  pn := []
  xe := fun e s' => wpAny (model P w) (A.deeper (envOfC qual scope s.heap.objs.size f cd)) (leaving (envOfC qual scope s.heap.objs.size f cd) e) (fun _ s'' => CX outer H s E e s'') (fun e' s'' => CX outer H s E e' s'') s'

theorem cell_has {sc : Scope} {n : Nat} {x : Str} (h : sc.names.lookup x = some .cell) : ∃ c, (cellsFrom n sc.names []).lookup x = some c := by
  have q := PySem.W.cellsFrom_some sc.names n [] (.inl h)
  exact Option.isSome_iff_exists.mp q

theorem inv_start {CX : CXT} {P : Program} {w : World} {K : PySem.W.Frag} {mg : Str → Option Value} {base : Heap} {N ps : List Str} {qual : Str} {scope : Scope} {f : Addr} {cd : Value} {A : Around} {outer : List Env} {s s1 : Shared} {H : Hp} {E : XK} {us : List Value} {vs : List V}
    (S : FnScope N ps scope) (hd : A.handled = none) (e0 : Env0 P w K mg base A outer s H) (hl : vs.length = ps.length) (r : Vals vs us)
    (x : InCallC s s.heap.objs.size (bindL (envOfC qual scope s.heap.objs.size f cd).kindOf (ps.zip us) fun _ => none) (cellsFrom (s.heap.objs.size + 1) scope.names []) (bindC (envOfC qual scope s.heap.objs.size f cd).kindOf (ps.zip us) fun _ => none) s1) :
    Inv (cxOf CX P w K mg base N qual scope f cd A outer s H E) [] (start N vs) H s1 := by
  have hpl : ps.length ≤ N.length := by have := congrArg List.length S.pre; rw [List.length_take] at this; omega
  obtain ⟨h1, tk, rfl, hk⟩ := x.done
  have noA : ∀ b : Addr, b ∉ (cxOf CX P w K mg base N qual scope f cd A outer s H E).ex := fun b z => absurd (show b ∈ ([] : List Addr) from z) (by simp)
  refine ⟨⟨e0.mod, S.kind, rfl, rfl, Nat.le_refl _, fun y z c h1 h2 => ?_, fun y hy => ?_, fun y c _ h => ?_, fun _ => hd, Around.frames_deeper e0.frames, .inr ⟨rfl, rfl⟩, fun b z => absurd z (noA b), e0.bs, e0.bsz, fun b _ _ => noA b, fun b z => absurd z (noA b), e0.funs, e0.frf⟩,
    rfl, e0.bare, Un.kept hk, ⟨_, x.toInCall.ns, fun i y v h1 h2 h3 => ?_⟩, fun y c h => ⟨_, x.cell y c h⟩, e0.hok.fresh (Nat.le_refl _), fun y c h => ?_, fun p hp => absurd (show p ∈ ([] : List (Addr × Obj)) from hp) (by simp), e0.hok.kept hk, ?_⟩
  · exact name_of_addr x.apart (PySem.mem_of_lookup h1) (PySem.mem_of_lookup h2)
  · have hy : scope.names.lookup y = some .cell ∨ scope.names.lookup y = some .free := hy
    rcases hy with hy | hy
    · exact cell_has hy
    · exact absurd rfl (S.nofree _ (PySem.mem_of_lookup hy))
  · exact Nat.le_of_lt (x.above y c (PySem.mem_of_lookup h))
  · have hi : i < vs.length := by
      unfold start at h2
      by_cases hi : i < vs.length
      · exact hi
      · rw [List.getElem?_append_right (by simpa using hi)] at h2
        rw [List.getElem?_replicate] at h2
        split at h2 <;> cases h2
    have ha : vs[i]? = some v := by
      unfold start at h2
      rw [List.getElem?_append_left (by simpa using hi), List.getElem?_map] at h2
      cases e : vs[i]? with
      | none => rw [e] at h2; cases h2
      | some a => rw [e] at h2; cases h2; rfl
    obtain ⟨u, hu, rv⟩ := r.get ha
    have hp : ps[i]? = some y := by
      rw [← S.pre, List.getElem?_take_of_lt (by omega)]; exact h1
    have ndP : ps.Nodup := by rw [← S.pre]; exact S.nd.sublist (List.take_sublist _ _)
    refine ⟨u, rv, ?_⟩
    rcases S.par y (List.mem_of_getElem? hp) with k | k
    · exact .inl ⟨k, bindL_get ndP hp hu k⟩
    · obtain ⟨c, e⟩ := cell_has (n := s.heap.objs.size + 1) k
      refine .inr ⟨.inl k, c, e, ?_⟩
      have q := x.cell y c e
      rw [bindC_get ndP hp hu (by show scope.names.lookup y ≠ _; rw [k]; decide)] at q
      exact q
  · exact e0.hok.fresh (Nat.le_of_lt (x.above y c (PySem.mem_of_lookup h)))
  · unfold start
    show _ = N.length
    rw [List.length_append, List.length_map, List.length_replicate]
    omega

/-- THE RULE: a def (or a method) of the text, by its body. The body's reading t is chosen for each entry; it is run at the parameters' values -/
theorem fn_of {CX : CXT} {P : Program} {w : World} {K : PySem.W.Frag} {mg : Str → Option Value} {base : Heap} {k : Nat} {f : Addr} {name qual : Str} {params : Arguments} {body : List Stmt} {scope : Scope} {dV kV doc pm cdv ct oc : Value} {an od : Option Addr}
    {osl : Array (Option Value)} {N ps : List Str} {sp : Sp} (lk : K.lookup f = some ⟨oc, od, .func (PySem.W.fnOf name qual params body scope dV kV doc pm an cdv ct), osl⟩) (hcd : PySem.W.codeIn K cdv qual = true) (S : FnScope N ps scope)
    (len : ∀ vs H Q E, sp vs H Q E → vs.length = ps.length)
    (hbody : ∀ (A : Around) (outer : List Env) (s : Shared) (H : Hp) (vs : List V) (Q : VK) (E : XK), Room k (A.deeper (envOfC qual scope s.heap.objs.size f cdv)) → sp vs H Q E →
      ∃ t, PSs (cxOf CX P w K mg base N qual scope f cdv A outer s H E) body t ∧ t { nx := fun _ H' => Q .non H', rt := Q } (start N vs) H) :
    FnOk P w K mg base CX (k + 1) f (PySem.W.fnOf name qual params body scope dV kV doc pm an cdv ct) ps sp := by
  refine ⟨len, fun A outer s H args us vs Q E hr e0 hb r hsp => ?_⟩
  have hl := len _ _ _ _ hsp
  have KX : K.In s.heap := e0.mod.kin.keeps fun b o e => (e0.bs b o e).1
  have lim : s.heap.NoLimit := e0.mod.nolimit.keeps fun b o e => (e0.bs b o e).1
  have hkind : ∀ y ∈ ps.zip us, scope.names.lookup y.1 = some .local ∨ (scope.names.lookup y.1 = some .cell ∧ ((cellsFrom (s.heap.objs.size + 1) scope.names []).lookup y.1).isSome = true) := fun ⟨n, v⟩ hy => by
    rcases S.par n (List.of_mem_zip hy).1 with q | q
    · exact .inl q
    · exact .inr ⟨q, PySem.W.cellsFrom_some _ _ _ (.inl q)⟩
  refine codeAny_call_function hr.depth (KX _ _ lk) rfl S.co S.gen rfl (PySem.W.codeRec_of KX hcd) (hb _ _ _ _ ?_)
  refine wpAny_newFunctionEnv_cells S.kind hkind fun env he s1 x => ?_
  subst he
  refine ⟨lim.keeps x.toInCall.keep, codeAny_func ?_⟩
  obtain ⟨t, ht, hq⟩ := hbody A outer s H vs Q E (hr.deeper _) hsp
  have I : Inv (cxOf CX P w K mg base N qual scope f cdv A outer s H E) [] (start N vs) H s1 := inv_start S hr.hd e0 hl r x
  refine wpAny_mono (ht [] s1 (start N vs) H _ I hq) (fun fl s' hs => ?_) fun e s' hs => hs
  have fin : ∀ {σ' : St} {H' : Hp} {v : V} {u : Value}, Inv (cxOf CX P w K mg base N qual scope f cdv A outer s H E) [] σ' H' s' → RelV v u → Q v H' → CE outer P w H s Q u s' :=
    fun {σ' H' v u} J rv q => ⟨v, H', J.os, J.bare, J.base, J.hok, rv, q⟩
  cases fl with
  | ret u =>
    obtain ⟨v, σ', H', J, rv, q⟩ := hs
    exact fin J rv q
  | next =>
    obtain ⟨σ', H', J, q⟩ := hs
    exact fin (v := V.non) (u := Value.none) J rfl q
  | brk =>
    obtain ⟨_, _, _, q⟩ := hs
    exact False.elim q
  | cont =>
    obtain ⟨_, _, _, q⟩ := hs
    exact False.elim q
end L2

namespace L2
open PySem PySem.Spec PyProof.Rows
section
variable {X : Cx} {x : Str} {p pos : Pos} {e : Expr} {es : List Expr} {t : TA} {id T : String} {r : List V → Hp → VK → Prop}

def tCB (r : List V → Hp → VK → Prop) (t : TA) : TE := fun σ H Q => t σ H fun vs H1 => r vs H1 Q
/-- f(e, ..), f a built-in function -/
theorem pe_callB (hc : CallR X (.builtin id) r) (hg : Gl X x) (hm : X.mg x = none) (hv : bootBuiltins x = some (.builtin id)) (ha : PA X (e :: es) t) (hn : x ≠ "__name__" := by decide) (hdb : (x == ("__debug__" : Str)) = false := by decide)
    (he : starEach (e :: es) X.env = (false, eval e X.env) :: starEach es X.env := by rfl) (hpl : (backTo pos (starEach es X.env)).any (·.1) = false := by rfl) : PE X (.Call (.Name x p) (e :: es) [] pos) (tCB r t) := by
  intro pins s σ H Q I h
  refine wpAny_Call_Name_kw (ld_blt I hg hm hv ?_ hn hdb)
  exact PyProof.Rows.callWith_builtin1 (thn (ha pos pins s σ H _ I h) fun us s1 ⟨vs, H1, I1, r1, q1⟩ => hc pins s1 σ H1 vs us Q I1 r1 q1) he hpl
/-- T(e, ..), T a built-in type -/
theorem pe_callTy (hc : CallR X (.type T) r) (hg : Gl X x) (hm : X.mg x = none) (hv : bootBuiltins x = some (.type T)) (ha : PA X (e :: es) t) (hn : x ≠ "__name__" := by decide) (hdb : (x == ("__debug__" : Str)) = false := by decide)
    (he : starEach (e :: es) X.env = (false, eval e X.env) :: starEach es X.env := by rfl) (hpl : (backTo pos (starEach es X.env)).any (·.1) = false := by rfl) : PE X (.Call (.Name x p) (e :: es) [] pos) (tCB r t) := by
  intro pins s σ H Q I h
  refine wpAny_Call_Name_kw (ld_blt I hg hm hv ?_ hn hdb)
  exact PyProof.Rows.callWith_type1 (thn (ha pos pins s σ H _ I h) fun us s1 ⟨vs, H1, I1, r1, q1⟩ => hc pins s1 σ H1 vs us Q I1 r1 q1) he hpl
end
end L2

namespace HT
open PySem PyProof.Rows

/-- t < u of tuples of ints -/
def lexLt : List Int → List Int → Bool
  | [], [] => false
  | [], _ :: _ => true
  | _ :: _, [] => false
  | x :: xs, y :: ys => if x = y then lexLt xs ys else decide (x < y)
section
open PySem.SeqAt
open PySem.AutoSeq1 (wpAny_loadPart')
open PySem.MeetsSeq PySem.MeetsSeq2 PySem.MeetsSeq3

end

section
variable {prog : Program} {w : World} {A : Around} {E : Value → Shared → Prop} {s : Shared}

/-! ### t[a:b], not the whole -/
/-- a slice's bound as a place among n (d where it is left out) -/
def sIx (n d : Nat) : Option Int → Nat
  | none => d
  | some v => if v < 0 then (v + (n : Int)).toNat else min v.toNat n
theorem sIx_le (n d : Nat) (hd : d ≤ n) (o : Option Int) : sIx n d o ≤ n := by
  cases o with
  | none => exact hd
  | some v =>
    show (if v < 0 then (v + (n : Int)).toNat else min v.toNat n) ≤ n
    by_cases hv : v < 0
    · rw [if_pos hv]; omega
    · rw [if_neg hv]; exact Nat.min_le_right _ _
end
end HT

namespace L2
open PySem PySem.Spec PyProof.Rows

/-! ### the parts of a slice -/
abbrev TO := St → Hp → (Option Int → Hp → Prop) → Prop
/-- a slice's part (left out, or an int) -/
def PO (X : Cx) (e : Option Expr) (t : TO) : Prop :=
  ∀ (pins : List (Addr × Obj)) (s : Shared) (σ : St) (H : Hp) (Q : Option Int → Hp → Prop), Inv X pins σ H s → t σ H Q →
    wpAny (model X.prog X.w) X.A (evalPart e X.env) (fun u s' => ∃ o H', Inv X pins σ H' s' ∧ IsPart u o ∧ Q o H') X.xe s
def tNoPart : TO := fun _ H Q => Q none H
def tPart (t : TE) : TO := fun σ H Q => t σ H fun x H1 => ∃ i, x = .int i ∧ Q (some i) H1

section
variable {X : Cx} {e : Expr} {te : TE} {lo hi : Option Expr} {tl th : TO} {pos p2 : Pos}

theorem po_none : PO X none tNoPart := by
  intro pins s σ H Q I h
  rw [evalPart_none]
  exact wpAny_pure ⟨none, H, I, .none, h⟩
theorem po_some (h : PE X e te) : PO X (some e) (tPart te) := by
  intro pins s σ H Q I hw
  rw [evalPart_some]
  refine thn (h pins s σ H _ I hw) fun u s1 ⟨x, H1, I1, r1, q1⟩ => ?_
  obtain ⟨i, rfl, q⟩ := q1
  obtain ⟨t, rfl⟩ := r1
  exact ⟨some i, H1, I1, .int i t, q⟩

/-- what a slice of a value is, by values: the slice object stands at sl -/
def SlR (X : Cx) (r : V → Option Int → Option Int → Hp → VK → Prop) : Prop :=
  ∀ (pins : List (Addr × Obj)) (s : Shared) (σ : St) (H : Hp) (x : V) (v vl vu : Value) (lo hi : Option Int) (sl : Addr) (Q : VK), Inv X pins σ H s → RelV x v → s.heap.IsSliceOf sl vl vu .none → IsPart vl lo → IsPart vu hi → r x lo hi H Q →
    ∃ T id, typeLookup (.type T) "__getitem__" = pure (some (.builtin id)) ∧ s.TypeIs v T ∧ wpAny (model X.prog X.w) X.A (getItem v (.ref sl)) (EP X pins σ Q) X.xe s
theorem SlR.or {r r' : V → Option Int → Option Int → Hp → VK → Prop} (h : SlR X r) (h' : SlR X r') : SlR X (fun x lo hi H Q => r x lo hi H Q ∨ r' x lo hi H Q) := by
  intro pins s σ H x v vl vu lo hi sl Q I rx hs pl pu q
  rcases q with q | q
  · exact h pins s σ H x v vl vu lo hi sl Q I rx hs pl pu q
  · exact h' pins s σ H x v vl vu lo hi sl Q I rx hs pl pu q
def tSl (r : V → Option Int → Option Int → Hp → VK → Prop) (te : TE) (tl th : TO) : TE := fun σ H Q => te σ H fun x H1 => tl σ H1 fun l H2 => th σ H2 fun u H3 => r x l u H3 Q
/-- a[lo:hi], any a -/
theorem pe_slice {r : V → Option Int → Option Int → Hp → VK → Prop} (hr : SlR X r) (he : PE X e te) (hl : PO X lo tl) (hu : PO X hi th) : PE X (.Subscript e (.Slice lo hi none p2) pos) (tSl r te tl th) := by
  intro pins s σ H Q I h
  refine Subscript_ (thn (he pins s σ H _ I h) fun v s1 ⟨x, H1, I1, r1, q1⟩ => ?_)
  refine wpAny_Slice (thn (hl pins s1 σ H1 _ I1 q1) fun vl s2 ⟨l, H2, I2, pl, q2⟩ => thn (hu pins s2 σ H2 _ I2 q2) fun vu s3 ⟨u, H3, I3, pu, q3⟩ => ?_)
  rw [evalPart_none]
  refine wpAny_pure ?_
  have I4 : Inv X pins σ H3 { s3 with heap := s3.heap.push { cls := .type "slice", data := .fields #[vl, vu, .none] } } := I3.kept (t' := s3.toks) fun b ob q => Heap.get?_push_of_some _ q
  obtain ⟨T, id, hT, ht, hg⟩ := hr pins { s3 with heap := s3.heap.push { cls := .type "slice", data := .fields #[vl, vu, .none] } } σ H3 x v vl vu l u s3.heap.objs.size Q I4 r1 (Heap.IsSliceOf.new ..) pl pu q3
  show wpAny (model X.prog X.w) X.A (subscriptTail e (.Slice lo hi none p2) v (.ref s3.heap.objs.size)) (EP X pins σ Q) X.xe { s3 with heap := s3.heap.push { cls := .type "slice", data := .fields #[vl, vu, .none] } }
  exact tail_any (ops := [.ref s3.heap.objs.size, v]) ht hT hg (by with_unfolding_all rfl)

/-- the items of xs[lo:hi] -/
def cutV (xs : List V) (lo hi : Option Int) : List V := (xs.drop (HT.sIx xs.length 0 lo)).take (HT.sIx xs.length xs.length hi - HT.sIx xs.length 0 lo)
theorem cutV_length (xs : List V) (lo hi : Option Int) : (cutV xs lo hi).length ≤ xs.length := by
  unfold cutV
  rw [List.length_take, List.length_drop]
  omega
/-- t[lo:hi], not the whole of it (the whole would be t itself) -/
def rSlT (K : PySem.W.Frag) : V → Option Int → Option Int → Hp → VK → Prop := fun x lo hi H Q => ∃ a xs, x = .ref a ∧ SqT K H a xs ∧
  ¬ (HT.sIx xs.length 0 lo = 0 ∧ HT.sIx xs.length xs.length hi = xs.length) ∧ ∀ p, H p = none → Q (.ref p) (upd H p (.tup (cutV xs lo hi)))
/-! ### t < u, t + u -/
def rLtT (K : PySem.W.Frag) : R2 := fun x y H Q => ∃ a b ns ms, x = .ref a ∧ y = .ref b ∧ SqT K H a (ns.map V.int) ∧ SqT K H b (ms.map V.int) ∧ Q (.bl (HT.lexLt ns ms)) H
/-- t + u, t not empty: u empty gives t itself -/
def rCatT (K : PySem.W.Frag) : R2 := fun x y H Q => ∃ a b xs ys, x = .ref a ∧ y = .ref b ∧ SqT K H a xs ∧ SqT K H b ys ∧ xs ≠ [] ∧ xs.length + ys.length ≤ sizeLine ∧
  (ys = [] → Q (.ref a) H) ∧ (ys ≠ [] → ∀ p, H p = none → Q (.ref p) (upd H p (.tup (xs ++ ys))))
end
end L2

namespace L2
open PySem PySem.Spec PyProof.Rows

/-! ### places -/
/-- the place that an index of any sign means -/
def ixN (n : Nat) (i : Int) : Option Nat := if 0 ≤ i then (if i < n then some i.toNat else none) else if -(n : Int) ≤ i then some (i + n).toNat else none
def atI {α : Type} (xs : List α) (i : Int) : Option α := (ixN xs.length i).bind fun j => xs[j]?
theorem ixN_seq {n : Nat} {i : Int} {j : Nat} (h : ixN n i = some j) : seqIndex? i n = some j ∧ j < n ∧ -(n : Int) ≤ i ∧ i < n := by
  unfold ixN at h
  by_cases h0 : 0 ≤ i
  · rw [if_pos h0] at h
    by_cases h1 : i < n
    · rw [if_pos h1] at h
      have e : i.toNat = j := Option.some.inj h
      exact ⟨by rw [seqIndex_of h0 h1, e], by omega, by omega, h1⟩
    · rw [if_neg h1] at h; cases h
  · rw [if_neg h0] at h
    by_cases h1 : -(n : Int) ≤ i
    · rw [if_pos h1] at h
      have e : (i + n).toNat = j := Option.some.inj h
      exact ⟨by rw [seqIndex_neg (by omega) h1, e], by omega, h1, by omega⟩
    · rw [if_neg h1] at h; cases h
theorem atI_get {α : Type} {xs : List α} {i : Int} {v : α} (h : atI xs i = some v) : ∃ j, seqIndex? i xs.length = some j ∧ xs[j]? = some v ∧ j < xs.length ∧ -(xs.length : Int) ≤ i ∧ i < xs.length := by
  unfold atI at h
  cases e : ixN xs.length i with
  | none => rw [e] at h; cases h
  | some j =>
    rw [e] at h
    obtain ⟨h1, h2, h3, h4⟩ := ixN_seq e
    exact ⟨j, h1, h, h2, h3, h4⟩
theorem atI_nat {α : Type} {xs : List α} {j : Nat} {v : α} (h : xs[j]? = some v) : atI xs (j : Int) = some v := by
  have hj : j < xs.length := (List.getElem?_eq_some_iff.mp h).1
  have e : ixN xs.length (j : Int) = some j := by
    unfold ixN
    rw [if_pos (by omega), if_pos (by omega)]; simp
  unfold atI; rw [e]; exact h
/-! ### what may be subscripted -/
/-- what stands as an index of a plain subscript -/
def PlainIx (b : Expr) : Prop := ∀ o i, subscripted b false o i = operate [o, i] (getItem o i)
/-- a subscript by values -/
def IxR (X : Cx) (r : R2) : Prop :=
  ∀ (value slice : Expr) (pins : List (Addr × Obj)) (s : Shared) (σ : St) (H : Hp) (x y : V) (v u : Value) (Q : VK), Inv X pins σ H s → RelV x v → RelV y u → r x y H Q →
    subscripted slice false v u = operate [v, u] (getItem v u) → wpAny (model X.prog X.w) X.A (subscriptTail value slice v u) (EP X pins σ Q) X.xe s
/-- a call of a builtin's method by values: the receiver, the arguments -/
def MtR (X : Cx) (id : String) (r : V → List V → Hp → VK → Prop) : Prop :=
  ∀ (pins : List (Addr × Obj)) (s : Shared) (σ : St) (H : Hp) (x : V) (xs : List V) (v : Value) (us : List Value) (Q : VK), Inv X pins σ H s → RelV x v → Vals xs us → r x xs H Q →
    wpAny (model X.prog X.w) X.A (call (.builtin id) (v :: us)) (EP X pins σ Q) X.xe s
section
variable {X : Cx} {a b : Expr} {ta tb : TE} {pos : Pos}
theorem IxR.or {r r' : R2} (h : IxR X r) (h' : IxR X r') : IxR X (fun x y H Q => r x y H Q ∨ r' x y H Q) := by
  intro value slice pins s σ H x y v u Q I rx ry q hs
  rcases q with q | q
  · exact h value slice pins s σ H x y v u Q I rx ry q hs
  · exact h' value slice pins s σ H x y v u Q I rx ry q hs
theorem MtR.or {id : String} {r r' : V → List V → Hp → VK → Prop} (h : MtR X id r) (h' : MtR X id r') : MtR X id (fun x xs H Q => r x xs H Q ∨ r' x xs H Q) := by
  intro pins s σ H x xs v us Q I rx rs q
  rcases q with q | q
  · exact h pins s σ H x xs v us Q I rx rs q
  · exact h' pins s σ H x xs v us Q I rx rs q
/-- a[b] -/
theorem pe_ix {r : R2} (hr : IxR X r) (ha : PE X a ta) (hb : PE X b tb) (hs : PlainIx b) : PE X (.Subscript a b pos) (tOp r ta tb) := by
  intro pins s σ H Q I h
  exact Subscript_ (binT ha hb I h fun v u s2 x y H2 I2 rx ry q => hr a b pins s2 σ H2 x y v u Q I2 rx ry q (hs _ _))

def rIxL (K : PySem.W.Frag) : R2 := fun x y H Q => ∃ p xs i v, x = .ref p ∧ y = .int i ∧ SqL K H p xs ∧ atI xs i = some v ∧ Q v H
def rIxT (K : PySem.W.Frag) : R2 := fun x y H Q => ∃ p xs i v, x = .ref p ∧ y = .int i ∧ SqT K H p xs ∧ atI xs i = some v ∧ Q v H
def rIxS : R2 := fun x y H Q => ∃ z i c, x = .str z ∧ y = .int i ∧ z.length ≤ sizeLine ∧ atI z.cps.toList i = some c ∧ Q (.str ⟨#[c]⟩) H
theorem ix_list : IxR X (rIxL X.K) := by
  intro value slice pins s σ H x y v u Q I rx ry h hs
  obtain ⟨p, xs, i, z, rfl, rfl, hq, he, q⟩ := h
  cases rx
  obtain ⟨t, rfl⟩ := ry
  obtain ⟨its, r, pl, hz⟩ := I.list hq
  obtain ⟨j, h1, h2, h3, h4, h5⟩ := atI_get he
  obtain ⟨w, ew, rw'⟩ := r.get h2
  have hl := r.length
  have hn := line63
  have fin : EP X pins σ Q w s := ⟨z, H, I, rw', q⟩
  by_cases h0 : 0 ≤ i
  · have hj : i.toNat = j := by
      rw [seqIndex_of h0 h5] at h1
      exact Option.some.inj h1
    exact item_listR pl.isList h0 (by omega) (by rw [hj]; simpa using ew) fin hs
  · have hj : (i + (its.toArray.size : Int)).toNat = j := by
      rw [seqIndex_neg (by omega) h4] at h1
      rw [List.size_toArray, ← hl]
      exact Option.some.inj h1
    exact subscriptTail_builtinR (x := w) pl.isList.typeIs slot_list_getitem.lookup
      (wpAny_getItem_list_neg (Q := fun r s' => r = w ∧ EP X pins σ Q r s') pl.isList (by omega) (by rw [List.size_toArray] <;> omega) (by omega) (by rw [hj]; simpa using ew) ⟨rfl, fin⟩) hs
theorem ix_tup : IxR X (rIxT X.K) := by
  intro value slice pins s σ H x y v u Q I rx ry h hs
  obtain ⟨p, xs, i, z, rfl, rfl, hq, he, q⟩ := h
  cases rx
  obtain ⟨t, rfl⟩ := ry
  obtain ⟨its, r, pl, hz⟩ := I.tuple hq
  obtain ⟨j, h1, h2, h3, h4, h5⟩ := atI_get he
  obtain ⟨w, ew, rw'⟩ := r.get h2
  have hl := r.length
  have hn := line63
  have fin : EP X pins σ Q w s := ⟨z, H, I, rw', q⟩
  exact subscriptTail_builtinR (x := w) pl.typeIs slot_tuple_getitem.lookup
    (getItem_tuple (j := j) (Q := fun r s' => r = w ∧ EP X pins σ Q r s') pl (by omega) (by omega) (by rw [List.size_toArray, ← hl]; exact h1) (by simpa using ew) ⟨rfl, fin⟩) hs
theorem ix_str : IxR X rIxS := by
  intro value slice pins s σ H x y v u Q I rx ry h hs
  obtain ⟨z, i, c, rfl, rfl, hz, he, q⟩ := h
  obtain ⟨t, rfl⟩ := rx
  obtain ⟨t', rfl⟩ := ry
  obtain ⟨j, h1, h2, h3, h4, h5⟩ := atI_get he
  have hl : z.cps.toList.length = z.length := by simp [Str.length]
  rw [hl] at h1 h4 h5
  have hn := line63
  exact tail_any (typeIs_str s z t) slot_str_getitem.lookup (getItem_str (c := c) (by
    have e1 : decide (i < -(2 ^ 63 : Int)) = false := decide_eq_false (by omega)
    have e2 : decide (i ≥ 2 ^ 63) = false := decide_eq_false (by omega)
    rw [e1, e2, Bool.or_false]) (by rw [h1]; simpa using h2) ⟨.str ⟨#[c]⟩, H, I.tok _, ⟨_, rfl⟩, q⟩) hs
/-- list, tuple or str -/
def rIx (K : PySem.W.Frag) : R2 := fun x y H Q => rIxL K x y H Q ∨ rIxT K x y H Q ∨ rIxS x y H Q
theorem ix_seq : IxR X (rIx X.K) := ix_list.or (ix_tup.or ix_str)

/-! ### xs[i] = v, any sign -/
/-- the list's object behind a store -/
theorem mapSeq_set (its : List Value) (n j : Nat) (u : Value) : Obj.mapSeq (·.setIfInBounds j u) { cls := .type "list", data := .seq its.toArray n } = { cls := .type "list", data := .seq (its.set j u).toArray n } := by
  simp [Obj.mapSeq]
theorem Inv.lst {pins : List (Addr × Obj)} {σ : St} {H : Hp} {s : Shared} {p : Addr} {xs : List V} (I : Inv X pins σ H s) (h : H p = some (.lst xs)) :
    ∃ (its : List Value) (n : Nat), Vals xs its ∧ s.heap.get? p = some { cls := .type "list", data := .seq its.toArray n } ∧ xs.length ≤ sizeLine := by
  obtain ⟨z, its, n, r, e⟩ := I.hok p _ h
  exact ⟨its, n, r, e, z⟩
/-- the list at p is written by an update of its object -/
theorem Inv.lstUpd {pins : List (Addr × Obj)} {σ : St} {H : Hp} {s : Shared} {p : Addr} {xs ys : List V} {its its' : List Value} {n n' : Nat} {f : Obj → Obj} (I : Inv X pins σ H s) (h : H p = some (.lst xs))
    (ho : s.heap.get? p = some { cls := .type "list", data := .seq its.toArray n }) (hf : f { cls := .type "list", data := .seq its.toArray n } = { cls := .type "list", data := .seq its'.toArray n' }) (r : Vals ys its') (hz : ys.length ≤ sizeLine) (t : Nat) :
    Inv X pins σ (upd H p (.lst ys)) { s with heap := s.heap.update p f, toks := t } := by
  have e : (s.heap.update p f).get? p = some { cls := .type "list", data := .seq its'.toArray n' } := by
    rw [Heap.get?_update_self f ho (by rw [hf] <;> rfl), hf]
  refine I.write (x := p) (e := p) (by rw [h]; trivial) (.inl rfl) (fun b u hb q => (Heap.get?_update_other _ _ (Ne.symm hb)).trans q) ⟨_, e⟩ ?_
  exact ⟨hz, its', n', r, e⟩
def rSetL : V → V → V → Hp → (Hp → Prop) → Prop := fun o i v H Q => ∃ p xs k j, o = .ref p ∧ i = .int k ∧ H p = some (.lst xs) ∧ ixN xs.length k = some j ∧ Q (upd H p (.lst (xs.set j v)))
theorem set_list : PSet X rSetL := by
  intro pins s σ H o i v ov iv u Q I ro ri rv h
  obtain ⟨p, xs, k, j, rfl, rfl, hp, hj, q⟩ := h
  cases ro
  obtain ⟨t, rfl⟩ := ri
  obtain ⟨its, n, r, ho, hz⟩ := I.lst hp
  obtain ⟨h1, h2, h3, h4⟩ := ixN_seq hj
  have hl := r.length
  have hn := line63
  have I' : Inv X pins σ (upd H p (.lst (xs.set j v))) { s with heap := s.heap.update p (Obj.mapSeq (·.setIfInBounds j u)) } :=
    I.lstUpd hp ho (mapSeq_set its n j u) (r.set rv j) (by rw [List.length_set]; exact hz) s.toks
  by_cases h0 : 0 ≤ k
  · have hk : k.toNat = j := by
      rw [seqIndex_of h0 h4] at h1
      exact Option.some.inj h1
    exact PySem.W.ki_setAt ho h0 (by omega) (by rw [List.size_toArray, ← hl]; exact h4) (by rw [hk]; exact ⟨_, I', q⟩)
  · have hk : (k + (its.toArray.size : Int)).toNat = j := by
      rw [seqIndex_neg (by omega) h3] at h1
      rw [List.size_toArray, ← hl]
      exact Option.some.inj h1
    exact PySem.W.ki_setBack ho (by omega) (by rw [List.size_toArray, ← hl]; exact h3) (by omega) (by rw [hk]; exact ⟨_, I', q⟩)

/-! ### slices -/
theorem slice_bounds (lo hi : Option Int) (n : Nat) : (sliceBounds lo hi none n).1 = ((HT.sIx n 0 lo : Nat) : Int) ∧ (sliceBounds lo hi none n).2.1 = ((HT.sIx n n hi : Nat) : Int) ∧ (sliceBounds lo hi none n).2.2 = 1 := by
  refine ⟨?_, ?_, rfl⟩
  · cases lo with
    | none => simp [sliceBounds, HT.sIx]
    | some i =>
      simp only [sliceBounds, HT.sIx, Option.getD_none, show (1 : Int) > 0 by decide, if_true]
      by_cases h : i < 0
      · simp only [h, if_true] <;> omega
      · simp only [h, if_false] <;> omega
  · cases hi with
    | none => simp [sliceBounds, HT.sIx]
    | some i =>
      simp only [sliceBounds, HT.sIx, Option.getD_none, show (1 : Int) > 0 by decide, if_true]
      by_cases h : i < 0
      · simp only [h, if_true] <;> omega
      · simp only [h, if_false] <;> omega
theorem slicePick_cut (its : List Value) (lo hi : Option Int) : slicePick its.toArray lo hi none = ((its.drop (HT.sIx its.length 0 lo)).take (HT.sIx its.length its.length hi - HT.sIx its.length 0 lo)).toArray := by
  obtain ⟨h1, h2, h3⟩ := slice_bounds lo hi its.toArray.size
  unfold slicePick
  rw [h1, h2, h3]
  simp only [sliceRange_one, pick_run, List.size_toArray] <;> rfl
/-- xs[lo:hi] of a list: a new list -/
def rSlL (K : PySem.W.Frag) : V → Option Int → Option Int → Hp → VK → Prop := fun x lo hi H Q => ∃ a xs, x = .ref a ∧ SqL K H a xs ∧ ∀ p, H p = none → Q (.ref p) (upd H p (.lst (cutV xs lo hi)))
theorem sl_list : SlR X (rSlL X.K) := by
  intro pins s σ H x v vl vu lo hi sl Q I rx hs pl pu h
  obtain ⟨a, xs, rfl, hx, q⟩ := h
  cases rx
  obtain ⟨its, r, ht, hz⟩ := I.list hx
  have hlen := r.length
  refine ⟨"list", _, slot_list_getitem.lookup, ht.isList.typeIs, ?_⟩
  refine wpAny_getItem_list_slice ht.isList hs pl pu .none (by simp) ?_ (by rw [List.size_toArray] <;> omega)
  rw [slicePick_cut, ← hlen]
  refine ⟨.ref s.heap.objs.size, _, I.laid (t' := s.toks) (o := .lst (cutV xs lo hi)) (fun b ob q => Heap.get?_push_of_some _ q) (Nat.le_refl _) ?_, rfl, q _ (I.hok.fresh (Nat.le_refl _))⟩
  exact ⟨Nat.le_trans (cutV_length xs lo hi) hz, _, 0, (r.drop (HT.sIx xs.length 0 lo)).take (HT.sIx xs.length xs.length hi - HT.sIx xs.length 0 lo), Heap.get?_push_size _ rfl⟩

/-! ### in, not in: flat items -/
def flatV : V → Bool
  | .non => true
  | .bl _ => true
  | .int _ => true
  | .str _ => true
  | _ => false
/-- == of flat values -/
def eqV : V → V → Bool
  | .non, .non => true
  | .bl a, .bl b => a == b
  | .bl a, .int b => (if a then 1 else 0) == b
  | .int a, .bl b => a == (if b then 1 else 0)
  | .int a, .int b => a == b
  | .str a, .str b => a == b
  | _, _ => false
/-- the items' answers, read off the values (a value's own answer does not lean on its token) -/
def eqU (x : V) (u : Value) : Bool := match u with
  | .none => eqV .non x
  | .bool b => eqV (.bl b) x
  | .int i _ => eqV (.int i) x
  | .str z _ => eqV (.str z) x
  | _ => false
def inV (x : V) (xs : List V) : Bool := xs.any fun y => eqV y x
/-- x in a list or tuple of flat items -/
def rIn (K : PySem.W.Frag) (neg : Bool) : R2 := fun x y H Q => ∃ p xs, y = .ref p ∧ (SqL K H p xs ∨ SqT K H p xs) ∧ flatV x = true ∧ xs.all flatV = true ∧ Q (.bl (if neg then !inV x xs else inV x xs)) H
/-! ### len, list(x), tuple(x) of any list or tuple that is read -/
theorem call_len_seq : CallR X (.builtin "len") (fun xs H Q => ∃ p ys, xs = [.ref p] ∧ (SqL X.K H p ys ∨ SqT X.K H p ys) ∧ Q (.int ys.length) H) := by
  intro pins s σ H xs us Q I r h
  obtain ⟨p, ys, rfl, hq, q⟩ := h
  obtain ⟨u, rfl, rx⟩ := vals1 r
  cases rx
  have hn := line63
  rcases hq with hq | hq
  · obtain ⟨its, r', pl, hz⟩ := I.list hq
    have hlen := r'.length
    exact Calls.call_len_list pl.isList (by simp only [List.size_toArray] <;> omega) ⟨.int ys.length, H, I.tok _, ⟨s.toks + 1, by rw [List.size_toArray, hlen]⟩, q⟩
  · obtain ⟨its, r', pl, hz⟩ := I.tuple hq
    have hlen := r'.length
    exact len_tuple pl (by simp only [List.size_toArray] <;> omega) ⟨.int ys.length, H, I.tok _, ⟨s.toks + 1, by rw [List.size_toArray, hlen]⟩, q⟩
theorem CallR.or {f : Value} {r r' : List V → Hp → VK → Prop} (h : CallR X f r) (h' : CallR X f r') : CallR X f (fun xs H Q => r xs H Q ∨ r' xs H Q) := by
  intro pins s σ H xs us Q I rs q
  rcases q with q | q
  · exact h pins s σ H xs us Q I rs q
  · exact h' pins s σ H xs us Q I rs q
theorem call_list_of : CallR X (.type "list") (fun xs H Q => ∃ p ys, xs = [.ref p] ∧ (SqL X.K H p ys ∨ SqT X.K H p ys) ∧ ∀ l, H l = none → Q (.ref l) (upd H l (.lst ys))) := by
  intro pins s σ H xs us Q I r h
  obtain ⟨p, ys, rfl, hq, q⟩ := h
  obtain ⟨u, rfl, rx⟩ := vals1 r
  cases rx
  have fin : ∀ (its : List Value), Vals ys its → ys.length ≤ sizeLine → ∀ (h' : Heap) (c' : Nat), (∀ b o', s.heap.get? b = some o' → h'.get? b = some o') →
      h'.get? s.heap.objs.size = some { cls := .type "list", dict := none, data := .seq its.toArray c', slots := #[] } → EP X pins σ Q (.ref s.heap.objs.size) { s with heap := h' } := fun its r' hz h' c' kp e =>
    ⟨.ref s.heap.objs.size, _, I.laid (t' := s.toks) kp (Nat.le_refl _) (show ObjOk X.prog X.w _ h' _ (.lst ys) from ⟨hz, its, c', r', e⟩), rfl, q _ (I.hok.fresh (Nat.le_refl _))⟩
  rcases hq with hq | hq
  · obtain ⟨its, r', pl, hz⟩ := I.list hq
    have hlen := r'.length
    obtain ⟨o, ho, hc, n, hd⟩ := pl.isList
    exact call_list_seq p (.inl rfl) ho hc hd (fun h' c' kp e => fin its r' hz h' c' kp e) (by simp only [List.size_toArray] <;> omega)
  · obtain ⟨its, r', pl, hz⟩ := I.tuple hq
    have hlen := r'.length
    obtain ⟨o, ho, hc, n, hd⟩ := pl
    exact call_list_seq p (.inr rfl) ho hc hd (fun h' c' kp e => fin its r' hz h' c' kp e) (by simp only [List.size_toArray] <;> omega)
/-! ### the call of a builtin's method: o.m(..) -/
/-- the value is of that builtin type -/
def tyV (K : PySem.W.Frag) (T : String) (x : V) (H : Hp) : Prop := match x with
  | .str _ => T = "str"
  | .int _ => T = "int"
  | .ref p => (T = "list" ∧ ∃ xs, SqL K H p xs) ∨ (T = "tuple" ∧ ∃ o, K.lookup p = some o ∧ o.cls = .type "tuple" ∧ o.dict = none) ∨
      (T = "dict" ∧ ((∃ kvs, H p = some (.dK kvs)) ∨ ∃ kvs, H p = some (.dT kvs))) ∨ (T = "set" ∧ ∃ S n, H p = some (.set S n))
  | _ => False
theorem tyV_is {pins : List (Addr × Obj)} {σ : St} {H : Hp} {s : Shared} {T : String} {x : V} {v : Value} (I : Inv X pins σ H s) (r : RelV x v) (ty : tyV X.K T x H) :
    s.TypeIs v T ∧ ∀ a, v = .ref a → ∃ ob, s.heap.get? a = some ob ∧ ob.dict = none := by
  cases x with
  | str z =>
    obtain ⟨t, rfl⟩ := r
    cases (show T = "str" from ty)
    exact ⟨typeIs_str s z t, fun _ e => nomatch e⟩
  | int i =>
    obtain ⟨t, rfl⟩ := r
    cases (show T = "int" from ty)
    exact ⟨typeIs_int s i t, fun _ e => nomatch e⟩
  | ref p =>
    cases r
    rcases ty with ⟨rfl, xs, hq⟩ | ⟨rfl, o, hk, hc, hd⟩ | ⟨rfl, hk⟩ | ⟨rfl, S, n, hk⟩
    · obtain ⟨its, _, pl, _⟩ := I.list hq
      refine ⟨pl.isList.typeIs, fun a e => ?_⟩
      cases e
      obtain ⟨o, n, e, c, hd, _⟩ := pl
      exact ⟨o, e, hd⟩
    · refine ⟨⟨o, I.kIn p o hk, hc⟩, fun a e => ?_⟩
      cases e
      exact ⟨o, I.kIn _ o hk, hd⟩
    · have z : ∃ o, s.heap.get? p = some o ∧ o.ExactDict := by
        rcases hk with ⟨kvs, hk⟩ | ⟨kvs, hk⟩
        · obtain ⟨_, _, _, _, o, _, _, e, ex, _⟩ := I.hok p _ hk
          exact ⟨o, e, ex⟩
        · obtain ⟨_, _, _, _, o, _, _, e, ex, _⟩ := I.hok p _ hk
          exact ⟨o, e, ex⟩
      obtain ⟨o, e, ex⟩ := z
      refine ⟨⟨o, e, ex.1⟩, fun a e2 => ?_⟩
      cases e2
      exact ⟨o, e, ex.2.1⟩
    · obtain ⟨o, _, _, _, e, ex, _⟩ := I.hok p _ hk
      refine ⟨⟨o, e, ex.1⟩, fun a e2 => ?_⟩
      cases e2
      exact ⟨o, e, ex.2.1⟩
  | _ => exact False.elim ty
def tBM0 (K : PySem.W.Frag) (T : String) (r : V → List V → Hp → VK → Prop) (to : TE) : TE := fun σ H Q => to σ H fun x H1 => tyV K T x H1 ∧ r x [] H1 Q
def tBM (K : PySem.W.Frag) (T : String) (r : V → List V → Hp → VK → Prop) (to : TE) (t : TA) : TE := fun σ H Q => to σ H fun x H1 => tyV K T x H1 ∧ t σ H1 fun xs H2 => r x xs H2 Q
variable {o e : Expr} {es : List Expr} {to : TE} {t : TA} {name : Str} {apos cpos : Pos} {T id : String} {r : V → List V → Hp → VK → Prop}
theorem pe_bm (pa : PlainAttrs T) (slot : Slot T name id) (hty : typeOf (.builtin id) = pure (.type "method_descriptor")) (hm : MtR X id r) (ho : PE X o to) (ha : PA X (e :: es) t)
    (hbase : attributeBase o name X.env (eval o X.env) = eval o X.env := by rfl)
    (hfew : ((backTo cpos (starEach (e :: es) X.env)).all (fun x => !x.1) && (backToKw cpos (keywordEach [] X.env)).all (fun x => x.1.isSome)
      && decide ((e :: es).length + ([] : List Keyword).length + (if ([] : List Keyword).isEmpty then 0 else 1) < 30)) = true := by rfl)
    (hline : (apos.endLine == cpos.line) = true := by rfl) (hs : starEach (e :: es) X.env = (false, eval e X.env) :: starEach es X.env := by rfl) (hplain : (backTo cpos (starEach es X.env)).any (·.1) = false := by rfl) :
    PE X (.Call (.Attribute o name apos) (e :: es) [] cpos) (tBM X.K T r to t) := by
  intro pins s σ H Q I h
  refine wpAny_Call_method_late hbase hfew hline rfl (thn (ho pins s σ H _ I h) fun v s1 ⟨x, H1, I1, r1, ty, q1⟩ => ?_)
  obtain ⟨h1, h2⟩ := tyV_is I1 r1 ty
  refine ⟨T, id, pa, slot, hty, h1, h2, ?_⟩
  have hA := ha cpos pins s1 σ H1 _ I1 q1
  rw [hs] at hA ⊢
  refine Calls.callWith_builtin (by show (false || (backTo cpos (starEach es X.env)).any (·.1)) = false; rw [hplain] <;> rfl) (Calls.evalArgs_plain ?_)
  exact thn hA fun us s2 ⟨vs, H2, I2, r2, q2⟩ => hm pins s2 σ H2 x vs v us Q I2 r1 r2 q2
/- xs.append(e), list.index on a module's tuple .. are MtR facts of 06m -/
end
end L2

namespace L2
open PySem PySem.Spec PyProof.Rows

def MtM (X : Cx) (id : String) (r : V → List V → Hp → VK → Prop) : Prop :=
  ∀ (pins : List (Addr × Obj)) (s : Shared) (σ : St) (H : Hp) (x : V) (xs : List V) (v : Value) (us : List Value) (Q : VK), Inv X pins σ H s → RelV x v → Vals xs us → r x xs H Q →
    wpAny (model X.prog X.w) X.A (call (.builtin id) (v :: us)) (EP X pins σ Q) X.xe s

/-! ### lists of values -/
theorem Vals.one : ∀ {x : V} {us : List Value}, Vals [x] us → ∃ u, us = [u] ∧ RelV x u
  | _, _, .cons r .nil => ⟨_, rfl, r⟩
theorem Vals.two : ∀ {x y : V} {us : List Value}, Vals [x, y] us → ∃ u v, us = [u, v] ∧ RelV x u ∧ RelV y v
  | _, _, _, .cons r (.cons q .nil) => ⟨_, _, rfl, r, q⟩
theorem Vals.zero : ∀ {us : List Value}, Vals [] us → us = []
  | _, .nil => rfl
theorem Vals.dropLast {xs : List V} {us : List Value} (h : Vals xs us) : Vals xs.dropLast us.dropLast := by
  induction h with
  | nil => exact .nil
  | cons r t ih =>
    cases t with
    | nil => exact .nil
    | cons q t' => exact .cons r ih
theorem Vals.eraseIdx : ∀ {xs : List V} {us : List Value} (i : Nat), Vals xs us → Vals (xs.eraseIdx i) (us.eraseIdx i)
  | _, _, _, .nil => .nil
  | _, _, 0, .cons _ t => t
  | _, _, i + 1, .cons r t => .cons r (Vals.eraseIdx i t)
theorem Vals.reverse {xs : List V} {us : List Value} (h : Vals xs us) : Vals xs.reverse us.reverse := by
  induction h with
  | nil => exact .nil
  | cons r t ih => rw [List.reverse_cons, List.reverse_cons]; exact Vals.append ih (.cons r .nil)
section
variable {X : Cx} {pins : List (Addr × Obj)} {σ : St} {H : Hp} {s : Shared} {l b : Addr} {xs ys zs : List V}

/-! ### the two steps: a tracked list is rewritten, a new list is laid -/
theorem Inv.lset {its its' : List Value} {n : Nat} {f : Array Value → Array Value} {t' : Nat} (I : Inv X pins σ H s) (hH : H l = some (.lst xs))
    (e : s.heap.get? l = some { cls := .type "list", data := .seq its.toArray n }) (hf : f its.toArray = its'.toArray) (hv : Vals ys its') (hz : ys.length ≤ sizeLine) :
    Inv X pins σ (upd H l (.lst ys)) { s with heap := s.heap.update l (Obj.mapSeq f), toks := t' } := by
  have q := PySem.IsL.update e f
  rw [hf] at q
  refine I.write (x := l) (e := l) (by rw [hH]; exact trivial) (.inl rfl) (fun b' u hb hu => (Heap.get?_update_other s.heap (Obj.mapSeq f) (Ne.symm hb)).trans hu) ⟨_, q⟩ ?_
  exact ⟨hz, its', _, hv, q⟩
theorem Inv.lnew {its : List Value} {t' : Nat} (I : Inv X pins σ H s) (hv : Vals ys its) (hz : ys.length ≤ sizeLine) :
    Inv X pins σ (upd H s.heap.objs.size (.lst ys)) { s with heap := s.heap.push { cls := .type "list", data := .seq its.toArray }, toks := t' } :=
  I.laid (fun _ _ q => Heap.get?_push_of_some _ q) (Nat.le_refl _) ⟨hz, its, 0, hv, Heap.get?_push_size _ rfl⟩
theorem Inv.fresh (I : Inv X pins σ H s) : H s.heap.objs.size = none := I.hok.fresh (Nat.le_refl _)
theorem Inv.lstM (I : Inv X pins σ H s) (hH : H l = some (.lst xs)) : xs.length ≤ sizeLine ∧ ∃ (its : List Value) (n : Nat), Vals xs its ∧ xs.length = its.length ∧ s.heap.get? l = some { cls := .type "list", data := .seq its.toArray n } := by
  obtain ⟨z, its, n, r, e⟩ := I.hok l _ hH
  exact ⟨z, its, n, r, r.length, e⟩

theorem notLongL {n : Nat} (h : n ≤ sizeLine) : Builtin.List.listTooLong n = false := by
  unfold Builtin.List.listTooLong
  exact decide_eq_false (by omega)
end

section
variable {X : Cx}

/-! ### methods -/
def rAppend : V → List V → Hp → VK → Prop := fun x vs H Q => ∃ l xs y, x = .ref l ∧ vs = [y] ∧ H l = some (.lst xs) ∧ xs.length < sizeLine ∧ Q .non (upd H l (.lst (xs ++ [y])))
theorem mt_append : MtM X "list.append" rAppend := by
  intro pins s σ H x vs v us Q I rx rv h
  obtain ⟨l, xs, y, rfl, rfl, hH, hz, q⟩ := h
  cases rx
  obtain ⟨u, rfl, ru⟩ := rv.one
  obtain ⟨z, its, n, r, hl, e⟩ := I.lstM hH
  refine call_meets F.slot_list_append ⟨_, e, rfl⟩ F.entry_list_append (F.args_list_append_2 _ _) (PySem.list_append l its.toArray n u (by rw [List.size_toArray]; omega)) ⟨e, ?_⟩
  refine ⟨.non, _, I.lset (its' := its ++ [u]) hH e (by simp) (r.append (.cons ru .nil)) ?_, rfl, q⟩
  rw [List.length_append, List.length_singleton]
  omega

def rExtend : V → List V → Hp → VK → Prop := fun x vs H Q => ∃ l b xs zs, x = .ref l ∧ vs = [.ref b] ∧ H l = some (.lst xs) ∧ H b = some (.lst zs) ∧ xs.length + zs.length ≤ sizeLine ∧ Q .non (upd H l (.lst (xs ++ zs)))
def rPop : V → List V → Hp → VK → Prop := fun x vs H Q => ∃ l xs y, x = .ref l ∧ vs = [] ∧ H l = some (.lst xs) ∧ xs[xs.length - 1]? = some y ∧ Q y (upd H l (.lst xs.dropLast))
def rPopAt : V → List V → Hp → VK → Prop := fun x vs H Q => ∃ l xs i k y, x = .ref l ∧ vs = [.int i] ∧ H l = some (.lst xs) ∧ -(2 ^ 63) ≤ i ∧ i < 2 ^ 63 ∧ seqIndex? i xs.length = some k ∧ xs[k]? = some y ∧ Q y (upd H l (.lst (xs.eraseIdx k)))
def rReverse : V → List V → Hp → VK → Prop := fun x vs H Q => ∃ l xs, x = .ref l ∧ vs = [] ∧ H l = some (.lst xs) ∧ Q .non (upd H l (.lst xs.reverse))
def rClear : V → List V → Hp → VK → Prop := fun x vs H Q => ∃ l xs, x = .ref l ∧ vs = [] ∧ H l = some (.lst xs) ∧ Q .non (upd H l (.lst []))
/-! ### list + list, list += list, list * int -/
def rCat : R2 := fun x y H Q => ∃ l b xs zs, x = .ref l ∧ y = .ref b ∧ H l = some (.lst xs) ∧ H b = some (.lst zs) ∧ xs.length + zs.length ≤ sizeLine ∧ ∀ p, H p = none → Q (.ref p) (upd H p (.lst (xs ++ zs)))
theorem op_cat : OpR X (binaryOp .Add) rCat := by
  intro pins s σ H x y v u Q I rx ry h
  obtain ⟨l, b, xs, zs, rfl, rfl, hH, hB, hz, q⟩ := h
  cases rx
  cases ry
  obtain ⟨z, its, n, r, hl, e⟩ := I.lstM hH
  obtain ⟨z2, its2, n2, r2, hl2, e2⟩ := I.lstM hB
  refine PySem.P.add_list e e2 ?_ (by rw [List.size_toArray, List.size_toArray]; omega)
  have ea : its.toArray ++ its2.toArray = (its ++ its2).toArray := by simp
  rw [ea]
  exact ⟨.ref _, _, I.lnew (t' := s.toks) (r.append r2) (by rw [List.length_append]; omega), rfl, q _ I.fresh⟩
/-- a list times an int (a negative one is nothing) -/
def rRep : R2 := fun x y H Q => ∃ l k xs, x = .ref l ∧ y = .int k ∧ H l = some (.lst xs) ∧ -(2 ^ 63) ≤ k ∧ k < 2 ^ 63 ∧ xs.length * k.toNat ≤ sizeLine ∧
  ∀ p, H p = none → Q (.ref p) (upd H p (.lst (List.replicate k.toNat xs).flatten))
/-! ### del xs[i] -/
end

/-! ### xs[a:b] = ys -/
section
variable {prog : Program} {w : World} {A : Around} {E : Value → Shared → Prop} {s : Shared}
theorem bounds_run {a c n : Nat} (hac : a ≤ c) (hc : c ≤ n) : sliceBounds (some (a : Int)) (some (c : Int)) none n = ((a : Int), (c : Int), 1) := by
  simp only [sliceBounds, Option.getD_none]
  have h1 : ¬ ((a : Int) < 0) := by omega
  have h2 : ¬ ((c : Int) < 0) := by omega
  simp only [h1, h2, if_false, show (1 : Int) > 0 by decide, if_true]
  congr 1
  · omega
  · congr 1; omega
set_option maxRecDepth 100000 in
/-- list.__setitem__ with a slice of step one and another list -/
theorem setItem_slice {l b sl : Addr} {items new : Array Value} {n n2 : Nat} {vl vu : Value} {a c : Nat} {Q : Unit → Shared → Prop}
    (e : s.heap.get? l = some { cls := .type "list", data := .seq items n }) (e2 : s.heap.get? b = some { cls := .type "list", data := .seq new n2 }) (hne : l ≠ b)
    (hs : s.heap.IsSliceOf sl vl vu .none) (pl : IsPart vl (some (a : Int))) (pu : IsPart vu (some (c : Int))) (hac : a ≤ c) (hc : c ≤ items.size)
    (hsz : items.size + new.size ≤ sizeLine) (h : Q () { s with heap := s.heap.update l (Obj.mapSeq fun xs => xs.extract 0 a ++ new ++ xs.extract c xs.size) }) :
    wpAny (model prog w) A (setItem (.ref l) (.ref sl) (.ref b)) Q E s := by
  have hl : s.heap.IsList l items := PySem.IsL.isList e
  have hb : s.heap.IsList b new := PySem.IsL.isList e2
  obtain ⟨os, hos, hcs, hds⟩ := id hs
  have hTs : s.TypeIs (.ref sl) "slice" := ⟨os, hos, hcs⟩
  have hstep : ¬ ((rawPart none == rawInt 0) = true) := Bool.false_ne_true
  have hsame : Builtin.List.listSameRef (.ref l) (.ref b) = false := by
    unfold Builtin.List.listSameRef
    exact beq_eq_false_iff_ne.mpr hne
  have hmax : (max (a : Int) (c : Int)).toNat = c := by omega
  have hz' : ((fun xs : Array Value => xs.extract 0 a ++ new ++ xs.extract c xs.size) items).size ≤ sizeLine + 1 := by
    simp only [Array.size_append, Array.size_extract]
    omega
  unfold setItem
  try with_reducible refine wpAny_holding ?_
  first | refine wpAny_bind (wpAny_pure ?_) | skip
  refine wpAny_bind (wpAny_sequenceKey hl.typeIs (by decide) ?_)
  refine wpAny_bind (wpAny_callSpecial?_slot (name := Str.ofString "__setitem__") hl.typeIs slot_list_setitem
    (wpAny_call_entry slot_list_setitem hl.typeIs entry_list_setitem ?_ (args_list_setitem _ _ _)))
  show wpAny _ _ (Builtin.List.listSubscript? (.ref sl) >>= _) _ _ s
  refine wpAny_bind ?_
  unfold Builtin.List.listSubscript?
  refine wpAny_bind (wpAny_specialOf hTs slice_no_index ?_)
  simp only [Option.isNone_none, if_true]
  refine wpAny_pure ?_
  show wpAny _ _ (typeOf (.ref sl) >>= _) _ _ s
  refine wpAny_bind (wpAny_typeOf hTs ?_)
  first
    | rw [if_neg (by decide)]
    | refine PySem.W.KFB.if_not (by decide) ?_
  rw [listSliceParts_eq]
  refine wpAny_bind (wpAny_bind (wpAny_field hos hds (x := .none) rfl (wpAny_bind (wpAny_listPart .none ?_))))
  rw [if_neg hstep]
  refine wpAny_bind (wpAny_field hos hds (x := vl) rfl (wpAny_bind (wpAny_listPart pl ?_)))
  refine wpAny_bind (wpAny_field hos hds (x := vu) rfl (wpAny_bind (wpAny_listPart pu (wpAny_pure ?_))))
  first
    | simp only [hsame, Bool.false_eq_true, if_false]
    | refine PySem.W.KFB.if_not hsame ?_
    | (dsimp only
       rw [if_neg (by rw [hsame]; exact Bool.false_ne_true)])
  refine wpAny_bind (m := Builtin.List.listAllItems (.ref b) "must assign iterable to extended slice") ?_
  unfold Builtin.List.listAllItems
  refine wpAny_bind (wpAny_typeOf hb.typeIs ?_)
  first
    | refine PySem.W.KFB.if_so (by decide) ?_
    | rw [if_pos (by decide)]
    | simp only [beq_self_eq_true, Bool.true_or, if_true]
  unfold Builtin.List.listItems
  refine wpAny_bind (wpAny_seqItems e2 rfl (wpAny_pure ?_))
  refine wpAny_bind (wpAny_bind (wpAny_seqItems e rfl (wpAny_pure ?_)))
  refine wpAny_bind (wpAny_of_eq ((sliceIndices_raw (some (a : Int)) (some (c : Int)) none items.size (by simp)).trans (congrArg (pure : Int × Int × Int → Sem (Int × Int × Int)) (bounds_run hac hc))) ?_)
  show wpAny _ _ (if ((1 : Int) == 1) = true then _ else _) _ _ s
  rw [if_pos (by decide)]
  refine wpAny_bind (wpAny_rule ?_)
  first
    | simp only [notLongL hsz, Bool.false_eq_true, if_false]
    | refine PySem.W.KFB.if_not (notLongL hsz) ?_
  first | refine wpAny_bind (wpAny_pure ?_) | skip
  show wpAny _ _ (updateSeq l (fun xs => xs.extract 0 ((a : Int)).toNat ++ new ++ xs.extract (max (a : Int) (c : Int)).toNat xs.size) >>= _) _ _ s
  rw [hmax, Int.toNat_natCast]
  refine wpAny_bind (wpAny_updateSeq (hz := Nat.le_trans (Nat.le_add_right _ _) hsz) (_hz' := hz') e rfl ?_)
  refine wpAny_bind (wpAny_letGo ?_)
  first
    | exact wpAny_bind (wpAny_pure (wpAny_pure ⟨.none, rfl, wpAny_pure h⟩))
    | exact wpAny_pure ⟨.none, rfl, wpAny_pure h⟩
end

section
variable {X : Cx}
end
end L2

namespace L2
open PySem PySem.Spec PyProof.Rows

theorem Vals.ints : ∀ {ns : List Int} {us : List Value}, Vals (ns.map V.int) us → IntsAre us ns
  | [], us, h => by
    rw [List.map_nil] at h
    cases h
    exact IntsAre.nil
  | n :: ns, us, h => by
    rw [List.map_cons] at h
    cases h with
    | cons r t =>
      obtain ⟨k, rfl⟩ := r
      exact IntsAre.cons n k (Vals.ints t)
theorem Vals.strs : ∀ {xs : List Str} {us : List Value}, Vals (xs.map V.str) us → StrsAre us xs
  | [], us, h => by
    rw [List.map_nil] at h
    cases h
    exact StrsAre.nil
  | x :: xs, us, h => by
    rw [List.map_cons] at h
    cases h with
    | cons r t =>
      obtain ⟨k, rfl⟩ := r
      exact StrsAre.cons x k (Vals.strs t)
theorem Vals.bls : ∀ {bs : List Bool} {us : List Value}, Vals (bs.map V.bl) us → us = bs.map Value.bool
  | [], us, h => by
    rw [List.map_nil] at h
    cases h
    rfl
  | b :: bs, us, h => by
    rw [List.map_cons] at h
    cases h with
    | cons r t =>
      cases r
      rw [Vals.bls t, List.map_cons]
theorem Vals.ref1 {a : Addr} {us : List Value} (r : Vals [V.ref a] us) : us = [Value.ref a] := by
  cases r with
  | cons r t =>
    cases t
    cases r
    rfl
/-! ### the library's walks over a list of ints, kept objects alone -/
section
variable {prog : Program} {w : World} {A : Around} {E : Value → Shared → Prop} {s : Shared} {l : Addr} {its : List Value} {ns : List Int} {Q : Value → Shared → Prop}
end

/-! ### the calls, by values (CallR of 03t; MtR of 06l) -/
section
variable {X : Cx}
/-- sum(xs) of a list of ints -/
def rSum (K : PySem.W.Frag) : List V → Hp → VK → Prop := fun vs H Q => ∃ (a : Addr) (ns : List Int), vs = [V.ref a] ∧ SqL K H a (ns.map V.int) ∧ Q (.int ns.sum) H
/-- max(xs), min(xs) of a list of ints -/
def rMax (K : PySem.W.Frag) : List V → Hp → VK → Prop := fun vs H Q => ∃ (a : Addr) (ns : List Int), vs = [V.ref a] ∧ SqL K H a (ns.map V.int) ∧ 0 < ns.length ∧ ∀ m, m ∈ ns → (∀ y, y ∈ ns → y ≤ m) → Q (.int m) H
def rMin (K : PySem.W.Frag) : List V → Hp → VK → Prop := fun vs H Q => ∃ (a : Addr) (ns : List Int), vs = [V.ref a] ∧ SqL K H a (ns.map V.int) ∧ 0 < ns.length ∧ ∀ m, m ∈ ns → (∀ y, y ∈ ns → m ≤ y) → Q (.int m) H
/-! sorted, sort (fewer than 64 items: the library's own bound) -/
def rSorted (K : PySem.W.Frag) : List V → Hp → VK → Prop := fun vs H Q => ∃ (a : Addr) (ns : List Int), vs = [V.ref a] ∧ SqL K H a (ns.map V.int) ∧ ns.length < 64 ∧
  ∀ (ns' : List Int) (p : Addr), ns'.Perm ns → ns'.Pairwise (· ≤ ·) → H p = none → Q (.ref p) (upd H p (.lst (ns'.map V.int)))
def rSortedS (K : PySem.W.Frag) : List V → Hp → VK → Prop := fun vs H Q => ∃ (a : Addr) (xs : List Str), vs = [V.ref a] ∧ SqL K H a (xs.map V.str) ∧ xs.length < 64 ∧
  ∀ (ys : List Str) (p : Addr), ys.Perm xs → sortedS ys = true → H p = none → Q (.ref p) (upd H p (.lst (ys.map V.str)))
/-- xs.sort(), ints -/
def rSort : V → List V → Hp → VK → Prop := fun x xs H Q => ∃ (a : Addr) (ns : List Int), x = V.ref a ∧ xs = [] ∧ H a = some (.lst (ns.map V.int)) ∧ ns.length < 64 ∧
  ∀ ns' : List Int, ns'.Perm ns → ns'.Pairwise (· ≤ ·) → Q .non (upd H a (.lst (ns'.map V.int)))
end

/-! ### list.index, flat items -/
section
variable {X : Cx}
def rIndex (K : PySem.W.Frag) : V → List V → Hp → VK → Prop := fun x xs H Q => ∃ (a : Addr) (ys : List V) (y : V) (j : Nat) (z : V), x = V.ref a ∧ xs = [y] ∧ SqL K H a ys ∧ flatV y = true ∧ ys.all flatV = true ∧ ys[j]? = some z ∧ eqV z y = true ∧
  (∀ (m : Nat) (z' : V), m < j → ys[m]? = some z' → eqV z' y = false) ∧ Q (.int (j : Nat)) H
end

/-! ### type(x) of an own instance; is, is not of a module's class -/
section
variable {X : Cx}
end

/-! ### any(xs), all(xs) of a list of bools -/
theorem iter_any {prog : Program} {w : World} {A : Around} {E : Value → Shared → Prop} {s : Shared} {l : Addr} {items : Array Value} {Q : Value → Shared → Prop} (hl : s.heap.IsList l items)
    (h : ∀ s₂ : Shared, s₂ = { s with heap := s.heap.push { cls := .type "list_iterator", data := .fields #[.ref l, .int 0 0] } } →
      (s₂.heap.IsListIter s.heap.objs.size l 0 ∧ s₂.heap.IsList l items) → l ≠ s.heap.objs.size → Q (.ref s.heap.objs.size) s₂) : wpAny (model prog w) A (pyIter (.ref l)) Q E s := by
  have hlt : l < s.heap.objs.size := by obtain ⟨_, e, _⟩ := hl; exact Heap.lt_size e
  exact wpAny_pyIter_list hl (h _ rfl ⟨⟨_, Heap.get?_push_size _ rfl, rfl, rfl⟩, hl.push _⟩ (Nat.ne_of_lt hlt))
theorem truth_bools {prog : Program} {w : World} {A : Around} {bs : List Bool} {its : List Value} (e : its = bs.map Value.bool) :
    TruthOf prog w A (fun i v => its.toArray[i]? = some v) (fun i => bs.getD i false) := fun i v s Q E hv hq => by
  have hv' : its[i]? = some v := by simpa using hv
  rw [e, List.getElem?_map] at hv'
  obtain ⟨b, hb, rfl⟩ := Option.map_eq_some_iff.mp hv'
  have hg : bs.getD i false = b := by rw [List.getD_eq_getElem?_getD, hb] <;> rfl
  have hq' : Q (bs.getD i false) s := hq
  rw [hg] at hq'
  exact wpAny_truthy_bool hq'
theorem all_range : ∀ bs : List Bool, (List.range bs.length).all (fun i => bs.getD i false) = bs.all id
  | [] => rfl
  | b :: bs => by
    rw [List.length_cons, List.range_succ_eq_map, List.all_cons, List.all_map, List.all_cons, ← all_range bs]
    all_goals rfl
section
variable {X : Cx}
def rAny (K : PySem.W.Frag) : List V → Hp → VK → Prop := fun vs H Q => ∃ (a : Addr) (bs : List Bool), vs = [V.ref a] ∧ SqL K H a (bs.map V.bl) ∧ Q (.bl (bs.any id)) H
def rAll (K : PySem.W.Frag) : List V → Hp → VK → Prop := fun vs H Q => ∃ (a : Addr) (bs : List Bool), vs = [V.ref a] ∧ SqL K H a (bs.map V.bl) ∧ Q (.bl (bs.all id)) H
theorem cr_all (hc : X.calm = true) : CallR X (.builtin "all") (rAll X.K) := by
  intro pins s σ H vs us Q I r h
  obtain ⟨a, bs, rfl, hs, q⟩ := h
  obtain ⟨its, rv, hl, _⟩ := I.list hs
  rw [Vals.ref1 r]
  have hb := rv.bls
  refine call_all_walk (iter_any hl.isList fun s₂ e2 st hne => ?_)
  subst e2
  refine ⟨_, _, _, _, _, _, _, rfl, Walks.list (A := X.A.in1) (I.ok.hd hc) _ a hne its.toArray, st, truth_bools hb, fun h' tk hk => ?_⟩
  refine ⟨.bl _, H, I.kept fun b o eo => hk b o (fun hmem => ?_) (Heap.get?_push_of_some _ eo), ?_, q⟩
  · rcases List.mem_cons.mp hmem with e1 | hmem
    · exact absurd (e1 ▸ Heap.lt_size eo) (Nat.lt_irrefl _)
    · cases hmem
  · show Value.bool _ = Value.bool _
    rw [← all_range, hb, List.size_toArray, List.length_map]
end

/-! ### == and != of data at any depth: none, bools, ints, texts, lists, tuples -/
mutual
inductive Dp (K : PySem.W.Frag) (H : Hp) : V → PyData → Prop
  | non : Dp K H .non .none
  | bl (b : Bool) : Dp K H (.bl b) (.bool b)
  | int (i : Int) : Dp K H (.int i) (.int i)
  | str (x : Str) : Dp K H (.str x) (.str x)
  | lst {a : Addr} {xs : List V} {ds : List PyData} : SqL K H a xs → DpAll K H xs ds → Dp K H (.ref a) (.list ds)
  | tup {a : Addr} {xs : List V} {ds : List PyData} : SqT K H a xs → DpAll K H xs ds → Dp K H (.ref a) (.tuple ds)
inductive DpAll (K : PySem.W.Frag) (H : Hp) : List V → List PyData → Prop
  | nil : DpAll K H [] []
  | cons {v : V} {vs : List V} {d : PyData} {ds : List PyData} : Dp K H v d → DpAll K H vs ds → DpAll K H (v :: vs) (d :: ds)
end
section
variable {X : Cx} {pins : List (Addr × Obj)} {σ : St} {H : Hp} {s : Shared}
mutual
theorem Dp.reads (I : Inv X pins σ H s) : ∀ (d : PyData) (v : V) (u : Value), Dp X.K H v d → RelV v u → ∃ as, Reads s.heap u d as
  | .none, _, _, h, r => by
    cases h
    cases r
    exact ⟨_, Reads.none⟩
  | .bool b, _, _, h, r => by
    cases h
    cases r
    exact ⟨_, Reads.bool b⟩
  | .int i, _, _, h, r => by
    cases h
    obtain ⟨t, rfl⟩ := r
    exact ⟨_, Reads.int i t⟩
  | .str x, _, _, h, r => by
    cases h
    obtain ⟨t, rfl⟩ := r
    exact ⟨_, Reads.str x t⟩
  | .list ds, _, _, h, r => by
    cases h with
    | lst hs ha =>
      cases r
      obtain ⟨its, rv, ⟨o, n, ho, hc, _, hd⟩, _⟩ := I.list hs
      obtain ⟨as, hr⟩ := Dp.readsAll I ds _ its ha rv
      exact ⟨_, Reads.list ho hc hd hr⟩
  | .tuple ds, _, _, h, r => by
    cases h with
    | tup hs ha =>
      cases r
      obtain ⟨its, rv, ⟨o, ho, hc, n, hd⟩, _⟩ := I.tuple hs
      obtain ⟨as, hr⟩ := Dp.readsAll I ds _ its ha rv
      exact ⟨_, Reads.tuple ho hc hd hr⟩
  | .dict _, _, _, h, _ => by cases h
theorem Dp.readsAll (I : Inv X pins σ H s) : ∀ (ds : List PyData) (vs : List V) (us : List Value), DpAll X.K H vs ds → Vals vs us → ∃ as, ReadsAll s.heap us ds as
  | [], _, _, h, r => by
    cases h
    cases r
    exact ⟨_, ReadsAll.nil⟩
  | d :: ds, _, _, h, r => by
    cases h with
    | cons h1 h2 =>
      cases r with
      | cons r1 r2 =>
        obtain ⟨as, q1⟩ := Dp.reads I d _ _ h1 r1
        obtain ⟨bs, q2⟩ := Dp.readsAll I ds _ _ h2 r2
        exact ⟨_, ReadsAll.cons q1 q2⟩
end
end
section
variable {X : Cx}
def rEqD (K : PySem.W.Frag) : R2 := fun x y H Q => ∃ d e, Dp K H x d ∧ Dp K H y e ∧ SeqAt.shaped d = true ∧ SeqAt.shaped e = true ∧ Q (.bl (PyData.eqv d e)) H
def rNeD (K : PySem.W.Frag) : R2 := fun x y H Q => ∃ d e, Dp K H x d ∧ Dp K H y e ∧ SeqAt.shaped d = true ∧ SeqAt.shaped e = true ∧ Q (.bl (!PyData.eqv d e)) H
theorem op_eqD (hu : X.A.units + 64 < cLine) : OpR X (compareOp .Eq) (rEqD X.K) := by
  intro pins s σ H x y v u Q I rx ry h
  obtain ⟨d, e, hd, he, sd, se, q⟩ := h
  obtain ⟨as, r1⟩ := Dp.reads I d x v hd rx
  obtain ⟨bs, r2⟩ := Dp.reads I e y u he ry
  exact SeqAt.compareEq_shaped r1 r2 sd se hu ⟨.bl _, H, I, rfl, q⟩
theorem op_neD (hu : X.A.units + 64 < cLine) : OpR X (compareOp .NotEq) (rNeD X.K) := by
  intro pins s σ H x y v u Q I rx ry h
  obtain ⟨d, e, hd, he, sd, se, q⟩ := h
  obtain ⟨as, r1⟩ := Dp.reads I d x v hd rx
  obtain ⟨bs, r2⟩ := Dp.reads I e y u he ry
  exact SeqAt.compareNe_shaped r1 r2 sd se hu ⟨.bl _, H, I, rfl, q⟩
end
end L2

namespace L2
open PySem PySem.Spec PyProof.Rows
abbrev CellAt (h : Heap) (c : Addr) (v : Option Value) : Prop := h.IsCell c v
def relS (scope sc : Scope) : Scope :=
  { scope with names := scope.names.map fun (n, k) => if (k == .free && sc.kind == .function && sc.names.lookup n == some .cell) then (n, .cell) else (n, k) }

def cloFrom (cells : List (Str × Addr)) : List (Str × NameKind) → List (Str × Addr) → List (Str × Addr)
  | [], acc => acc
  | (n, k) :: r, acc => if k == .free then cloFrom cells r ((n, (cells.lookup n).getD 0) :: acc) else cloFrom cells r acc

theorem closure_loop (env : Env) (f : Str × NameKind → List (Str × Addr) → Sem (ForInStep (List (Str × Addr))))
    (hf : ∀ n k c, f (n, k) c = if k == .free then (do let a ← cellOf env n; pure (.yield ((n, a) :: c))) else pure (.yield c)) :
    ∀ (names : List (Str × NameKind)) (acc : List (Str × Addr)), (∀ y ∈ names, y.2 = .free → ∃ c, env.cells.lookup y.1 = some c) → forIn names acc f = pure (cloFrom env.cells names acc)
  | [], acc, _ => by rw [List.forIn_nil]; rfl
  | (n, k) :: r, acc, h => by
    rw [List.forIn_cons, hf]
    have ih := fun acc => closure_loop env f hf r acc fun y hy => h y (List.mem_cons_of_mem _ hy)
    unfold cloFrom
    by_cases hk : (k == NameKind.free) = true
    · rw [if_pos hk, if_pos hk]
      obtain ⟨c, hc⟩ := h (n, k) List.mem_cons_self (by simpa using hk)
      have e : cellOf env n = pure c := by unfold cellOf; rw [hc]
      rw [e]
      have e2 : (env.cells.lookup n).getD 0 = c := by rw [hc]; rfl
      rw [e2]
      exact ih _
    · rw [if_neg hk, if_neg hk]
      exact ih _
theorem closure_ok {scope : Scope} {env : Env} (h : ∀ y ∈ scope.names, y.2 = .free → ∃ c, env.cells.lookup y.1 = some c) : closureFor scope env = pure (cloFrom env.cells scope.names []) := by
  simp only [closureFor]
  rw [closure_loop env _ (fun n k c => rfl) scope.names [] h]
  rfl

theorem mem_lookup {α : Type} : ∀ {l : List (Str × α)} {n : Str} {c : α}, (n, c) ∈ l → ∃ c', l.lookup n = some c'
  | (k, v) :: r, n, c, h => by
    rw [List.lookup_cons]
    cases hb : n == k with
    | true => exact ⟨_, rfl⟩
    | false =>
      rcases List.mem_cons.mp h with e | h
      · cases e; simp at hb
      · exact mem_lookup h

theorem cloFrom_mem {cells : List (Str × Addr)} : ∀ {names : List (Str × NameKind)} {acc : List (Str × Addr)} {n : Str} {c : Addr}, (n, c) ∈ cloFrom cells names acc → (n, c) ∈ acc ∨ ((n, .free) ∈ names ∧ c = (cells.lookup n).getD 0)
  | [], _, _, _, h => .inl h
  | (m, k) :: r, acc, n, c, h => by
    unfold cloFrom at h
    split at h
    · rename_i hk
      have hk : k = .free := by simpa using hk
      rcases cloFrom_mem h with h | ⟨h1, h2⟩
      · rcases List.mem_cons.mp h with e | h
        · cases e; exact .inr ⟨hk ▸ List.mem_cons_self, rfl⟩
        · exact .inl h
      · exact .inr ⟨List.mem_cons_of_mem _ h1, h2⟩
    · rcases cloFrom_mem h with h | ⟨h1, h2⟩
      · exact .inl h
      · exact .inr ⟨List.mem_cons_of_mem _ h1, h2⟩
theorem cloFrom_acc {cells : List (Str × Addr)} : ∀ {names : List (Str × NameKind)} {acc : List (Str × Addr)} {p : Str × Addr}, p ∈ acc → p ∈ cloFrom cells names acc
  | [], _, _, h => h
  | (m, k) :: r, acc, p, h => by
    unfold cloFrom
    split
    · exact cloFrom_acc (List.mem_cons_of_mem _ h)
    · exact cloFrom_acc h
theorem cloFrom_has {cells : List (Str × Addr)} : ∀ {names : List (Str × NameKind)} {acc : List (Str × Addr)} {n : Str}, (n, .free) ∈ names → (n, (cells.lookup n).getD 0) ∈ cloFrom cells names acc
  | (m, k) :: r, acc, n, h => by
    unfold cloFrom
    rcases List.mem_cons.mp h with e | h
    · cases e
      exact cloFrom_acc List.mem_cons_self
    · split
      · exact cloFrom_has h
      · exact cloFrom_has h

theorem cells_mem : ∀ {names : List (Str × NameKind)} {h : Heap} {acc : List (Str × Addr)} {x : Str} {c : Addr}, (x, c) ∈ cellsFrom h.objs.size names acc →
    (x, c) ∈ acc ∨ ((x, .cell) ∈ names ∧ h.objs.size ≤ c ∧ CellAt (pushCells h names) c none)
  | [], _, _, _, _, h => .inl h
  | (n, k) :: r, h, acc, x, c, hm => by
    unfold cellsFrom at hm
    unfold pushCells
    split at hm
    · rename_i hk
      rw [if_pos hk]
      have hk : k = .cell := by simpa using hk
      rw [← Heap.size_push h { cls := .type "cell", data := .cell none }] at hm
      rcases cells_mem hm with hm | ⟨h1, h2, h3⟩
      · rcases List.mem_cons.mp hm with e | hm
        · cases e
          exact .inr ⟨hk ▸ List.mem_cons_self, Nat.le_refl _, _, pushCells_keeps r _ _ _ (Heap.get?_push_size _ rfl), rfl⟩
        · exact .inl hm
      · rw [Heap.size_push] at h2
        exact .inr ⟨List.mem_cons_of_mem _ h1, Nat.le_of_succ_le h2, h3⟩
    · rename_i hk
      rw [if_neg hk]
      rcases cells_mem hm with hm | ⟨h1, h2, h3⟩
      · exact .inl hm
      · exact .inr ⟨List.mem_cons_of_mem _ h1, h2, h3⟩
theorem cells_acc : ∀ {names : List (Str × NameKind)} {n : Nat} {acc : List (Str × Addr)} {p : Str × Addr}, p ∈ acc → p ∈ cellsFrom n names acc
  | [], _, _, _, h => h
  | (m, k) :: r, n, acc, p, h => by
    unfold cellsFrom
    split
    · exact cells_acc (List.mem_cons_of_mem _ h)
    · exact cells_acc h
theorem cells_has : ∀ {names : List (Str × NameKind)} {n : Nat} {acc : List (Str × Addr)} {x : Str}, (x, .cell) ∈ names → ∃ c, (x, c) ∈ cellsFrom n names acc
  | (m, k) :: r, n, acc, x, h => by
    unfold cellsFrom
    rcases List.mem_cons.mp h with e | h
    · cases e
      exact ⟨n, cells_acc List.mem_cons_self⟩
    · split
      · exact cells_has h
      · exact cells_has h
theorem cells_inj : ∀ {names : List (Str × NameKind)} {h : Heap} {acc : List (Str × Addr)} {x y : Str} {c : Addr}, (∀ p ∈ acc, p.2 < h.objs.size) → (∀ x y c, (x, c) ∈ acc → (y, c) ∈ acc → x = y) →
    (x, c) ∈ cellsFrom h.objs.size names acc → (y, c) ∈ cellsFrom h.objs.size names acc → x = y
  | [], _, _, _, _, _, _, hi, h1, h2 => hi _ _ _ h1 h2
  | (n, k) :: r, h, acc, x, y, c, hl, hi, h1, h2 => by
    unfold cellsFrom at h1 h2
    split at h1
    · rename_i hk
      rw [if_pos hk] at h2
      rw [← Heap.size_push h { cls := .type "cell", data := .cell none }] at h1 h2
      refine cells_inj (h := h.push _) (fun p hp => ?_) (fun x y c a b => ?_) h1 h2
      · rw [Heap.size_push]
        rcases List.mem_cons.mp hp with rfl | hp
        · exact Nat.lt_succ_self _
        · exact Nat.lt_succ_of_lt (hl p hp)
      · rcases List.mem_cons.mp a with e | a <;> rcases List.mem_cons.mp b with e' | b
        · cases e; cases e'; rfl
        · cases e; exact absurd (hl _ b) (Nat.lt_irrefl _)
        · cases e'; exact absurd (hl _ a) (Nat.lt_irrefl _)
        · exact hi _ _ _ a b
    · rename_i hk
      rw [if_neg hk] at h2
      exact cells_inj hl hi h1 h2

theorem newEnv_comp {M : Model} {A : Around} {E : Value → Shared → Prop} {s : Shared} {scope : Scope} {globals : Addr} {closure : List (Str × Addr)} {qual : Str} {func : Option Addr} {code : Value} {around : Env} {builtins : Addr} {Q : Env → Shared → Prop}
    (h : Q (newEnv scope s.heap.objs.size globals (cellsFrom (s.heap.objs.size + 1) scope.names closure) qual func code (some around) builtins)
      { s with heap := pushCells (s.heap.push { cls := .type "dict", data := .dict #[] }) scope.names }) :
    wpAny M A (newFunctionEnv scope globals closure [] qual func code (some around) builtins) Q E s := by
  simp only [newFunctionEnv, Option.isSome_some, if_true]
  refine wpAny_bind (wpAny_alloc ?_)
  refine wpAny_bind (wpAny_layCells _ (fun n k c => rfl) scope.names closure _ _ ?_)
  rw [show ({ s with heap := s.heap.push { cls := .type "dict", data := .dict #[] } } : Shared).heap.objs.size = s.heap.objs.size + 1 from Heap.size_push ..]
  rw [List.forIn_nil]
  exact wpAny_bind (wpAny_pure (wpAny_pure h))

/-- every name of the written scope, in the scope that runs -/
theorem lookup_relS {sc : Scope} : ∀ {names : List (Str × NameKind)} {x : Str} {k : NameKind},
    (names.map fun (n, k) => if (k == NameKind.free && sc.kind == .function && sc.names.lookup n == some .cell) then (n, NameKind.cell) else (n, k)).lookup x = some k →
    ∃ k', names.lookup x = some k' ∧ (k = k' ∨ (k' = .free ∧ k = .cell))
  | [], _, _, h => by simp at h
  | (n, k₀) :: r, x, k, h => by
    have ih := @lookup_relS sc r x k
    have h' : List.lookup x ((if (k₀ == NameKind.free && sc.kind == .function && sc.names.lookup n == some .cell) = true then (n, NameKind.cell) else (n, k₀)) :: (r.map _)) = some k := h
    cases hx : x == n with
    | true =>
      simp only [List.lookup_cons, hx]
      by_cases hc : (k₀ == NameKind.free && sc.kind == .function && sc.names.lookup n == some .cell) = true
      · rw [if_pos hc] at h'
        simp only [List.lookup_cons, hx] at h'
        cases h'
        simp only [Bool.and_eq_true, beq_iff_eq] at hc
        exact ⟨k₀, rfl, .inr ⟨hc.1.1, rfl⟩⟩
      · rw [if_neg hc] at h'
        simp only [List.lookup_cons, hx] at h'
        cases h'
        exact ⟨_, rfl, .inl rfl⟩
    | false =>
      simp only [List.lookup_cons, hx]
      by_cases hc : (k₀ == NameKind.free && sc.kind == .function && sc.names.lookup n == some .cell) = true
      · rw [if_pos hc] at h'
        simp only [List.lookup_cons, hx] at h'
        exact ih h'
      · rw [if_neg hc] at h'
        simp only [List.lookup_cons, hx] at h'
        exact ih h'
/-- the names of a comprehension's block: its own (with their places in N), or captured -/
structure BlkOk (N : List Str) (sc scope : Scope) (own : List (Str × Nat)) : Prop where
  kind : scope.kind = .function
  uniq : ∀ y ∈ scope.names, scope.names.lookup y.1 = some y.2
  ix : ∀ p ∈ own, N[p.2]? = some p.1
  free : ∀ y ∈ scope.names, y.2 = .free → sc.names.lookup y.1 = some .cell ∨ sc.names.lookup y.1 = some .free
  own : ∀ y ∈ scope.names, y.2 = .local ∨ y.2 = .cell → y.1 ∈ own.map (·.1) ∨ y.1 ∉ N
/-- the slots of the block's own names forgotten -/
def wipe (σ : St) : List Nat → St
  | [] => σ
  | v :: vs => (wipe σ vs).set v none
theorem wipe_length (σ : St) : ∀ vs : List Nat, (wipe σ vs).length = σ.length
  | [] => rfl
  | v :: vs => by unfold wipe; rw [List.length_set, wipe_length σ vs]
theorem wipe_some {σ : St} {i : Nat} {x : V} : ∀ {vs : List Nat}, (wipe σ vs)[i]? = some (some x) → σ[i]? = some (some x) ∧ i ∉ vs
  | [], h => ⟨h, by simp⟩
  | v :: vs, h => by
    unfold wipe at h
    by_cases hi : v = i
    · subst hi
      by_cases hv : v < (wipe σ vs).length
      · rw [List.getElem?_set_self hv] at h; cases h
      · rw [List.getElem?_eq_none (by simpa using hv)] at h; cases h
    · rw [List.getElem?_set_ne hi] at h
      obtain ⟨h1, h2⟩ := wipe_some h
      exact ⟨h1, by simp only [List.mem_cons, not_or]; exact ⟨fun e => hi e.symm, h2⟩⟩

/-- the context of a block that starts at s, its iterator's objects at fp -/
abbrev Cx.blk (X : Cx) (s : Shared) (H : Hp) (scope : Scope) (cenv : Env) (fp : List Addr) : Cx := { X with s_0 := s, H_0 := H, env := cenv, outer := X.stack, ex := fp, fn := fun x => scope.names.lookup x == some .cell, pn := [], xe := fun _ _ => False }
section
variable {X : Cx} {pins : List (Addr × Obj)} {σ : St} {H : Hp} {s : Shared}
theorem block_start {scope : Scope} {own : List (Str × Nat)} {fp : List Addr} (I : Inv X pins σ H s) (ok : BlkOk X.N X.env.scope scope own) (hN : X.N.Nodup) (hfp : ∀ b ∈ fp, FpOk X pins H b ∧ b < s.heap.objs.size) :
    Inv (X.blk s H scope (compEnvC scope (cellsFrom (s.heap.objs.size + 1) scope.names (cloFrom X.env.cells scope.names [])) s.heap.objs.size X.env) fp) [] (wipe σ (own.map (·.2))) H { s with heap := pushCells (s.heap.push { cls := .type "dict", data := .dict #[] }) scope.names } := by
  have hfree : ∀ y ∈ scope.names, y.2 = .free → ∃ c, X.env.cells.lookup y.1 = some c := fun y hy e => by
    rcases ok.free y hy e with k | k
    · exact I.ok.has _ (.inl k)
    · exact I.ok.has _ (.inr k)
  generalize hcenv : compEnvC scope (cellsFrom (s.heap.objs.size + 1) scope.names (cloFrom X.env.cells scope.names [])) s.heap.objs.size X.env = cenv
  have kp : ∀ b o, s.heap.get? b = some o → (pushCells (s.heap.push { cls := .type "dict", data := .dict #[] }) scope.names).get? b = some o := fun b o e => pushCells_keeps _ _ _ _ (Heap.get?_push_of_some _ e)
  have hL : cenv.locals = s.heap.objs.size := by rw [← hcenv]; rfl
  have hcl : cenv.cells = cellsFrom (s.heap.objs.size + 1) scope.names (cloFrom X.env.cells scope.names []) := by rw [← hcenv]; rfl
  have hsc : cenv.scope = relS scope X.env.scope := by rw [← hcenv]; rfl
  rw [← Heap.size_push s.heap { cls := .type "dict", data := .dict #[] }] at hcl
  have cm : ∀ {y c}, (y, c) ∈ cloFrom X.env.cells scope.names [] → X.env.cells.lookup y = some c ∧ c < s.heap.objs.size := fun {y c} hm => by
    rcases cloFrom_mem hm with hm | ⟨h1, rfl⟩
    · cases hm
    · obtain ⟨c, hc⟩ := hfree _ h1 rfl
      rw [hc]
      obtain ⟨w, z⟩ := I.cell _ _ hc
      exact ⟨rfl, z.lt⟩
  have mem : ∀ {y c}, cenv.cells.lookup y = some c → (X.env.cells.lookup y = some c ∧ c < s.heap.objs.size) ∨ (s.heap.objs.size + 1 ≤ c ∧ CellAt (pushCells (s.heap.push { cls := .type "dict", data := .dict #[] }) scope.names) c none) := fun {y c} e => by
    rw [hcl] at e
    rcases cells_mem (PySem.mem_of_lookup e) with hm | ⟨_, h2, h3⟩
    · exact .inl (cm hm)
    · rw [Heap.size_push] at h2; exact .inr ⟨h2, h3⟩
  have look : ∀ {y}, scope.names.lookup y = some .free → ∃ c, cenv.cells.lookup y = some c ∧ X.env.cells.lookup y = some c := fun {y} hl => by
    have hy : (y, NameKind.free) ∈ scope.names := PySem.mem_of_lookup hl
    obtain ⟨c', e'⟩ := mem_lookup (cells_acc (names := scope.names) (n := (s.heap.push { cls := .type "dict", data := .dict #[] }).objs.size) (cloFrom_has (cells := X.env.cells) (acc := []) hy))
    rw [← hcl] at e'
    refine ⟨c', e', ?_⟩
    rw [hcl] at e'
    rcases cells_mem (PySem.mem_of_lookup e') with hm | ⟨h1, _, _⟩
    · exact (cm hm).1
    · have := ok.uniq _ h1
      rw [hl] at this; cases this
  have okB : (X.blk s H scope cenv fp).Ok := by
    refine ⟨I.ok.mod, by show cenv.scope.kind = _; rw [hsc]; exact ok.kind, by show cenv.globals = _; rw [← hcenv]; exact I.ok.glob, by show cenv.builtins = _; rw [← hcenv]; exact I.ok.blt, by show s.heap.objs.size ≤ cenv.locals; rw [hL]; exact Nat.le_refl _,
      fun y z c e1 e2 => ?_, fun y hy => ?_, fun y c z e => ?_, I.ok.hd, I.ok.frames, .inl rfl, fun b hb => ⟨?_, fun y c e z => ?_⟩, I.bs, Nat.le_trans I.ok.bsz I.sz, fun b o e hb => ?_, fun b hb z => ?_, I.stack, I.stkFree⟩
    · have e1 : cenv.cells.lookup y = some c := e1
      have e2 : cenv.cells.lookup z = some c := e2
      rw [hcl] at e1 e2
      refine cells_inj (fun p hp => ?_) (fun y z c a b => I.ok.inj y z c (cm a).1 (cm b).1) (PySem.mem_of_lookup e1) (PySem.mem_of_lookup e2)
      rw [Heap.size_push]
      exact Nat.lt_succ_of_lt (cm (y := p.1) (c := p.2) hp).2
    · show ∃ c, cenv.cells.lookup y = some c
      have key : ∀ k, cenv.kindOf y = some k → (k = .cell ∨ k = .free) → ∃ c, cenv.cells.lookup y = some c := fun k hk hk' => by
        unfold Env.kindOf at hk
        rw [hsc] at hk
        obtain ⟨k', e, r⟩ := lookup_relS hk
        have : k' = .cell ∨ k' = .free := by
          rcases r with rfl | ⟨rfl, _⟩
          · exact hk'
          · exact .inr rfl
        rcases this with rfl | rfl
        · obtain ⟨c, hm⟩ := cells_has (n := (s.heap.push { cls := .type "dict", data := .dict #[] }).objs.size) (acc := cloFrom X.env.cells scope.names []) (PySem.mem_of_lookup e)
          obtain ⟨c', e'⟩ := mem_lookup hm
          exact ⟨c', by rw [hcl]; exact e'⟩
        · obtain ⟨c, h1, _⟩ := look e
          exact ⟨c, h1⟩
      rcases hy with hy | hy
      · exact key _ hy (.inl rfl)
      · exact key _ hy (.inr rfl)
    · have z : (scope.names.lookup y == some NameKind.cell) = true := z
      have z : scope.names.lookup y = some .cell := by simpa using z
      have e : cenv.cells.lookup y = some c := e
      rw [hcl] at e
      rcases cells_mem (PySem.mem_of_lookup e) with hm | ⟨_, h2, _⟩
      · rcases cloFrom_mem hm with hm | ⟨h1, _⟩
        · cases hm
        · have q := ok.uniq _ h1
          rw [z] at q; cases q
      · rw [Heap.size_push] at h2
        exact Nat.le_of_succ_le h2
    · show b ≠ cenv.locals
      rw [hL]; exact Nat.ne_of_lt (hfp b hb).2
    · have e : cenv.cells.lookup y = some c := e
      rcases mem e with ⟨h1, _⟩ | ⟨h1, _⟩
      · exact (hfp b hb).1.2.2.2.2.1 y c h1 z
      · have h2 : s.heap.objs.size + 1 ≤ b := by rw [← z]; exact h1
        exact absurd (Nat.lt_of_lt_of_le (hfp b hb).2 (Nat.le_of_succ_le h2)) (Nat.lt_irrefl _)
    · rcases (hfp b hb).1.2.2.2.1 with z | z
      · exact I.ok.noex b o e z
      · exact absurd (Nat.lt_of_lt_of_le (Heap.lt_size e) (Nat.le_trans I.ok.bsz z)) (Nat.lt_irrefl _)
    · rcases List.mem_cons.mp (I.stkSub b z) with z | z
      · exact (hfp b hb).1.2.1 z
      · exact (hfp b hb).1.2.2.1 z
  refine ⟨okB, rfl, I.bare, Un.kept kp, ⟨fun _ => none, ?_, fun i y av e1 e2 e3 => ?_⟩, fun y c e => ?_, ?_, fun y c e => ?_, fun p hp => ?_, I.hok.kept kp, by rw [wipe_length]; exact I.len⟩
  · show Heap.Ns _ cenv.locals _
    rw [hL]
    exact Heap.Ns.keeps (Heap.Ns.new ..) fun b o e => pushCells_keeps _ _ _ _ e
  · obtain ⟨e2, hne⟩ := wipe_some e2
    have hfr : scope.names.lookup y = some .free ∧ (cenv.kindOf y = some .cell ∨ cenv.kindOf y = some .free) := by
      have key : ∀ k, cenv.scope.names.lookup y = some k → k = .local ∨ k = .cell ∨ k = .free → scope.names.lookup y = some .free ∧ (cenv.kindOf y = some .cell ∨ cenv.kindOf y = some .free) := fun k hk hk' => by
        have hk0 := hk
        rw [hsc] at hk
        obtain ⟨k', e, r⟩ := lookup_relS hk
        have no : ¬ (k' = .local ∨ k' = .cell) := fun hh => by
          rcases ok.own _ (PySem.mem_of_lookup e) hh with e' | e'
          · obtain ⟨p, hp, hpy⟩ := List.mem_map.mp e'
            have e3 := ok.ix p hp
            have : p.1 = y := hpy
            rw [this] at e3
            exact hne (List.mem_map.mpr ⟨p, hp, nodup_ix hN e3 e1⟩)
          · exact e' (List.mem_of_getElem? e1)
        rcases r with rfl | ⟨rfl, rfl⟩
        · rcases hk' with rfl | rfl | rfl
          · exact absurd (.inl rfl) no
          · exact absurd (.inr rfl) no
          · exact ⟨e, .inr hk0⟩
        · exact ⟨e, .inl hk0⟩
      have e3 : Vis cenv.scope y := e3
      rcases e3 with e3 | e3 | e3
      · exact key _ e3 (.inl rfl)
      · exact key _ e3 (.inr (.inl rfl))
      · exact key _ e3 (.inr (.inr rfl))
    obtain ⟨m, hn, hl⟩ := I.loc
    have hvis : Vis X.env.scope y := (ok.free _ (PySem.mem_of_lookup hfr.1) rfl).elim (fun k => .inr (.inl k)) (fun k => .inr (.inr k))
    obtain ⟨w, r, q⟩ := hl i y av e1 e2 hvis
    refine ⟨w, r, .inr ⟨hfr.2, ?_⟩⟩
    obtain ⟨c, h1, h2⟩ := look hfr.1
    rcases q with ⟨k, _⟩ | ⟨_, c', e', z⟩
    · have k : X.env.scope.names.lookup y = some .local := k
      rcases ok.free _ (PySem.mem_of_lookup hfr.1) rfl with k' | k' <;> rw [show X.env.scope.names.lookup y = _ from k'] at k <;> cases k
    · rw [h2] at e'; cases e'
      exact ⟨c, h1, z.keeps kp⟩
  · have e : cenv.cells.lookup y = some c := e
    rcases mem e with ⟨h1, _⟩ | ⟨_, z⟩
    · obtain ⟨w, z⟩ := I.cell y c h1
      exact ⟨w, z.keeps kp⟩
    · exact ⟨_, z⟩
  · show H cenv.locals = none
    rw [hL]; exact I.hok.fresh (Nat.le_refl _)
  · have e : cenv.cells.lookup y = some c := e
    rcases mem e with ⟨h1, _⟩ | ⟨h1, _⟩
    · exact I.freeC y c h1
    · exact I.hok.fresh (Nat.le_of_succ_le h1)
  · exact absurd (show p ∈ ([] : List (Addr × Obj)) ++ [] from hp) (by simp)

/-- an item appended to a tracked list -/
theorem app_ok {E : Value → Shared → Prop} {D : Addr} {xs : List V} {y : V} {v : Value} {Q : Value → Shared → Prop} (I : Inv X pins σ H s) (hD : H D = some (.lst xs)) (hz : xs.length < sizeLine) (r : RelV y v)
    (h : ∀ s', Inv X pins σ (upd H D (.lst (xs ++ [y]))) s' → Q .none s') : wpAny (model X.prog X.w) X.A (call (.builtin "list.append") [.ref D, v]) Q E s := by
  obtain ⟨hz', its, n, ri, e⟩ := I.hok D _ hD
  have hl := ri.length
  refine append_at (hsz := by rw [List.size_toArray]; omega) e fun h' sb ho' => ?_
  refine h { s with heap := h' } (I.write (t' := s.toks) (by rw [hD]; trivial) (.inl rfl) (fun b u hb q => (sb.2 b hb).trans q) ⟨_, ho'⟩ ⟨by rw [List.length_append]; exact hz, its ++ [v], n + 1, ri.append (.cons r .nil), ?_⟩)
  rw [ho']
  simp

/-- a clause's tests -/
def PTs (X : Cx) (ifs : List Expr) (t : TT) : Prop :=
  ∀ (pins : List (Addr × Obj)) (s : Shared) (σ : St) (H : Hp) (Q : Bool → Hp → Prop), Inv X pins σ H s → t σ H Q →
    wpAny (model X.prog X.w) X.A (forIn ifs true fun c r => if r = true then do let ok ← isTrue c X.env (eval c X.env); pure (ForInStep.yield ok) else pure (ForInStep.yield r)) (TP X pins σ Q) X.xe s
def tYes : TT := fun _ H Q => Q true H
theorem pts_nil : PTs X [] tYes := fun _ _ _ H _ I h => wpAny_tests_nil ⟨H, I, h⟩
end

theorem thnF {α : Type} {t : Sem α} {Q Q' : α → Shared → Prop} {M : Model} {A : Around} {E : Value → Shared → Prop} {s : Shared} (h : wpAny M A t Q (fun _ _ => False) s) (hQ : ∀ a s, Q a s → Q' a s) : wpAny M A t Q' E s := wpAny_mono h hQ fun _ _ z => False.elim z

/-- the loop of a list comprehension's block, the target of any form (codeAny_compLoop_tests asks a target that no tuple goes to; statement and proof follow it, PyProof/CompMap.lean:41-61, with the step letOwnedTupleGo kept) -/
theorem compLoop_any {prog : Program} {w : World} {A : Around} {R : Result → Shared → Prop} {s : Shared} {elt target iter : Expr} {ifs : List Expr} {scope : Scope} {pos : Pos} {it acc : Value} {env : Env} (I : Nat → Shared → Prop)
    (turn : ∀ n s, I n s → wpAny (model prog w) A (pyNext it) (fun r s₁ => match r with
      | none => R (.ok .next) s₁
      | some v => wpAny (model prog w) A (letOwnedTupleGo target it v) (fun _ s₁' => wpAny (model prog w) A (assign target env v) (fun _ s₂ =>
          wpAny (model prog w) A (forIn ifs true fun c r => if r = true then do let ok ← isTrue c env (eval c env); pure (ForInStep.yield ok) else pure (ForInStep.yield r)) (fun ok s₃ =>
            if ok = true then wpAny (model prog w) A (eval elt env) (fun x s₄ =>
              wpAny (model prog w) A (call (.builtin "list.append") [acc, x]) (fun _ s₅ => ∃ m, m < n ∧ I m s₅) (notedBy (model prog w) A env fun e s' => R (.error e) s') s₄) (notedBy (model prog w) A env fun e s' => R (.error e) s') s₃
            else ∃ m, m < n ∧ I m s₃) (notedBy (model prog w) A env fun e s' => R (.error e) s') s₂) (notedBy (model prog w) A env fun e s' => R (.error e) s') s₁') (notedBy (model prog w) A env fun e s' => R (.error e) s') s₁) (notedBy (model prog w) A env fun e s' => R (.error e) s') s)
    (n : Nat) (h : I n s) :
    codeAny (model prog w) A (.compLoop (.ListComp elt [⟨target, iter, ifs, 0⟩] scope pos) 0 it acc env) R s := by
  refine codeAny_loop rfl I (fun n s hI => ?_) n h
  show wpAny _ A ((compTurn (.ListComp elt [⟨target, iter, ifs, 0⟩] scope pos) 0 it acc env).onRaise (fun x => do noteFrame x env; theTreesLotGoes x)) _ _ s
  refine wpAny_noted ?_
  rw [compTurn_list]
  refine wpAny_bind (wpAny_standAt (wpAny_bind (wpAny_mono (turn n s hI) (fun r s₁ h₁ => ?_) fun _ _ h' => h')))
  cases r with
  | none => exact wpAny_pure h₁
  | some v =>
    refine wpAny_bind (wpAny_mono h₁ (fun _ s₁' h₁' => ?_) fun _ _ h' => h')
    refine wpAny_bind (wpAny_mono h₁' (fun _ s₂ h₂ => wpAny_bind (wpAny_mono h₂ (fun ok s₃ h₃ => ?_) fun _ _ h' => h')) fun _ _ h' => h')
    cases ok with
    | false => exact wpAny_pure ⟨rfl, h₃⟩
    | true =>
      exact wpAny_bind (wpAny_bind (wpAny_mono h₃ (fun x s₄ h₄ => wpAny_bind (wpAny_mono h₄ (fun _ s₅ h₅ => wpAny_pure (wpAny_pure ⟨rfl, h₅⟩)) fun _ _ h' => h')) fun _ _ h' => h'))

section
variable {X : Cx}
/-- [elt for target in iter if ..]: D the new list; W by the turn and a measure, Nx what a turn is to reach -/
def tLc (wi : TI) (g : TG) (tt : TT) (te : TE) (vs : List Nat) : TE := fun σ H Q => wi σ H fun J H1 => ∀ D, H1 D = none → ∃ W : Nat → Nat → Hp → Prop, (∃ m, W 0 m (upd H1 D (.lst []))) ∧ ∀ i m H, W i m H →
  (J.stop i H ∧ Q (.ref D) H) ∨ (J.go i H ∧ ∃ Nx : Hp → Prop, (∀ H', Nx H' → ∃ m', m' < m ∧ W (i + 1) m' H') ∧ ∀ x H', J.yld i H x H' → g x (wipe σ vs) H' fun σ2 H2 => wipe σ2 vs = wipe σ vs ∧ tt σ2 H2 fun b H3 =>
    if b = true then te σ2 H3 fun y H4 => ∃ acc, H4 D = some (.lst acc) ∧ acc.length < sizeLine ∧ Nx (upd H4 D (.lst (acc ++ [y]))) else Nx H3)
theorem lc_core {pins : List (Addr × Obj)} {s : Shared} {σ : St} {H : Hp} {Q : VK} {elt tg iter : Expr} {ifs : List Expr} {scope : Scope} {own : List (Str × Nat)} {pos pos' : Pos} {wi : TI} {g : TG} {tt : TT} {te : TE} {use : Option (Value → Sem Unit)} {Qf : Value → Shared → Prop}
    (hc : X.calm = true) (hN : X.N.Nodup) (I : Inv X pins σ H s) (hi : PI X tg iter wi) (ok : BlkOk X.N X.env.scope scope own)
    (hg : ∀ (s : Shared) (H : Hp) (C : Addr) (cl : List (Str × Addr)) (fp : List Addr), PG (X.blk s H scope (compEnvC scope cl C X.env) fp) tg g) (ht : ∀ (s : Shared) (H : Hp) (C : Addr) (cl : List (Str × Addr)) (fp : List Addr), PTs (X.blk s H scope (compEnvC scope cl C X.env) fp) ifs tt)
    (he : ∀ (s : Shared) (H : Hp) (C : Addr) (cl : List (Str × Addr)) (fp : List Addr), PE (X.blk s H scope (compEnvC scope cl C X.env) fp) elt te) (hs : ∀ x, foldedSetIterable iter X.env x = pure x)
    (h : tLc wi g tt te (own.map (·.2)) σ H Q)
    (hRR : ∀ D C s' m H', Inv X pins σ H' s' → Q (.ref D) H' → s'.heap.Ns C m → FpOk X pins H' C → compPost (model X.prog X.w) X.A X.xe use Qf (.ref D) C (.ok .next) s') :
    wpAny (model X.prog X.w) X.A (comprehension (.ListComp elt [⟨tg, iter, ifs, 0⟩] scope pos) scope X.env pos' (newList []) false (eval iter X.env) use) Qf X.xe s := by
  have hfree : ∀ y ∈ scope.names, y.2 = .free → ∃ c, X.env.cells.lookup y.1 = some c := fun y hy e => by
    rcases ok.free y hy e with k | k
    · exact I.ok.has _ (.inl k)
    · exact I.ok.has _ (.inr k)
  refine wpAny_comprehension_free (use := use) rfl hs (closure_ok hfree) ok.kind (fun y hy e => by rw [ok.uniq y hy, e])
    (thn (hi pins s σ H _ I h) fun xv s1 hx => thn hx fun itv s2 h2 => ?_)
  obtain ⟨it, fp, tn, J, H2, e, I2, T, st2, f2, q⟩ := h2
  subst e
  refine wpAny_newObj_type (newEnv_comp ?_) (by show 0 ≤ sizeLine; decide)
  generalize hD : s2.heap.objs.size = D
  have hDn : H2 D = none := I2.hok.fresh (Nat.le_of_eq hD)
  obtain ⟨W, ⟨m0, w0⟩, turn⟩ := q D hDn
  -- the new list
  generalize hs3 : ({ s2 with heap := s2.heap.push { cls := .type "list", data := .seq ([] : List Value).toArray } } : Shared) = s3
  have I3 : Inv X pins σ (upd H2 D (.lst [])) s3 := by
    rw [← hs3]
    refine I2.laid (t' := s2.toks) (fun b o e => Heap.get?_push_of_some _ e) (Nat.le_of_eq hD) ⟨Nat.zero_le _, [], 0, .nil, ?_⟩
    rw [← hD]
    exact Heap.get?_push_size _ rfl
  have h3 : s3.heap = s2.heap.push { cls := .type "list", data := .seq ([] : List Value).toArray } := by rw [← hs3]
  have sz : ∀ b ∈ fp, b < s2.heap.objs.size := fun b hb => by
    obtain ⟨o, e, _⟩ := T.obj _ _ st2 b hb
    exact Heap.lt_size e
  have f3 : ∀ b ∈ fp, FpOk X pins (upd H2 D (.lst [])) b ∧ b < s3.heap.objs.size := fun b hb => by
    have hlt := sz b hb
    refine ⟨⟨?_, (f2 b hb).2⟩, by rw [h3, Heap.size_push]; exact Nat.lt_succ_of_lt hlt⟩
    rw [upd_ne (by rw [← hD]; exact Nat.ne_of_lt hlt)]
    exact (f2 b hb).1
  have st3 : tn 0 s3.heap := T.keep _ _ _ st2 fun b _ o e => by rw [h3]; exact Heap.get?_push_of_some _ e
  have I4 := block_start I3 ok hN f3
  have pg := hg s3 (upd H2 D (.lst [])) s3.heap.objs.size (cellsFrom (s3.heap.objs.size + 1) scope.names (cloFrom X.env.cells scope.names [])) fp
  have pt := ht s3 (upd H2 D (.lst [])) s3.heap.objs.size (cellsFrom (s3.heap.objs.size + 1) scope.names (cloFrom X.env.cells scope.names [])) fp
  have pe := he s3 (upd H2 D (.lst [])) s3.heap.objs.size (cellsFrom (s3.heap.objs.size + 1) scope.names (cloFrom X.env.cells scope.names [])) fp
  show codeAny _ _ (.compStart (.ListComp elt [⟨tg, iter, ifs, 0⟩] scope pos) 0 (.ref it) (.ref D) (compEnvC scope (cellsFrom (s3.heap.objs.size + 1) scope.names (cloFrom X.env.cells scope.names [])) s3.heap.objs.size X.env)) (compPost (model X.prog X.w) X.A X.xe use Qf (.ref D) s3.heap.objs.size) { s3 with heap := pushCells (s3.heap.push { cls := .type "dict", data := .dict #[] }) scope.names }
  have nfp : ∀ b ∈ fp, (upd H2 D (.lst [])) b = none := fun b hb => (f3 b hb).1.1
  generalize hce : compEnvC scope (cellsFrom (s3.heap.objs.size + 1) scope.names (cloFrom X.env.cells scope.names [])) s3.heap.objs.size X.env = ce at I4 pg pt pe ⊢
  have cL : ce.locals = s3.heap.objs.size := by subst hce; rfl
  generalize hH3 : upd H2 D (.lst []) = H3 at I3 I4 pg pt pe w0 nfp f3
  generalize hs4 : ({ s3 with heap := pushCells (s3.heap.push { cls := .type "dict", data := .dict #[] }) scope.names } : Shared) = s4 at I4 ⊢
  have st4 : tn 0 s4.heap := T.keep _ _ _ st3 fun b _ o e => by rw [← hs4]; exact pushCells_keeps _ _ _ _ (Heap.get?_push_of_some _ e)
  have stat : ∀ {σ' : St} {H' : Hp} {s' : Shared}, Inv (X.blk s3 H3 scope ce fp) [] σ' H' s' → (∀ b ∈ fp, H' b = none) → ∀ b ∈ fp, FpOk (X.blk s3 H3 scope ce fp) [] H' b := fun {σ' H' s'} I' hn b hb =>
    ⟨hn b hb, (I'.ok.exf b hb).1, I'.ok.exfs b hb, .inl hb, fun x c e => (I'.ok.exf b hb).2 x c e, fun p hp => absurd (show p ∈ ([] : List (Addr × Obj)) ++ [] from hp) (by simp)⟩
  have loop : codeAny (model X.prog X.w) X.A (.compLoop (.ListComp elt [⟨tg, iter, ifs, 0⟩] scope pos) 0 (.ref it) (.ref D) ce) (compPost (model X.prog X.w) X.A X.xe use Qf (.ref D) s3.heap.objs.size) s4 := by
    refine compLoop_any (fun n s' => ∃ i H', Inv (X.blk s3 H3 scope ce fp) [] (wipe σ (own.map (·.2))) H' s' ∧ tn i s'.heap ∧ (∀ b ∈ fp, H' b = none) ∧ W i n H') ?_ m0 ⟨0, H3, I4, st4, nfp, w0⟩
    rintro n s5 ⟨i, H5, I5, st5, n5, w5⟩
    rcases turn i n H5 w5 with ⟨stop, qq⟩ | ⟨go, Nx, hNx, step⟩
    · have td := T.done (X.blk s3 H3 scope ce fp) rfl rfl rfl hc i [] s5 _ H5 (fun _ _ => False) I5 (stat I5 n5) st5 stop
      refine thnF td fun r s6 ⟨hr, I6⟩ => ?_
      subst hr
      -- back in the def's context
      have I7 : Inv X pins σ H5 s6 := I3.call' (ch := fp) I6.os I6.base I6.hok I6.bare fun b hb => ⟨(f3 b hb).1.2.2.2.1, (f3 b hb).1.2.1, (f3 b hb).1.2.2.2.2.1, (f3 b hb).1.2.2.2.2.2⟩
      have nC : H5 s3.heap.objs.size = none := by
        have z : H5 ce.locals = none := I6.free
        rw [cL] at z
        exact z
      obtain ⟨m, hn, _⟩ := I6.loc
      have hn : s6.heap.Ns ce.locals m := hn
      rw [cL] at hn
      exact hRR D s3.heap.objs.size s6 m H5 I7 qq hn (I3.fpOk (Nat.le_refl _) nC)
    · have ti := T.item (X.blk s3 H3 scope ce fp) rfl rfl rfl hc i [] s5 _ H5 (fun _ _ => False) I5 (stat I5 n5) st5 go
      refine thnF ti fun r s6 ⟨u, hr, h6⟩ => ?_
      subst hr
      refine thnF h6 fun _ s7 ⟨x, H7, I7, r7, y7, st7, n7⟩ => ?_
      have I7' := I7.pinned (stat I7 n7) (T.obj _ _ st7)
      refine thnF (pg _ s7 _ H7 x u _ I7' r7 (step x H7 y7)) fun _ s8 ⟨σ8, H8, I8, hw8, q8⟩ => ?_
      refine thnF (pt _ s8 σ8 H8 _ I8 q8) fun b s9 ⟨H9, I9, q9⟩ => ?_
      -- the turn's end
      have fin : ∀ {s' : Shared} {H' : Hp}, Inv (X.blk s3 H3 scope ce fp) ([] ++ pinsAt fp s7.heap) σ8 H' s' → Nx H' → ∃ m, m < n ∧ ∃ i H', Inv (X.blk s3 H3 scope ce fp) [] (wipe σ (own.map (·.2))) H' s' ∧ tn i s'.heap ∧ (∀ b ∈ fp, H' b = none) ∧ W i m H' := fun {s' H'} I' nx => by
        obtain ⟨m', hm, w'⟩ := hNx H' nx
        have pin' : ∀ b ∈ fp, ∀ o, s7.heap.get? b = some o → s'.heap.get? b = some o ∧ H' b = none := fun b hb o e =>
          let z := I'.pin (b, o) (List.mem_append_right _ (List.mem_append_right _ (mem_pinsAt hb e)))
          ⟨z.1, z.2.1⟩
        have hl : (wipe σ (own.map (·.2))).length = σ8.length := by rw [← hw8, wipe_length]
        refine ⟨m', hm, i + 1, H', (I'.unpinned (pins := [])).weak hl (fun j v e => ?_), T.keep _ _ _ st7 fun b hb o e => (pin' b hb o e).1, fun b hb => ?_, w'⟩
        · rw [← hw8] at e
          exact (wipe_some e).1
        · obtain ⟨o, e, _⟩ := T.obj _ _ st7 b hb
          exact (pin' b hb o e).2
      cases b with
      | false =>
        simp only [Bool.false_eq_true, if_false] at q9 ⊢
        exact fin I9 q9
      | true =>
        simp only [if_true] at q9 ⊢
        refine thnF (pe _ s9 σ8 H9 _ I9 q9) fun z s10 ⟨yv, H10, I10, r10, acc, hD10, hz10, nx⟩ => ?_
        exact app_ok (X := X.blk s3 H3 scope ce fp) I10 hD10 hz10 r10 fun s11 I11 => fin I11 nx
  exact codeAny_compStart_list loop (T.self X.A 0 _ _ _ st4 loop)
/-- as a value -/
theorem pe_lc {elt tg iter : Expr} {ifs : List Expr} {scope : Scope} {own : List (Str × Nat)} {pos : Pos} {wi : TI} {g : TG} {tt : TT} {te : TE} (hc : X.calm = true) (hN : X.N.Nodup) (hi : PI X tg iter wi) (ok : BlkOk X.N X.env.scope scope own)
    (hg : ∀ (s : Shared) (H : Hp) (C : Addr) (cl : List (Str × Addr)) (fp : List Addr), PG (X.blk s H scope (compEnvC scope cl C X.env) fp) tg g) (ht : ∀ (s : Shared) (H : Hp) (C : Addr) (cl : List (Str × Addr)) (fp : List Addr), PTs (X.blk s H scope (compEnvC scope cl C X.env) fp) ifs tt)
    (he : ∀ (s : Shared) (H : Hp) (C : Addr) (cl : List (Str × Addr)) (fp : List Addr), PE (X.blk s H scope (compEnvC scope cl C X.env) fp) elt te) (hs : ∀ x, foldedSetIterable iter X.env x = pure x := by intro _; rfl) :
    PE X (.ListComp elt [⟨tg, iter, ifs, 0⟩] scope pos) (tLc wi g tt te (own.map (·.2))) := by
  intro pins s σ H Q I h
  rw [eval_ListComp]
  refine lc_core hc hN I hi ok hg ht he hs h fun D C s' m H' I' q hn f => ⟨m, hn, fun h'' sb => ?_⟩
  obtain ⟨f0, f1, f2, f3, f4, f5⟩ := f
  exact ⟨.ref D, H', I'.turned (t' := s'.toks) (fun b o hb e => (sb.2 b hb).trans e) f0 f1 f3 f4 f5, rfl, q⟩
end

/-! ### the forms one uses -/
/-- over a list that the block leaves as it is -/
theorem lc_list {K : PySem.W.Frag} {a : Addr} {xs : List V} {g : TG} {tt : TT} {te : TE} {vs : List Nat} {σ : St} {H1 : Hp} {D : Addr} {Qd : Hp → Prop} (Pv : Nat → Hp → Prop) (h0 : Pv 0 (upd H1 D (.lst []))) (hl : ∀ i H, i ≤ xs.length → Pv i H → SqL K H a xs)
    (hs : ∀ i x H, xs[i]? = some x → Pv i H → g x (wipe σ vs) H fun σ2 H2 => wipe σ2 vs = wipe σ vs ∧ tt σ2 H2 fun b H3 =>
      if b = true then te σ2 H3 fun y H4 => ∃ acc, H4 D = some (.lst acc) ∧ acc.length < sizeLine ∧ Pv (i + 1) (upd H4 D (.lst (acc ++ [y]))) else Pv (i + 1) H3) (hd : ∀ H, Pv xs.length H → Qd H) :
    ∃ W : Nat → Nat → Hp → Prop, (∃ m, W 0 m (upd H1 D (.lst []))) ∧ ∀ i m H, W i m H →
      ((Itl K a).stop i H ∧ Qd H) ∨ ((Itl K a).go i H ∧ ∃ Nx : Hp → Prop, (∀ H', Nx H' → ∃ m', m' < m ∧ W (i + 1) m' H') ∧ ∀ x H', (Itl K a).yld i H x H' → g x (wipe σ vs) H' fun σ2 H2 => wipe σ2 vs = wipe σ vs ∧ tt σ2 H2 fun b H3 =>
        if b = true then te σ2 H3 fun y H4 => ∃ acc, H4 D = some (.lst acc) ∧ acc.length < sizeLine ∧ Nx (upd H4 D (.lst (acc ++ [y]))) else Nx H3) := by
  refine ⟨fun i m H => m = xs.length - i ∧ i ≤ xs.length ∧ Pv i H, ⟨xs.length, by simp, Nat.zero_le _, h0⟩, ?_⟩
  rintro i m H ⟨rfl, hi, p⟩
  have q := hl i H hi p
  by_cases hlt : i < xs.length
  · refine .inr ⟨⟨xs, xs[i], q, by simp [hlt]⟩, Pv (i + 1), fun H' p' => ⟨xs.length - (i + 1), by omega, rfl, hlt, p'⟩, fun x H' y => ?_⟩
    obtain ⟨e, y⟩ := y
    subst e
    exact hs i x _ (y xs q) p
  · have e : i = xs.length := by omega
    subst e
    exact .inl ⟨⟨xs, q, Nat.le_refl _⟩, hd H p⟩
def blkC (N : List Str) (sc scope : Scope) (own : List (Str × Nat)) : Bool :=
  (match scope.kind with | .function => true | _ => false) && (scope.names.all fun y => decide (scope.names.lookup y.1 = some y.2)) && (own.all fun p => decide (N[p.2]? = some p.1)) &&
    (scope.names.all fun y => match y.2 with
      | .free => (match sc.names.lookup y.1 with | some .cell => true | some .free => true | _ => false)
      | .local => decide (y.1 ∈ own.map (·.1)) || decide (y.1 ∉ N)
      | .cell => decide (y.1 ∈ own.map (·.1)) || decide (y.1 ∉ N)
      | _ => true)
theorem blkOk_by {N : List Str} {sc scope : Scope} {own : List (Str × Nat)} (h : blkC N sc scope own = true) : BlkOk N sc scope own := by
  unfold blkC at h
  simp only [Bool.and_eq_true, List.all_eq_true, decide_eq_true_eq] at h
  obtain ⟨⟨⟨h1, h2⟩, h3⟩, h4⟩ := h
  refine ⟨?_, h2, h3, fun y hy e => ?_, fun y hy e => ?_⟩
  · split at h1
    · assumption
    · cases h1
  · have q := h4 y hy
    simp only [e] at q
    split at q <;> first | exact .inl (by assumption) | exact .inr (by assumption) | cases q
  · have q := h4 y hy
    rcases e with e | e <;> (simp only [e, Bool.or_eq_true, decide_eq_true_eq] at q; exact q)
end L2

namespace L2
open PySem PySem.Spec PyProof.Rows

section
variable {prog : Program} {w : World} {A : Around} {R : Result → Shared → Prop} {s : Shared} {elt t0 i0 t1 i1 : Expr} {ifs0 ifs1 : List Expr} {scope : Scope} {pos : Pos} {it acc : Value} {env : Env}
end

section
variable {X : Cx}
/-- [elt for tg in iter if .. for tg1 in iter1 if ..]: behind the first clause's store and tests the second source's own loop, from which Nx is reached. vs: the block's names; vs1: those of the second target -/
def tLc2 (wi : TI) (g : TG) (tt : TT) (wi1 : TI) (g1 : TG) (tt1 : TT) (te : TE) (vs vs1 : List Nat) : TE := fun σ H Q => wi σ H fun J H1 => ∀ D, H1 D = none → ∃ W : Nat → Nat → Hp → Prop, (∃ m, W 0 m (upd H1 D (.lst []))) ∧ ∀ i m H, W i m H →
  (J.stop i H ∧ Q (.ref D) H) ∨ (J.go i H ∧ ∃ Nx : Hp → Prop, (∀ H', Nx H' → ∃ m', m' < m ∧ W (i + 1) m' H') ∧ ∀ x H', J.yld i H x H' → g x (wipe σ vs) H' fun σ2 H2 => wipe σ2 vs = wipe σ vs ∧ tt σ2 H2 fun b H3 =>
    if b = true then wi1 σ2 H3 fun J1 H4 => ∃ W1 : Nat → Nat → Hp → Prop, (∃ m, W1 0 m H4) ∧ ∀ j k H, W1 j k H →
      (J1.stop j H ∧ Nx H) ∨ (J1.go j H ∧ ∃ Nx1 : Hp → Prop, (∀ H', Nx1 H' → ∃ k', k' < k ∧ W1 (j + 1) k' H') ∧ ∀ x H', J1.yld j H x H' → g1 x (wipe σ2 vs1) H' fun σ3 H5 => wipe σ3 vs1 = wipe σ2 vs1 ∧ tt1 σ3 H5 fun b H6 =>
        if b = true then te σ3 H6 fun y H7 => ∃ acc, H7 D = some (.lst acc) ∧ acc.length < sizeLine ∧ Nx1 (upd H7 D (.lst (acc ++ [y]))) else Nx1 H6)
    else Nx H3)
end
end L2

namespace L2
open PySem PySem.Spec PyProof.Rows

/-! ### lists of pairs as tables -/
section
variable {κ : Type} [DecidableEq κ]
def valV (kvs : List (κ × V)) (k : κ) : Option V := (kvs.find? fun kv => decide (kv.1 = k)).map (·.2)
/-- in its place, or at the end -/
def putK (kvs : List (κ × V)) (k : κ) (v : V) : List (κ × V) :=
  if (kvs.any fun kv => decide (kv.1 = k)) = true then kvs.map (fun kv => if kv.1 = k then (kv.1, v) else kv) else kvs ++ [(k, v)]
def dropK (kvs : List (κ × V)) (k : κ) : List (κ × V) := kvs.filter fun kv => decide (kv.1 ≠ k)

theorem valV_pos {p : κ × V} {r : List (κ × V)} {k : κ} (e : p.1 = k) : valV (p :: r) k = some p.2 := by simp [valV, List.find?_cons, e]
theorem valV_neg {p : κ × V} {r : List (κ × V)} {k : κ} (e : ¬ p.1 = k) : valV (p :: r) k = valV r k := by simp [valV, List.find?_cons, e]
theorem valV_any (k : κ) : ∀ kvs : List (κ × V), (kvs.any fun kv => decide (kv.1 = k)) = (valV kvs k).isSome
  | [] => rfl
  | p :: r => by
    rw [List.any_cons]
    by_cases e : p.1 = k
    · simp only [valV_pos e, decide_eq_true e, Bool.true_or, Option.isSome_some]
    · rw [valV_neg e, decide_eq_false e, Bool.false_or]; exact valV_any k r
theorem length_putK (kvs : List (κ × V)) (k : κ) (v : V) : (putK kvs k v).length ≤ kvs.length + 1 := by
  unfold putK
  split
  · rw [List.length_map]; omega
  · rw [List.length_append, List.length_cons, List.length_nil]; omega
theorem RelO.isSome_eq {o : Option V} {u : Option Value} (r : RelO o u) : o.isSome = u.isSome := by
  cases o with
  | none => cases u with
    | none => rfl
    | some _ => exact (show False from r).elim
  | some _ => cases u with
    | none => exact (show False from r).elim
    | some _ => rfl
theorem RelO.getD {o : Option V} {u : Option Value} {d : V} {d' : Value} (r : RelO o u) (rd : RelV d d') : RelV (o.getD d) (u.getD d') := by
  cases o with
  | none => cases u with
    | none => exact rd
    | some _ => exact (show False from r).elim
  | some _ => cases u with
    | none => exact (show False from r).elim
    | some _ => exact r

/-- raw tables of the same keys -/
theorem KV.val {kvs : List (κ × V)} {vs : List (κ × Value)} (r : KV kvs vs) (k : κ) : RelO (valV kvs k) (valueAt vs k) := by
  unfold KV at r
  induction r with
  | nil => exact True.intro
  | @cons p q ps qs h t ih =>
    obtain ⟨h1, h2⟩ := h
    by_cases e : p.1 = k
    · have e' : q.1 = k := h1.symm.trans e
      have b : valueAt (q :: qs) k = some q.2 := by simp [valueAt, List.find?_cons, e']
      rw [valV_pos e, b]; exact h2
    · have e' : ¬ q.1 = k := fun z => e (h1.trans z)
      have b : valueAt (q :: qs) k = valueAt qs k := by simp [valueAt, List.find?_cons, e']
      rw [valV_neg e, b]; exact ih
theorem KV.any {kvs : List (κ × V)} {vs : List (κ × Value)} (r : KV kvs vs) (k : κ) : (kvs.any fun kv => decide (kv.1 = k)) = vs.any fun kv => decide (kv.1 = k) := by
  unfold KV at r
  induction r with
  | nil => rfl
  | cons h t ih => rw [List.any_cons, List.any_cons, ih, h.1]
theorem KV.repl {kvs : List (κ × V)} {vs : List (κ × Value)} (r : KV kvs vs) (k : κ) {y : V} {u : Value} (ry : RelV y u) :
    KV (kvs.map fun kv => if kv.1 = k then (kv.1, y) else kv) (vs.map fun kv => if kv.1 = k then (kv.1, u) else kv) := by
  unfold KV at r ⊢
  induction r with
  | nil => exact .nil
  | @cons p q ps qs h t ih =>
    rw [List.map_cons, List.map_cons]
    refine .cons ?_ ih
    obtain ⟨h1, h2⟩ := h
    by_cases e : p.1 = k
    · rw [if_pos e, if_pos (h1.symm.trans e)]; exact ⟨h1, ry⟩
    · rw [if_neg e, if_neg (fun z => e (h1.trans z))]; exact ⟨h1, h2⟩
theorem KV.put {kvs : List (κ × V)} {vs : List (κ × Value)} (r : KV kvs vs) (k : κ) {y : V} {u : Value} (ry : RelV y u) : KV (putK kvs k y) (stored vs k u) := by
  unfold putK stored
  rw [r.any k]
  by_cases e : (vs.any fun kv => decide (kv.1 = k)) = true
  · rw [if_pos e, if_pos e]; exact r.repl k ry
  · rw [if_neg e, if_neg e]; exact Paired.snoc r ⟨rfl, ry⟩
theorem KV.drop {kvs : List (κ × V)} {vs : List (κ × Value)} (r : KV kvs vs) (k : κ) : KV (dropK kvs k) (without vs k) := by
  unfold KV at r ⊢
  unfold dropK without
  induction r with
  | nil => exact .nil
  | @cons p q ps qs h t ih =>
    obtain ⟨h1, h2⟩ := h
    rw [List.filter_cons, List.filter_cons]
    by_cases e : p.1 = k
    · have a : ¬ decide (p.1 ≠ k) = true := by simp [e]
      have b : ¬ decide (q.1 ≠ k) = true := by simp [h1.symm.trans e]
      rw [if_neg a, if_neg b]; exact ih
    · have e' : ¬ q.1 = k := fun z => e (h1.trans z)
      have a : decide (p.1 ≠ k) = true := by simp [e]
      have b : decide (q.1 ≠ k) = true := by simp [e']
      rw [if_pos a, if_pos b]; exact .cons ⟨h1, h2⟩ ih
theorem KV.keys {kvs : List (κ × V)} {vs : List (κ × Value)} (r : KV kvs vs) : kvs.map (·.1) = vs.map (·.1) := by
  unfold KV at r
  induction r with
  | nil => rfl
  | cons h t ih => rw [List.map_cons, List.map_cons, ih, h.1]
theorem KV.length {kvs : List (κ × V)} {vs : List (κ × Value)} (r : KV kvs vs) : kvs.length = vs.length := Paired.length r
end


/-! ### a tracked dict, its keys ints and texts or tuples of these -/
theorem kV_is {P : Program} {w : World} {k : Key} {u : Value} (r : RelV (kV k) u) : (mixKind P w).is k u = true := by
  cases k with
  | inl i => obtain ⟨t, e⟩ := (show ∃ t, u = Value.int i t from r); subst e; exact mixKind_int P w i t
  | inr x => obtain ⟨t, e⟩ := (show ∃ t, u = Value.str x t from r); subst e; exact mixKind_str P w x t
theorem items_are {P : Program} {w : World} : ∀ {ks : List Key} {us : List Value}, Vals (ks.map kV) us → ItemsAre (mixKind P w) ks us
  | [], _, r => by rw [List.map_nil] at r; cases r; exact .nil
  | k :: ks, _, r => by
    rw [List.map_cons] at r
    cases r with
    | cons h t => exact .cons (kV_is h) (items_are t)

/-- raw entries of a dict with tuple keys -/
abbrev KT (H : Hp) : List (List Key × V) → List (List Key × Addr × Value) → Prop := Paired fun p q => p.1 = q.1 ∧ H q.2.1 = some (.tup (p.1.map kV)) ∧ RelV p.2 q.2.2
theorem KT.val {H : Hp} {kvs : List (List Key × V)} {xs : List (List Key × Addr × Value)} (r : KT H kvs xs) (k : List Key) : RelO (valV kvs k) ((atKey xs k).map (·.2)) := by
  induction r with
  | nil => exact True.intro
  | @cons p q ps qs h t ih =>
    obtain ⟨h1, _, h2⟩ := h
    by_cases e : p.1 = k
    · have e' : q.1 = k := h1.symm.trans e
      have b : atKey (q :: qs) k = some q.2 := by simp [atKey, List.find?_cons, e']
      rw [valV_pos e, b]; exact h2
    · have e' : ¬ q.1 = k := fun z => e (h1.trans z)
      have b : atKey (q :: qs) k = atKey qs k := by simp [atKey, List.find?_cons, e']
      rw [valV_neg e, b]; exact ih
theorem KT.repl {H : Hp} {kvs : List (List Key × V)} {xs : List (List Key × Addr × Value)} (r : KT H kvs xs) (k : List Key) {y : V} {u : Value} (ry : RelV y u) :
    KT H (kvs.map fun kv => if kv.1 = k then (kv.1, y) else kv) (xs.map (putAt k u)) := by
  induction r with
  | nil => exact .nil
  | @cons p q ps qs h t ih =>
    rw [List.map_cons, List.map_cons]
    refine .cons ?_ ih
    obtain ⟨h1, h2, h3⟩ := h
    unfold putAt
    by_cases e : p.1 = k
    · rw [if_pos e, if_pos (h1.symm.trans e)]; exact ⟨h1, h2, ry⟩
    · rw [if_neg e, if_neg (fun z => e (h1.trans z))]; exact ⟨h1, h2, h3⟩
theorem KT.put {H : Hp} {kvs : List (List Key × V)} {xs : List (List Key × Addr × Value)} (r : KT H kvs xs) (k : List Key) {b : Addr} {y : V} {u : Value} (hb : H b = some (.tup (k.map kV))) (ry : RelV y u) :
    KT H (putK kvs k y) (storedH xs k b u) := by
  have e : (kvs.any fun kv => decide (kv.1 = k)) = (atKey xs k).isSome := by
    rw [valV_any, (r.val k).isSome_eq, Option.isSome_map]
  unfold putK storedH
  rw [e]
  by_cases q : (atKey xs k).isSome = true
  · rw [if_pos q, if_pos q]; exact r.repl k ry
  · rw [if_neg q, if_neg q]; exact Paired.snoc r ⟨rfl, hb, ry⟩
theorem KT.keeps {H H' : Hp} {kvs : List (List Key × V)} {xs : List (List Key × Addr × Value)} (r : KT H kvs xs) (ht : ∀ b ys, H b = some (.tup ys) → H' b = some (.tup ys)) : KT H' kvs xs :=
  Paired.mapP r fun _ _ z => ⟨z.1, ht _ _ z.2.1, z.2.2⟩

section
variable {P : Program} {w : World} {H : Hp} {h : Heap} {a : Addr}
theorem rd_of {u : HO} (ok : HOk P w H h) (e : Rd H a u) : ObjOk P w H h a u := e.ok ok
theorem dk_rd {kvs : List (Key × V)} (ok : HOk P w H h) (e : Rd H a (.dK kvs)) : kvs.length ≤ sizeLine ∧ (a == sysModules) = false ∧ ∃ vs, KV kvs vs ∧ h.DictOf (mixKind P w) a vs :=
  show ObjOk P w H h a (.dK kvs) from rd_of ok e
theorem dk_of {kvs : List (Key × V)} (ok : HOk P w H h) (e : H a = some (.dK kvs)) : kvs.length ≤ sizeLine ∧ (a == sysModules) = false ∧ ∃ vs, KV kvs vs ∧ h.DictOf (mixKind P w) a vs := dk_rd ok (.inl e)
/-- a tracked tuple of ints and texts is a key -/
theorem key_of {ks : List Key} (ok : HOk P w H h) (e : H a = some (.tup (ks.map kV))) : (tupleKind (mixKind P w)).is h ks a := by
  obtain ⟨_, its, r, o, h1, h2, n, h3⟩ := (show ObjOk P w H h a (.tup (ks.map kV)) from ok a _ e)
  exact ⟨o, its.toArray, n, h1, h2, h3, by simpa using items_are r⟩
theorem dt_rd {kvs : List (List Key × V)} (ok : HOk P w H h) (e : Rd H a (.dT kvs)) : kvs.length ≤ sizeLine ∧ (a == sysModules) = false ∧
    ∃ xs, KT H kvs xs ∧ h.DictOfH (tupleKind (mixKind P w)) a xs := by
  obtain ⟨z, y, xs, r, o, es, ep, h1, h2, h3, h4, h5⟩ := (show ObjOk P w H h a (.dT kvs) from rd_of ok e)
  refine ⟨z, y, xs, r, o, es, ep, h1, h2, h3, h4, fun x hx => ?_, h5⟩
  have all : ∀ {l : List (List Key × V)} {m : List (List Key × Addr × Value)}, KT H l m → ∀ x ∈ m, (tupleKind (mixKind P w)).is h x.1 x.2.1 := by
    intro l m q
    induction q with
    | nil => intro x hx; exact nomatch hx
    | @cons p q ps qs hq t ih =>
      intro x hx
      rcases List.mem_cons.mp hx with e | hx
      · subst e
        exact key_of ok (by rw [← hq.1]; exact hq.2.1)
      · exact ih x hx
  exact all r x hx
theorem dt_of {kvs : List (List Key × V)} (ok : HOk P w H h) (e : H a = some (.dT kvs)) : kvs.length ≤ sizeLine ∧ (a == sysModules) = false ∧
    ∃ xs, KT H kvs xs ∧ h.DictOfH (tupleKind (mixKind P w)) a xs := dt_rd ok (.inl e)
end

/-- what the dict at a holds at the key y -/
def DGet (H : Hp) (a : Addr) (y : V) (r : Option V) : Prop :=
  (∃ kvs k, Rd H a (.dK kvs) ∧ y = kV k ∧ r = valV kvs k) ∨ ∃ kvs k b, Rd H a (.dT kvs) ∧ y = .ref b ∧ H b = some (.tup (k.map kV)) ∧ r = valV kvs k
/-- the heap behind a[y] = v -/
def DPut (H : Hp) (a : Addr) (y v : V) (H' : Hp) : Prop :=
  (∃ kvs k, H a = some (.dK kvs) ∧ y = kV k ∧ kvs.length < sizeLine ∧ H' = upd H a (.dK (putK kvs k v))) ∨
  ∃ kvs k b, H a = some (.dT kvs) ∧ y = .ref b ∧ H b = some (.tup (k.map kV)) ∧ kvs.length < sizeLine ∧ H' = upd H a (.dT (putK kvs k v))
theorem DGet.k {H : Hp} {a : Addr} {kvs : List (Key × V)} {k : Key} (e : H a = some (.dK kvs)) : DGet H a (kV k) (valV kvs k) := .inl ⟨kvs, k, .inl e, rfl, rfl⟩
theorem DGet.t {H : Hp} {a b : Addr} {kvs : List (List Key × V)} {k : List Key} (e : H a = some (.dT kvs)) (eb : H b = some (.tup (k.map kV))) : DGet H a (.ref b) (valV kvs k) := .inr ⟨kvs, k, b, .inl e, rfl, eb, rfl⟩
theorem DPut.k {H : Hp} {a : Addr} {kvs : List (Key × V)} {k : Key} {v : V} (e : H a = some (.dK kvs)) (hl : kvs.length < sizeLine) : DPut H a (kV k) v (upd H a (.dK (putK kvs k v))) := .inl ⟨kvs, k, e, rfl, hl, rfl⟩
theorem DPut.t {H : Hp} {a b : Addr} {kvs : List (List Key × V)} {k : List Key} {v : V} (e : H a = some (.dT kvs)) (eb : H b = some (.tup (k.map kV))) (hl : kvs.length < sizeLine) :
    DPut H a (.ref b) v (upd H a (.dT (putK kvs k v))) := .inr ⟨kvs, k, b, e, rfl, eb, hl, rfl⟩


section
variable {X : Cx} {pins : List (Addr × Obj)} {σ : St} {H : Hp} {s : Shared} {a : Addr} {y v : V} {u r : Value} {o : Option V} {A : Around} {E : Value → Shared → Prop}

theorem Inv.big (I : Inv X pins σ H s) : sysModules < s.heap.objs.size := by
  have h : mainGlobals < s.heap.objs.size := (I.mod.glob.keeps I.bk).lt
  exact Nat.lt_trans (by decide) h

/-- d[y], there -/
theorem d_getItem {Q : Value → Shared → Prop} (hu : A.units + 1 < cLine) (I : Inv X pins σ H s) (g : DGet H a y (some v)) (ry : RelV y u) (h : ∀ w' s', Inv X pins σ H s' → RelV v w' → Q w' s') :
    wpAny (model X.prog X.w) A (getItem (.ref a) u) Q E s := by
  rcases g with ⟨kvs, k, e, ey, l⟩ | ⟨kvs, k, b, e, ey, eb, l⟩
  · subst ey
    obtain ⟨z, hd, vs, rel, dd⟩ := dk_rd I.hok e
    obtain ⟨w', hw, rw'⟩ := RelO.some_of (v := v) (o := valueAt vs k) (by rw [l]; exact rel.val k)
    exact wpAny_getItem_of (kV_is ry) dd.mapOf hw (h w' _ (I.tok _) rw')
  · subst ey
    cases (show u = Value.ref b from ry)
    obtain ⟨z, hd, xs, rel, dd⟩ := dt_rd I.hok e
    obtain ⟨w', hw, rw'⟩ := RelO.some_of (v := v) (o := (atKey xs k).map (·.2)) (by rw [l]; exact rel.val k)
    obtain ⟨p, hp, hp2⟩ := Option.map_eq_some_iff.mp hw
    refine wpAny_getItem_heap (tupleKind_room_in1 hu) (key_of I.hok eb) dd hp ?_
    rw [hp2]
    exact h w' _ (I.tok _) rw'
/-- a dict's object is replaced -/
theorem d_write {h' : Heap} {t' : Nat} {ob : HO} (I : Inv X pins σ H s) (mu : Mut (H a)) (hs : Heap.SameBut a s.heap h') (he : ∃ q, h'.get? a = some q) (new : ObjOk X.prog X.w (upd H a ob) h' a ob) :
    Inv X pins σ (upd H a ob) { s with heap := h', toks := t' } :=
  I.write (x := a) (e := a) mu (.inl rfl) (fun b q hb z => (hs.2 b hb).trans z) he new
theorem dk_new {P : Program} {w : World} {H' : Hp} {h' : Heap} {kvs : List (Key × V)} {vs : List (Key × Value)} (z : kvs.length ≤ sizeLine) (hd : (a == sysModules) = false) (rel : KV kvs vs) (dd : h'.DictOf (mixKind P w) a vs) :
    ObjOk P w H' h' a (.dK kvs) := ⟨z, hd, vs, rel, dd⟩
/-- d[y] = v -/
theorem d_setItem {H' : Hp} {Q : Unit → Shared → Prop} (hu : A.units + 1 < cLine) (I : Inv X pins σ H s) (g : DPut H a y v H') (ry : RelV y u) (rv : RelV v r) (h : ∀ s', Inv X pins σ H' s' → Q () s') :
    wpAny (model X.prog X.w) A (setItem (.ref a) u r) Q E s := by
  rcases g with ⟨kvs, k, e, ey, l, eH⟩ | ⟨kvs, k, b, e, ey, eb, l, eH⟩
  · subst ey eH
    obtain ⟨z, hd, vs, rel, dd⟩ := dk_of I.hok e
    have hz : vs.length ≤ sizeLine := by rw [← rel.length]; exact z
    have hl : (putK kvs k v).length ≤ sizeLine := by have := length_putK kvs k v; omega
    refine wpAny_setItem_pairs (hsz := hz) (kV_is ry) dd fun h' dd' hs => h _ ?_
    have he : ∃ q, h'.get? a = some q := let ⟨q, _, _, hq, _⟩ := dd'; ⟨q, hq⟩
    exact d_write I (by rw [e]; exact True.intro) hs he (dk_new hl hd (rel.put k rv) dd')
  · subst ey eH
    cases (show u = Value.ref b from ry)
    obtain ⟨z, hd, xs, rel, dd⟩ := dt_of I.hok e
    have hz : xs.length ≤ sizeLine := by rw [← Paired.length rel]; exact z
    have hl : (putK kvs k v).length ≤ sizeLine := by have := length_putK kvs k v; omega
    refine wpAny_setItem_heap (hsz := hz) (tupleKind_room_in1 hu) (key_of I.hok eb) dd fun h' dd' hs => h _ ?_
    obtain ⟨q, es, ep, hq, h2, h3, h4, _, h5⟩ := dd'
    refine d_write I (by rw [e]; exact True.intro) hs ⟨q, hq⟩ ⟨hl, hd, _, (rel.put k eb rv).keeps fun c ys ec => ?_, q, es, ep, hq, h2, h3, h4, h5⟩
    rw [upd_ne (ne_of ec e (fun z => nomatch z))]
    exact ec
end

section
variable {X : Cx} {pins : List (Addr × Obj)} {σ : St} {H : Hp} {s : Shared} {a : Addr} {kvs : List (Key × V)} {k : Key} {u : Value} {A : Around} {E : Value → Shared → Prop}
end


/-! ### readings and rules -/
/-- the element of a subscription, not a slice -/
def NoSl (i : Expr) : Prop := ∀ ov iv, subscripted i false ov iv = operate [ov, iv] (getItem ov iv)
theorem subD_of {prog : Program} {w : World} {A : Around} {E : Value → Shared → Prop} {s : Shared} {env : Env} {value slice : Expr} {pos : Pos} {T id : String} {Q : Value → Shared → Prop}
    (hl : typeLookup (.type T) "__getitem__" = pure (some (.builtin id))) (hs : NoSl slice)
    (h : wpAny (model prog w) A (eval value env) (fun o s₁ => wpAny (model prog w) A (eval slice env) (fun i s₂ => s₂.TypeIs o T ∧ wpAny (model prog w) A (getItem o i) Q E s₂) E s₁) E s) :
    wpAny (model prog w) A (eval (.Subscript value slice pos) env) Q E s := by
  refine Subscript_ (wpAny_mono h (fun o s₁ h₁ => wpAny_mono h₁ (fun i s₂ h₂ => ?_) fun _ _ x => x) fun _ _ x => x)
  obtain ⟨hT, h₂⟩ := h₂
  unfold subscriptTail
  refine wpAny_bind ?_
  rw [getitemInPython_of_ne hT.not_modules]
  refine wpAny_bind (wpAny_specialOf hT hl ?_)
  have fin : wpAny (model prog w) A (subscripted slice false o i) (fun r s₃ => wpAny (model prog w) A (letTemporaryGo value o r >>= fun _ => pure r) Q E s₃) E s₂ := by
    rw [hs o i]
    exact wpAny_operating (wpAny_mono h₂ (fun r s₃ h₃ => wpAny_bind (wpAny_letTemporaryGo (wpAny_pure h₃))) fun _ _ x => x)
  first
    | exact wpAny_pure (wpAny_bind fin)
    | exact wpAny_bind (wpAny_pure (wpAny_bind fin))
    | exact wpAny_bind fin

theorem dict_typeIs {X : Cx} {pins : List (Addr × Obj)} {σ : St} {H : Hp} {s : Shared} {a : Addr} {y : V} {o : Option V} (I : Inv X pins σ H s) (g : DGet H a y o) : s.TypeIs (.ref a) "dict" := by
  rcases g with ⟨kvs, k, e, _, _⟩ | ⟨kvs, k, b, e, _, _, _⟩
  · obtain ⟨_, _, vs, _, dd⟩ := dk_rd I.hok e
    exact dd.typeIs
  · obtain ⟨_, _, xs, _, dd⟩ := dt_rd I.hok e
    exact dd.typeIs
/-- d[y] -/
def tDGet (td ty : TE) : TE := fun σ H Q => td σ H fun x H1 => ty σ H1 fun y H2 => ∃ a v, x = .ref a ∧ DGet H2 a y (some v) ∧ Q v H2
/-- y in d, y not in d -/
def tDIn (ty td : TE) : TE := fun σ H Q => ty σ H fun y H1 => td σ H1 fun x H2 => ∃ a o, x = .ref a ∧ DGet H2 a y o ∧ Q (.bl o.isSome) H2
def tDNotIn (ty td : TE) : TE := fun σ H Q => ty σ H fun y H1 => td σ H1 fun x H2 => ∃ a o, x = .ref a ∧ DGet H2 a y o ∧ Q (.bl (!o.isSome)) H2
/-- d[y] = v -/
def sDPut (td ty tv : TE) : TS := fun D σ H => tv σ H fun v H1 => td σ H1 fun x H2 => ty σ H2 fun y H3 => ∃ a H4, x = .ref a ∧ DPut H3 a y v H4 ∧ D.nx σ H4
/-- d[y] op= v -/
def sDAug (td ty tv : TE) (rd : V → V → Hp → VK → Prop) : TS := fun D σ H => td σ H fun x H1 => ty σ H1 fun y H2 => ∃ a v, x = .ref a ∧ DGet H2 a y (some v) ∧
  tv σ H2 fun y2 H3 => rd v y2 H3 fun z H4 => ∃ H5, DPut H4 a y z H5 ∧ D.nx σ H5
/-- del d[y] -/
def sDDel (td ty : TE) : TS := fun D σ H => td σ H fun x H1 => ty σ H1 fun y H2 => ∃ a kvs k, x = .ref a ∧ H2 a = some (.dK kvs) ∧ y = kV k ∧ (valV kvs k).isSome = true ∧ D.nx σ (upd H2 a (.dK (dropK kvs k)))

section
variable {X : Cx} {o i e value : Expr} {pos pos' tpos : Pos} {td ty tv : TE}
theorem pe_dget (hu : X.A.units + 1 < cLine) (ho : PE X o td) (hi : PE X i ty) (hs : NoSl i) : PE X (.Subscript o i pos) (tDGet td ty) := by
  intro pins s σ H Q I h
  refine subD_of PySem.F.slot_dict_getitem.lookup hs (thn (ho pins s σ H _ I h) fun u s1 ⟨x, H1, I1, rx, q1⟩ => thn (hi pins s1 σ H1 _ I1 q1) fun iv s2 ⟨y, H2, I2, ry, a, v, ex, g, q2⟩ => ?_)
  subst ex
  obtain rfl : u = Value.ref a := rx
  exact ⟨dict_typeIs I2 g, d_getItem hu I2 g ry fun w' s3 I3 rw' => ⟨v, H2, I3, rw', q2⟩⟩
theorem ps_dput (hu : X.A.units + 1 < cLine) (ho : PE X o td) (hi : PE X i ty) (hv : PE X value tv) (hs : swapsWith value (some (.Subscript o i pos')) pos.line X.env = pure false) :
    PS X (.Assign [.Subscript o i pos'] value pos) (sDPut td ty tv) := by
  intro pins s σ H D I h
  refine wpAny_Assign_Subscript (thn (hv pins s σ H _ I h) fun r s1 ⟨v, H1, I1, rv, q1⟩ => thn (ho pins s1 σ H1 _ I1 q1) fun u s2 ⟨x, H2, I2, rx, q2⟩ => thn (hi pins s2 σ H2 _ I2 q2) fun iv s3 ⟨y, H3, I3, ry, a, H4, ex, g, q3⟩ => ?_) hs
  subst ex
  obtain rfl : u = Value.ref a := rx
  exact d_setItem hu I3 g ry rv fun s4 I4 => ⟨σ, H4, I4, q3⟩
end


/-! ### displays -/
theorem dk_empty {P : Program} {w : World} {H : Hp} (h : Heap) (hb : sysModules < h.objs.size) : ObjOk P w H (h.push { cls := .type "dict", data := .dict #[] }) h.objs.size (.dK []) :=
  ⟨Nat.zero_le _, beq_eq_false_iff_ne.mpr (Ne.symm (Nat.ne_of_lt hb)), [], .nil, Heap.DictOf.new h⟩
/-- {}, to be a dict of the kind that is wanted -/
def tDNewK : TE := fun _ H Q => ∀ p, H p = none → Q (.ref p) (upd H p (.dK []))
def tDNewT : TE := fun _ H Q => ∀ p, H p = none → Q (.ref p) (upd H p (.dT []))
section
variable {X : Cx} {pos : Pos}
end

/-- the pairs of a display, from the left -/
def tPairs : List (TE × TE) → St → Hp → (List (V × V) → Hp → Prop) → Prop
  | [], _, H, Q => Q [] H
  | (tk, tv) :: r, σ, H, Q => tk σ H fun x H1 => tv σ H1 fun y H2 => tPairs r σ H2 fun ps H3 => Q ((x, y) :: ps) H3
abbrev VV : List (V × V) → List (Value × Value) → Prop := Paired fun p q => RelV p.1 q.1 ∧ RelV p.2 q.2
def PPs (X : Cx) (pos : Pos) (keys : List (Option Expr)) (values : List Expr) (trs : List (TE × TE)) : Prop :=
  ∀ (pins : List (Addr × Obj)) (s : Shared) (σ : St) (H : Hp) (Q : List (V × V) → Hp → Prop), Inv X pins σ H s → tPairs trs σ H Q →
    wpAny (model X.prog X.w) X.A (evalPairs (pairTrees keys values X.env pos)) (fun vs s' => ∃ ps H', Inv X pins σ H' s' ∧ VV ps vs ∧ Q ps H') X.xe s
theorem pps_nil {X : Cx} {pos : Pos} : PPs X pos [] [] [] := fun pins s σ H Q I h => pairTrees_nil_walk ⟨[], H, I, .nil, h⟩
theorem pps_cons {X : Cx} {pos : Pos} {k v : Expr} {ks : List (Option Expr)} {vs : List Expr} {tk tv : TE} {trs : List (TE × TE)} (hk : PE X k tk) (hv : PE X v tv) (hr : PPs X pos ks vs trs) :
    PPs X pos (some k :: ks) (v :: vs) ((tk, tv) :: trs) := fun pins s σ H Q I h =>
  pairTrees_cons_walk (thn (hk pins s σ H _ I h) fun u s1 ⟨x, H1, I1, rx, q1⟩ => thn (hv pins s1 σ H1 _ I1 q1) fun w2 s2 ⟨y, H2, I2, ry, q2⟩ =>
    thn (hr pins s2 σ H2 _ I2 q2) fun ws s3 ⟨ps, H3, I3, rel, q3⟩ => ⟨(x, y) :: ps, H3, I3, .cons ⟨rx, ry⟩ rel, q3⟩)

def mergeK (kvs more : List (Key × V)) : List (Key × V) := more.foldl (fun acc kv => putK acc kv.1 kv.2) kvs
theorem KV.merge : ∀ {more : List (Key × V)} {rs : List (Key × Value)} {kvs : List (Key × V)} {vs : List (Key × Value)}, KV more rs → KV kvs vs → KV (mergeK kvs more) (merged vs rs) := by
  intro more rs kvs vs r
  unfold KV at r
  induction r generalizing kvs vs with
  | nil => intro q; exact q
  | @cons p q ps qs h t ih =>
    intro r0
    have e : KV (putK kvs p.1 p.2) (stored vs q.1 q.2) := by
      have := r0.put p.1 h.2
      rw [← h.1]; exact this
    exact ih e
theorem length_mergeK : ∀ (more kvs : List (Key × V)), (mergeK kvs more).length ≤ kvs.length + more.length
  | [], kvs => by show kvs.length ≤ kvs.length + 0; omega
  | p :: r, kvs => by
    have h1 := length_mergeK r (putK kvs p.1 p.2)
    have h2 := length_putK kvs p.1 p.2
    show (mergeK (putK kvs p.1 p.2) r).length ≤ _
    rw [List.length_cons]; omega
theorem carries_of {P : Program} {w : World} : ∀ {kvs : List (Key × V)} {ws : List (Value × Value)}, VV (kvs.map fun kv => (kV kv.1, kv.2)) ws → ∃ rs, Carries (mixKind P w) ws rs ∧ KV kvs rs
  | [], _, r => by rw [List.map_nil] at r; cases r; exact ⟨[], True.intro, .nil⟩
  | p :: kvs, _, r => by
    rw [List.map_cons] at r
    cases r with
    | @cons a b as bs h t =>
      obtain ⟨rs, c, q⟩ := carries_of (P := P) (w := w) t
      obtain ⟨b1, b2⟩ := b
      exact ⟨(p.1, b2) :: rs, ⟨kV_is h.1, rfl, c⟩, .cons ⟨rfl, h.2⟩ q⟩
/-- {k: v, ..} with keys ints and texts; the new dict stands empty while the pairs are made -/
def tDisp (trs : List (TE × TE)) : TE := fun σ H Q => ∀ p, H p = none → tPairs trs σ (upd H p (.dK [])) fun ps H2 => H2 p = some (.dK []) ∧ ∃ kvs : List (Key × V), ps = kvs.map (fun kv => (kV kv.1, kv.2)) ∧ kvs.length ≤ 15 ∧ Q (.ref p) (upd H2 p (.dK (mergeK [] kvs)))
theorem pe_disp {X : Cx} {pos : Pos} {keys : List (Option Expr)} {values : List Expr} {trs : List (TE × TE)} (h : PPs X pos keys values trs) (hall : keys.all (·.isSome) = true) (hl : keys.length = values.length) (h0 : keys ≠ [])
    (h15 : keys.length ≤ 15) : PE X (.Dict keys values pos) (tDisp trs) := by
  intro pins s σ H Q I q
  have hn := I.hok.fresh (Nat.le_refl s.heap.objs.size)
  have I1 := I.laid (a := s.heap.objs.size) (o := .dK []) (h' := s.heap.push { cls := .type "dict", data := .dict #[] }) (t' := s.toks) (fun _ _ q => Heap.get?_push_of_some _ q) (Nat.le_refl _) (dk_empty s.heap I.big)
  refine wpAny_Dict_walk (knd := mixKind X.prog X.w) hall hl h0 h15 (thn (h pins _ σ _ _ I1 (q _ hn)) fun ws s2 ⟨ps, H2, I2, rel, e, kvs, ep, lk, q2⟩ => ?_)
  subst ep
  obtain ⟨rs, c, rk⟩ := carries_of (P := X.prog) (w := X.w) rel
  obtain ⟨z, hd, vs0, r0, dd⟩ := dk_of I2.hok e
  cases r0
  refine ⟨rs, c, dd, fun h' dd' hs => ⟨.ref s.heap.objs.size, _, ?_, rfl, q2⟩⟩
  have hz : (mergeK [] kvs).length ≤ sizeLine := by
    have h1 := length_mergeK kvs []
    rw [List.length_nil] at h1
    rw [sizeLine_eq]; omega
  have he : ∃ q, h'.get? s.heap.objs.size = some q := let ⟨q, _, _, hq, _⟩ := dd'; ⟨q, hq⟩
  exact d_write I2 (by rw [e]; exact True.intro) hs he (dk_new hz hd (rk.merge .nil) dd')


/-! ### methods -/
/-- a method call o.m(e) of a built-in, with one argument: what must be seen of the text -/
structure M1 (X : Cx) (o : Expr) (m : Str) (apos : Pos) (e : Expr) (cpos : Pos) : Prop where
  base : attributeBase o m X.env (eval o X.env) = eval o X.env
  few : ((backTo cpos (starEach [e] X.env)).all (fun x => !x.1) && (backToKw cpos (keywordEach [] X.env)).all (fun x => x.1.isSome)
    && decide (([e] : List Expr).length + ([] : List Keyword).length + (if ([] : List Keyword).isEmpty then 0 else 1) < 30)) = true
  line : (apos.endLine == cpos.line) = true
  trees : backTo cpos (starEach [e] X.env) = [(false, eval e X.env)]
structure M2 (X : Cx) (o : Expr) (m : Str) (apos : Pos) (e f : Expr) (cpos : Pos) : Prop where
  base : attributeBase o m X.env (eval o X.env) = eval o X.env
  few : ((backTo cpos (starEach [e, f] X.env)).all (fun x => !x.1) && (backToKw cpos (keywordEach [] X.env)).all (fun x => x.1.isSome)
    && decide (([e, f] : List Expr).length + ([] : List Keyword).length + (if ([] : List Keyword).isEmpty then 0 else 1) < 30)) = true
  line : (apos.endLine == cpos.line) = true
  trees : backTo cpos (starEach [e, f] X.env) = [(false, eval e X.env), (false, eval f X.env)]

/-- a is a dict, whatever its keys -/
def IsD (H : Hp) (a : Addr) : Prop := (∃ kvs, Rd H a (.dK kvs)) ∨ ∃ kvs, Rd H a (.dT kvs)
section
variable {X : Cx} {pins : List (Addr × Obj)} {σ : St} {H : Hp} {s : Shared} {a : Addr} {y d : V} {u r : Value} {o : Option V} {A : Around} {E : Value → Shared → Prop}
end

def tDGet1 (td ty : TE) : TE := fun σ H Q => td σ H fun x H1 => ∃ a, x = .ref a ∧ IsD H1 a ∧ ty σ H1 fun y H2 => ∃ o, DGet H2 a y o ∧ Q (o.getD .non) H2
def tDGet2 (td ty tx : TE) : TE := fun σ H Q => td σ H fun x H1 => ∃ a, x = .ref a ∧ IsD H1 a ∧ ty σ H1 fun y H2 => tx σ H2 fun z H3 => ∃ o, DGet H3 a y o ∧ Q (o.getD z) H3
/-- d.pop(k): there; d.pop(k, x): there or not -/
def tDPop1 (td ty : TE) : TE := fun σ H Q => td σ H fun x H1 => ∃ a, x = .ref a ∧ IsD H1 a ∧ ty σ H1 fun y H2 => ∃ kvs k v, H2 a = some (.dK kvs) ∧ y = kV k ∧ valV kvs k = some v ∧ Q v (upd H2 a (.dK (dropK kvs k)))
def tDPop2 (td ty tx : TE) : TE := fun σ H Q => td σ H fun x H1 => ∃ a, x = .ref a ∧ IsD H1 a ∧ ty σ H1 fun y H2 => tx σ H2 fun z H3 => ∃ kvs k, H3 a = some (.dK kvs) ∧ y = kV k ∧
  (∀ v, valV kvs k = some v → Q v (upd H3 a (.dK (dropK kvs k)))) ∧ (valV kvs k = none → Q z H3)
section
variable {X : Cx} {o e f : Expr} {apos cpos : Pos} {td ty tx : TE}
end

/-! ### dict(d): a copy -/
section
variable {X : Cx} {pins : List (Addr × Obj)} {σ : St} {H : Hp} {s : Shared} {a : Addr} {kvs : List (Key × V)} {A : Around} {E : Value → Shared → Prop}
end


section
variable {X : Cx} {pins : List (Addr × Obj)} {σ : St} {H : Hp} {s : Shared} {a : Addr} {y : V} {u : Value} {A : Around} {E : Value → Shared → Prop}
end
end L2

namespace L2
open PySem PySem.Spec PyProof.Rows

section
variable {prog : Program} {w : World} {A : Around} {E : Value → Shared → Prop}
end

section
variable {X : Cx}
end
end L2

namespace L2
open PySem PySem.Spec PyProof.Rows

section
variable {X : Cx} {pins : List (Addr × Obj)} {σ : St} {H : Hp} {s : Shared} {h' : Heap}
/-- several records of ours have turned -/
theorem Inv.turnedL {t' : Nat} {ch : List Addr} (I : Inv X pins σ H s) (k : ∀ b o, b ∉ ch → s.heap.get? b = some o → h'.get? b = some o) (hf : ∀ b ∈ ch, FpOk X pins H b) : Inv X pins σ H { s with heap := h', toks := t' } := by
  have nit : ∀ b u, H b = some u → b ∉ ch := fun b u e z => by
    have q := (hf b z).1
    rw [q] at e; cases e
  refine I.step (g' := s.gens) (d' := s.drawn) (ch := ch) (fun b hb => ⟨(hf b hb).2.2.2.1, (hf b hb).2.1, (hf b hb).2.2.2.2.1, (hf b hb).2.2.2.2.2⟩) (fun b o _ _ hc e _ => k b o hc e) (fun b o _ _ hc e _ => ⟨o.slots, k b o hc e⟩)
    (fun _ _ _ _ n => n) (fun b o hc e => ⟨o, k b o hc e⟩) (fun _ _ e => e) (fun _ _ _ e => e) (fun b ps e => ⟨#[], by rw [e]; simp⟩) (fun m hm => ?_) (fun b u e => ?_) I.bare
  · obtain ⟨o, es, ep, ho, r⟩ := hm
    exact ⟨o, es, ep, k _ o (fun z => (hf _ z).2.1 rfl) ho, r⟩
  · refine (I.hok b u e).stay (fun c v hc q => k c v ?_ q) (fun _ q => q) fun _ _ q => q
    rcases hc with z | z
    · rw [z]; exact nit b u e
    · exact nit c _ z
/-- .. and one new object is laid -/
theorem Inv.turnedNew {t' : Nat} {ch : List Addr} {T : Addr} {ob : HO} (I : Inv X pins σ H s) (k : ∀ b o, b ∉ ch → s.heap.get? b = some o → h'.get? b = some o) (hf : ∀ b ∈ ch, FpOk X pins H b) (hT : s.heap.objs.size ≤ T)
    (new : ObjOk X.prog X.w (upd H T ob) h' T ob) : Inv X pins σ (upd H T ob) { s with heap := h', toks := t' } := by
  have hn : H T = none := I.hok.fresh hT
  have nit : ∀ b u, H b = some u → b ∉ ch := fun b u e z => by
    have q := (hf b z).1
    rw [q] at e; cases e
  refine I.step (g' := s.gens) (d' := s.drawn) (ch := ch) (fun b hb => ⟨(hf b hb).2.2.2.1, (hf b hb).2.1, (hf b hb).2.2.2.2.1, (hf b hb).2.2.2.2.2⟩) (fun b o _ _ hc e _ => k b o hc e) (fun b o _ _ hc e _ => ⟨o.slots, k b o hc e⟩)
    (fun b o _ e n => ?_) (fun b o hc e => ⟨o, k b o hc e⟩) (fun b xs e => ?_) (fun b o u e => ?_) (fun b ps e => ⟨#[], ?_⟩) (fun m hm => ?_) (fun b u e => ?_) I.bare
  · rw [upd_ne (Nat.ne_of_lt (Nat.lt_of_lt_of_le (Heap.lt_size e) hT))]; exact n
  · rw [upd_ne (ne_of_none e hn)]; exact e
  · rw [upd_ne (ne_of_none e hn)]; exact e
  · rw [upd_ne (ne_of_none e hn), e]; simp
  · obtain ⟨o, es, ep, ho, r⟩ := hm
    exact ⟨o, es, ep, k _ o (fun z => (hf _ z).2.1 rfl) ho, r⟩
  · by_cases hb : b = T
    · subst hb
      rw [upd_same] at e
      cases e
      exact new
    · rw [upd_ne hb] at e
      refine (I.hok b u e).stay (fun c v hc q => k c v ?_ q) (fun c q => by rw [upd_ne (ne_of_none q hn)]; exact q) fun c xs q => by rw [upd_ne (ne_of_none q hn)]; exact q
      rcases hc with z | z
      · rw [z]; exact nit b u e
      · exact nit c _ z

/-! ### locking a thing while a statement runs -/
end
/-- the statement runs while the thing at d is locked (read, not written); d and what stands there are the reading's choice -/
def tLock (t : TS) : TS := fun D σ H => ∃ d u, H d = some u ∧ Mut (some u) ∧ ∀ od, t ⟨fun σ' H' => H' d = some (.frz od u) ∧ D.nx σ' (upd H' d u), fun v H' => H' d = some (.frz od u) ∧ D.rt v (upd H' d u), fun σ' H' => H' d = some (.frz od u) ∧ D.bk σ' (upd H' d u), fun σ' H' => H' d = some (.frz od u) ∧ D.ct σ' (upd H' d u)⟩ σ (upd H d (.frz od u))
def tLockE (t : TE) : TE := fun σ H Q => ∃ d u, H d = some u ∧ Mut (some u) ∧ ∀ od, t σ (upd H d (.frz od u)) fun v H' => H' d = some (.frz od u) ∧ Q v (upd H' d u)
section
variable {X : Cx}
/-! ### one iterator just laid -/
end

/-! ### range with a step -/
/-- lo, lo + c, .. (n of them) -/
def Itc (lo c : Int) (n : Nat) : It := ⟨fun i _ => i < n, fun i H x H' => H' = H ∧ x = .int (lo + (i : Nat) * c), fun i _ => n ≤ i⟩
/-- range(i, j, c): small bounds, n items -/
def RgC (i j c : Int) (n : Nat) : Prop := c ≠ 0 ∧ c.natAbs < 1073741824 ∧ Builtin.Range.small i j c = true ∧ Builtin.Range.rangeSize i j c = n
theorem RgC.neg {i j : Int} (ha : -(2 ^ 62) ≤ i) (ha' : i < 2 ^ 62) (hb : -(2 ^ 62) ≤ j) (hb' : j < 2 ^ 62) : RgC i j (-1) (i - j).toNat :=
  ⟨by decide, by decide, PySem.W.small_down ha ha' hb hb', PySem.W.rangeSize_downNat i j⟩
def iRng3 (ta : TA) : TI := fun σ H R => ta σ H fun vs H1 => ∃ (i j c : Int) (n : Nat), vs = [.int i, .int j, .int c] ∧ RgC i j c n ∧ R (Itc i c n) H1
section
variable {X : Cx} {tg : Expr}
end
/-! ### reversed(list) -/
/-- the list at a (n items at the start, which the loop leaves there), from its end -/
def Itv (K : PySem.W.Frag) (a : Addr) (n : Nat) : It :=
  ⟨fun i H => i < n ∧ ∃ (xs : List V) (x : V), SqL K H a xs ∧ xs[n - 1 - i]? = some x, fun i H x H' => H' = H ∧ ∀ xs, SqL K H a xs → xs[n - 1 - i]? = some x, fun i _ => n ≤ i⟩
def iRev (K : PySem.W.Frag) (ta : TA) : TI := fun σ H R => ta σ H fun vs H1 => ∃ (a : Addr) (xs : List V), vs = [.ref a] ∧ SqL K H1 a xs ∧ R (Itv K a xs.length) H1
section
variable {X : Cx} {tg : Expr}
end

/-! ### a str -/
def Its (x : Str) : It := ⟨fun i _ => i < x.cps.size, fun i H v H' => H' = H ∧ ∃ c, x.cps[i]? = some c ∧ v = .str ⟨#[c]⟩, fun i _ => x.cps.size ≤ i⟩
def iStr (te : TE) : TI := fun σ H R => te σ H fun v H1 => ∃ x, v = .str x ∧ R (Its x) H1
/-! ### a dict's keys: any dict's entries -/
section
variable {prog : Program} {w : World} {A : Around} {E : Value → Shared → Prop} {s : Shared}
end

/-! ### a locked dict -/
section
variable {X : Cx} {pins : List (Addr × Obj)} {σ : St} {H : Hp} {s : Shared} {d : Addr} {o : Obj}
end

/-- the keys of the locked dict at d, in their order -/
def Itk (d : Addr) (o : Obj) (kvs : List (Key × V)) : It :=
  ⟨fun i H => H d = some (.frz o (.dK kvs)) ∧ i < kvs.length, fun i H x H' => H' = H ∧ ∃ k v, kvs[i]? = some (k, v) ∧ x = kV k, fun i H => H d = some (.frz o (.dK kvs)) ∧ kvs.length ≤ i⟩
/-- .. of tuple keys: the key's own tuple -/
def Itkt (d : Addr) (o : Obj) (kvs : List (List Key × V)) : It :=
  ⟨fun i H => H d = some (.frz o (.dT kvs)) ∧ i < kvs.length, fun i H x H' => H' = H ∧ ∃ (k : List Key) (v : V) (q : Addr), kvs[i]? = some (k, v) ∧ x = .ref q ∧ H q = some (.tup (k.map kV)), fun i H => H d = some (.frz o (.dT kvs)) ∧ kvs.length ≤ i⟩
/-- the values -/
def Itd (d : Addr) (o : Obj) (kvs : List (Key × V)) : It :=
  ⟨fun i H => H d = some (.frz o (.dK kvs)) ∧ i < kvs.length, fun i H x H' => H' = H ∧ ∃ k, kvs[i]? = some (k, x), fun i H => H d = some (.frz o (.dK kvs)) ∧ kvs.length ≤ i⟩
/-- the pairs, each a new tuple -/
def Iti (d : Addr) (o : Obj) (kvs : List (Key × V)) : It :=
  ⟨fun i H => H d = some (.frz o (.dK kvs)) ∧ i < kvs.length, fun i H x H' => ∃ T k v, kvs[i]? = some (k, v) ∧ x = .ref T ∧ H T = none ∧ H' = upd H T (.tup [kV k, v]), fun i H => H d = some (.frz o (.dK kvs)) ∧ kvs.length ≤ i⟩
section
variable {P : Program} {w : World} {K : PySem.W.Frag} {tg : Expr} {d : Addr} {o : Obj} {es : Array DictEntry} {ep : Nat}
end

/-! ### for k in d, d.keys(), d.values(), d.items() -/
/-- the dict is locked (tLock, or by the caller) -/
def iKeys (td : TE) : TI := fun σ H R => td σ H fun x H1 => ∃ d o, x = .ref d ∧ ((∃ kvs, H1 d = some (.frz o (.dK kvs)) ∧ R (Itk d o kvs) H1) ∨ ∃ kvs, H1 d = some (.frz o (.dT kvs)) ∧ R (Itkt d o kvs) H1)
def iVals (td : TE) : TI := fun σ H R => td σ H fun x H1 => ∃ d o kvs, x = .ref d ∧ H1 d = some (.frz o (.dK kvs)) ∧ R (Itd d o kvs) H1
def iItems (td : TE) : TI := fun σ H R => td σ H fun x H1 => ∃ d o kvs, x = .ref d ∧ H1 d = some (.frz o (.dK kvs)) ∧ R (Iti d o kvs) H1
def iKeysM (td : TE) : TI := fun σ H R => td σ H fun x H1 => ∃ d o kvs, x = .ref d ∧ H1 d = some (.frz o (.dK kvs)) ∧ R (Itk d o kvs) H1
section
variable {X : Cx} {tg e : Expr} {td : TE} {apos cpos : Pos}
end

/-! ### enumerate(list) -/
/-- the list at a as it stands at each turn, each item in a new pair -/
def Ite (K : PySem.W.Frag) (a : Addr) : It :=
  ⟨fun i H => ∃ (xs : List V) (x : V), SqL K H a xs ∧ xs[i]? = some x, fun i H v H' => ∃ T x, v = .ref T ∧ H T = none ∧ H' = upd H T (.tup [.int (i : Nat), x]) ∧ ∀ xs, SqL K H a xs → xs[i]? = some x, fun i H => ∃ xs : List V, SqL K H a xs ∧ xs.length ≤ i⟩
def iEnum (K : PySem.W.Frag) (ta : TA) : TI := fun σ H R => ta σ H fun vs H1 => ∃ a xs, vs = [.ref a] ∧ SqL K H1 a xs ∧ R (Ite K a) H1
/-! ### zip(list, list) -/
theorem boot_zip5 : bootBuiltins "zip" = some (.type "zip") := by decide +kernel
/-- the lists at a and b as they stand at each turn, the items in new pairs -/
def Itz (K : PySem.W.Frag) (a b : Addr) : It :=
  ⟨fun i H => ∃ (xs ys : List V) (x y : V), SqL K H a xs ∧ SqL K H b ys ∧ xs[i]? = some x ∧ ys[i]? = some y,
    fun i H v H' => ∃ T x y, v = .ref T ∧ H T = none ∧ H' = upd H T (.tup [x, y]) ∧ (∀ xs, SqL K H a xs → xs[i]? = some x) ∧ ∀ ys, SqL K H b ys → ys[i]? = some y,
    fun i H => ∃ xs ys : List V, SqL K H a xs ∧ SqL K H b ys ∧ (xs.length ≤ i ∨ ys.length ≤ i)⟩
theorem turn_zip {P : Program} {w : World} {K : PySem.W.Frag} {elts : List Expr} {kk : Nat} {tpos : Pos} {a b z TI TO i1 i2 : Addr} (D : ZipApart z TI TO i1 i2 a b) :
    Turn P w K (.Tuple elts kk tpos) (Itz K a b) [z, TI, TO, i1, i2] z (fun i h => IsZip h z TI TO .none ∧ IsPair h TI (.ref i1) (.ref i2) ∧ (∃ x y, IsPair h TO x y) ∧ h.IsListIter i1 a i ∧ h.IsListIter i2 b i) where
  mem := by simp
  obj := fun i h st c hc => by
    obtain ⟨hz, hTI, ⟨x, y, hTO⟩, ⟨o1, e1, _, d1⟩, ⟨o2, e2, _, d2⟩⟩ := st
    have e' : c = z ∨ c = TI ∨ c = TO ∨ c = i1 ∨ c = i2 := by simpa using hc
    rcases e' with q | q | q | q | q
    · rw [q]; exact ⟨_, hz, fun v q => nomatch q⟩
    · rw [q]; exact ⟨_, hTI, fun v q => nomatch q⟩
    · rw [q]; exact ⟨_, hTO, fun v q => nomatch q⟩
    · rw [q]; exact ⟨o1, e1, fun v q => by rw [d1] at q; cases q⟩
    · rw [q]; exact ⟨o2, e2, fun v q => by rw [d2] at q; cases q⟩
  keep := fun i h h' st k => by
    obtain ⟨hz, hTI, ⟨x, y, hTO⟩, h1, h2⟩ := st
    exact ⟨k z (by simp) _ hz, k TI (by simp) _ hTI, ⟨x, y, k TO (by simp) _ hTO⟩, h1.at fun o q => k i1 (by simp) o q, h2.at fun o q => k i2 (by simp) o q⟩
  item := by
    intro X hP hw hK hc i pins s σ H E I hf st hg
    subst hP hw hK
    obtain ⟨hz, hTI, ⟨x0, y0, hTO⟩, h1, h2⟩ := st
    obtain ⟨xs, ys, x, y, hqx, hqy, hx, hy⟩ := hg
    obtain ⟨its, rv, p, _⟩ := I.list hqx
    obtain ⟨its2, rv2, p2, _⟩ := I.list hqy
    obtain ⟨u, hu, ru⟩ := rv.get hx
    obtain ⟨u2, hu2, ru2⟩ := rv2.get hy
    have hzl : z < s.heap.objs.size := Heap.lt_size hz
    refine wpAny_pyNext_zip_item D hz hTI hTO h1 h2 p.isList p2.isList (x := u) (y := u2) (by simpa using hu) (by simpa using hu2) fun h' z' TO' h1' h2' hT hsz hk => ?_
    refine ⟨_, rfl, wpAny_letOwnedTupleGo_zip (s := { s with heap := h' }) z' fun h'' z'' sb => ?_⟩
    have hT2 : h''.get? s.heap.objs.size = some { cls := .type "tuple", data := .seq #[u, u2] } := (sb.2 _ (Nat.ne_of_gt hzl)).trans hT
    have new : ObjOk X.prog X.w (upd H s.heap.objs.size (.tup [x, y])) h'' s.heap.objs.size (.tup [x, y]) :=
      ⟨by show 2 ≤ sizeLine; decide, [u, u2], .cons ru (.cons ru2 .nil), ⟨_, hT2, rfl, _, rfl⟩⟩
    have I1 : Inv X pins σ (upd H s.heap.objs.size (.tup [x, y])) { s with heap := h'' } :=
      I.turnedNew (t' := s.toks) (ch := [z, TI, TO, i1, i2]) (fun c o hb q => (sb.2 c (fun q' => hb (by simp [q']))).trans (hk c o (fun q' => hb (by simp [q'])) (fun q' => hb (by simp [q'])) (fun q' => hb (by simp [q'])) (fun q' => hb (by simp [q'])) q)) hf (Nat.le_refl _) new
    refine ⟨.ref s.heap.objs.size, _, I1, rfl, ⟨_, x, y, rfl, I.hok.fresh (Nat.le_refl _), rfl, fun l hl => by rw [I.list_inj hl hqx]; exact hx, fun l hl => by rw [I.list_inj hl hqy]; exact hy⟩, ⟨z'', ?_, ⟨u, u2, ?_⟩, ?_, ?_⟩, fun c hcm => ?_⟩
    · exact (sb.2 _ D.TIz).trans (hk _ _ D.TIz D.TITO D.TIi1 D.TIi2 hTI)
    · exact (sb.2 _ D.TOz).trans TO'
    · exact h1'.at fun o q => (sb.2 _ D.i1z).trans q
    · exact h2'.at fun o q => (sb.2 _ D.i2z).trans q
    · have hlt : c < s.heap.objs.size := by
        have e' : c = z ∨ c = TI ∨ c = TO ∨ c = i1 ∨ c = i2 := by simpa using hcm
        rcases e' with q | q | q | q | q
        · rw [q]; exact hzl
        · rw [q]; exact Heap.lt_size hTI
        · rw [q]; exact Heap.lt_size hTO
        · rw [q]; obtain ⟨_, e1, _⟩ := h1; exact Heap.lt_size e1
        · rw [q]; obtain ⟨_, e2, _⟩ := h2; exact Heap.lt_size e2
      rw [upd_ne (Nat.ne_of_lt hlt)]
      exact (hf c hcm).1
  done := by
    intro X hP hw hK hc i pins s σ H E I hf st hg
    subst hP hw hK
    obtain ⟨hz, hTI, ⟨x0, y0, hTO⟩, h1, h2⟩ := st
    obtain ⟨xs, ys, hqx, hqy, hend⟩ := hg
    obtain ⟨its, rv, p, _⟩ := I.list hqx
    obtain ⟨its2, rv2, p2, _⟩ := I.list hqy
    have l1 := rv.length
    have l2 := rv2.length
    have he : its.toArray[i]? = none ∨ its2.toArray[i]? = none := by
      rcases hend with q | q
      · exact .inl (by simp; omega)
      · exact .inr (by simp; omega)
    exact wpAny_pyNext_zip_end (I.ok.hd hc) D hz hTI hTO h1 h2 p.isList p2.isList he fun h' hk => ⟨rfl, I.turnedL (t' := s.toks) (ch := [z, TI, TO, i1, i2]) (fun c o hb q =>
      hk c o (fun q' => hb (by simp [q'])) (fun q' => hb (by simp [q'])) (fun q' => hb (by simp [q'])) (fun q' => hb (by simp [q'])) q) hf⟩
  self := fun A i s Q E st h => wpAny_pyIter_zip st.1 h
def iZip (K : PySem.W.Frag) (ta : TA) : TI := fun σ H R => ta σ H fun vs H1 => ∃ a b xs ys, vs = [.ref a, .ref b] ∧ SqL K H1 a xs ∧ SqL K H1 b ys ∧ R (Itz K a b) H1
theorem pi_zip {X : Cx} {e e2 : Expr} {ta : TA} {p pos tpos : Pos} {elts : List Expr} {kk : Nat} (hg : Gl X "zip") (hm : X.mg "zip" = none) (ha : PA X [e, e2] ta)
    (hs : starEach [e, e2] X.env = (false, eval e X.env) :: starEach [e2] X.env := by rfl) (hpl : (backTo pos (starEach [e2] X.env)).any (·.1) = false := by rfl) :
    PI X (.Tuple elts kk tpos) (.Call (.Name "zip" p) [e, e2] [] pos) (iZip X.K ta) := by
  intro pins s σ H R I h
  refine Call_ (ld_blt I hg hm boot_zip5 (PyProof.Rows.callWith_type1 (thn (ha pos pins s σ H _ I h) fun us s1 ⟨vs, H1, I1, r1, q1⟩ => ?_) hs hpl))
  obtain ⟨a, b, xs, ys, ex, hqx, hqy, q⟩ := q1
  subst ex
  cases r1 with
  | cons r rr =>
    cases rr with
    | cons r' rr =>
      cases rr
      cases r
      cases r'
      obtain ⟨its, rv, p1, _⟩ := I1.list hqx
      obtain ⟨its2, rv2, p2, _⟩ := I1.list hqy
      have la : a < s1.heap.objs.size := p1.lt
      have lb : b < s1.heap.objs.size := p2.lt
      refine call_zip_2 p1.isList p2.isList fun h' hz hTI hTO h1 h2 hsz hk => wpAny_pyIter_zip hz ?_
      have I2 : Inv X pins σ H1 { s1 with heap := h' } := I1.kept (t' := s1.toks) hk
      refine ⟨s1.heap.objs.size + 4, [s1.heap.objs.size + 4, s1.heap.objs.size + 2, s1.heap.objs.size + 3, s1.heap.objs.size, s1.heap.objs.size + 1], _, _, H1, rfl, I2, turn_zip (PySem.W.ktu_apart s1.heap.objs.size a b la lb), ⟨hz, hTI, ⟨_, _, hTO⟩, h1, h2⟩, fun c hcm => ?_, q⟩
      have e' : c = s1.heap.objs.size + 4 ∨ c = s1.heap.objs.size + 2 ∨ c = s1.heap.objs.size + 3 ∨ c = s1.heap.objs.size ∨ c = s1.heap.objs.size + 1 := by simpa using hcm
      have hle : s1.heap.objs.size ≤ c := by
        rcases e' with z | z | z | z | z
        · rw [z]; exact Nat.le_add_right _ _
        · rw [z]; exact Nat.le_add_right _ _
        · rw [z]; exact Nat.le_add_right _ _
        · rw [z]; exact Nat.le_refl _
        · rw [z]; exact Nat.le_add_right _ _
      exact I1.fpOk hle (I1.hok.fresh hle)
end L2

section 
namespace Bits
open PySem PyProof.Rows

end Bits
end 

section 
namespace TL
open PySem PySem.Builtin PySem.Builtin.Str PySem.StrLaws

abbrev tl (x : Str) : List Nat := x.cps.toList
theorem len_tl (x : Str) : x.length = (tl x).length := by simp [tl, Str.length]
/-! ### the list functions -/
/-- S stands at the head of l -/
def pre (S l : List Nat) : Bool := l.take S.length == S
/-- l cut at each S from the left; k signs are still to be passed over -/
def spl (S : List Nat) : Nat → List Nat → List Nat → List (List Nat)
  | _, acc, [] => [acc]
  | 0, acc, c :: r => if pre S (c :: r) = true then acc :: spl S (S.length - 1) [] r else spl S 0 (acc ++ [c]) r
  | k + 1, acc, _ :: r => spl S k acc r
/-- what stands before the first S, and behind it -/
def par (S : List Nat) : List Nat → List Nat → Option (List Nat × List Nat)
  | _, [] => none
  | acc, c :: r => if pre S (c :: r) = true then some (acc, (c :: r).drop S.length) else par S (acc ++ [c]) r

/-! ### the model's split and partition are these -/
theorem len1 {y : Str} (hy : tl y ≠ []) : 1 ≤ y.length := by
  have e2 : 0 < (tl y).length := List.length_pos_iff.mpr hy
  rw [len_tl y]
  exact e2
/-! ### computing spl and par -/
/-- joined lists -/
def joinL (S : List Nat) : List (List Nat) → List Nat
  | [] => []
  | [p] => p
  | p :: q :: r => p ++ (S ++ joinL S (q :: r))
/-! ### digits -/
/-- the signs of a number -/
def numL (n : Nat) : List Nat := (Nat.toDigits 10 n).map Char.toNat
/-! ### words: x.split() -/
def wstep (st : List (List Nat) × List Nat) (c : Nat) : List (List Nat) × List Nat :=
  if Unicode.isSpace c = true then (if st.2 = [] then st else (st.1 ++ [st.2], [])) else (st.1, st.2 ++ [c])
def wfin (st : List (List Nat) × List Nat) : List (List Nat) := if st.2 = [] then st.1 else st.1 ++ [st.2]
end TL
end 

namespace L2
open PySem PySem.Spec PyProof.Rows

/-- a new list of texts, tracked -/
def rNewStrs (ys : List Str) : Hp → VK → Prop := fun H Q => ∀ p, H p = none → Q (.ref p) (upd H p (.lst (ys.map V.str)))

section
variable {X : Cx} {pins : List (Addr × Obj)} {σ : St} {H : Hp} {s : Shared} {Q : VK}
end

section
variable {X : Cx}

/-! ### of a text alone -/
/-! ### of a text and a text -/
end

section
variable {X : Cx} {o e : Expr} {to te : TE}
def tM0 (r : V → List V → Hp → VK → Prop) (to : TE) : TE := fun σ H Q => to σ H fun x H1 => (∃ a, x = .str a) ∧ r x [] H1 Q
def tM1 (r : V → List V → Hp → VK → Prop) (to te : TE) : TE := fun σ H Q => to σ H fun x H1 => (∃ a, x = .str a) ∧ te σ H1 fun y H2 => r x [y] H2 Q
end
end L2

namespace L2
open PySem PySem.Spec PyProof.Rows

section
variable {X : Cx}
theorem op_gt_str : OpR X (compareOp .Gt) (fun x y H Q => ∃ i j, x = .str i ∧ y = .str j ∧ Q (.bl (decide (j.cps.toList < i.cps.toList))) H) := by
  intro pins s σ H x y v u Q I rx ry h
  obtain ⟨i, j, rfl, rfl, q⟩ := h
  obtain ⟨t, rfl⟩ := rx
  obtain ⟨t', rfl⟩ := ry
  exact PySem.P.gt_str (fin_bl I q rfl)
end

/-! ### slices of a text -/
theorem IsPart.raw {v : Value} {o : Option Int} (p : IsPart v o) : ∃ l : Option (Int × Tok), v = partValue l ∧ l.map (·.1) = o := by
  cases p with
  | none => exact ⟨none, rfl, rfl⟩
  | int i t => exact ⟨some (i, t), rfl, rfl⟩

/-- a part, clipped, as the text's slice reckons it -/
def clipS (n d : Nat) : Option Int → Int
  | none => (d : Int)
  | some i => max 0 (min (if i < 0 then i + (n : Int) else i) (n : Int))
/-- z[lo:hi] -/
def cutS (z : Str) (lo hi : Option Int) : Str :=
  ⟨((z.cps.toList.drop (HT.sIx z.length 0 lo)).take (HT.sIx z.length z.length hi - HT.sIx z.length 0 lo)).toArray⟩
def rSlS : V → Option Int → Option Int → Hp → VK → Prop := fun x lo hi H Q => ∃ z, x = .str z ∧ z.length ≤ sizeLine ∧ Q (.str (cutS z lo hi)) H
end L2

namespace Att
open PySem PySem.W PySem.Calls PyProof.Rows

/-! ### the script -/
theorem ints_of_wellAll {P : Params} {h : Heap} : ∀ (ns : List Int) (vs : List Value), WellAll P h vs (ns.map WData.int) → IntsAre vs ns := by
  intro ns
  induction ns with
  | nil =>
    intro vs w
    rw [List.map_nil] at w
    cases w
    exact .nil
  | cons n ns ih =>
    intro vs w
    rw [List.map_cons] at w
    cases w with
    | cons a b =>
      cases a
      exact .cons _ _ (ih _ b)

theorem script_of {l : OpenLaw} {n : Nat} (hn : l.most = some n) {P : Params} {h : Heap} {args : List WData} {vals : List Value}
    (hpre : l.row.toRowW.claim.pre args = true) (hwl : WellAll P h vals args) :
    ∃ a vs ns, vals = [Value.ref a] ∧ args = [WData.list (ns.map WData.int)] ∧ h.get? a = some { cls := .type "list", data := .seq vs.toArray } ∧ IntsAre vs ns ∧ ns.length ≤ n := by
  have hsh : WShape.hasAll [] args [.list .int] = true := (pre_splitW hpre).1
  have hc : l.pre.holds [] { args := args } = true := (pre_splitW hpre).2
  obtain ⟨d, r, rfl, h1, h2⟩ := hasAllW_cons hsh
  obtain rfl := hasAllW_nil h2
  obtain ⟨xs, rfl, h3⟩ := hasW_list h1
  obtain ⟨ns, rfl⟩ := items_int h3
  have hlen : ns.length ≤ n := by
    unfold OpenLaw.pre at hc
    have h4 : (WTm.not (.lt (.lit (.int (n : Int))) (.len (.arg 0)))).holds [] { args := [.list (ns.map .int)] } = true := by
      have h4 := (holds_andW hc).1
      rw [hn] at h4
      exact h4
    have h5 := condW_of h4 (w_not (w_lt w_lit (w_len_list (w_arg rfl))))
    rw [List.length_map] at h5
    refine Nat.le_of_not_lt fun q => ?_
    have q' : (n : Int) < ((ns.length : Nat) : Int) := by omega
    first
      | (rw [decide_eq_true q'] at h5; exact absurd h5 (by decide))
      | (simp at h5; omega)
  cases hwl with
  | cons w1 w2 =>
    cases w2
    cases w1 with
    | list ho hall => exact ⟨_, _, ns, rfl, rfl, ho, ints_of_wellAll ns _ hall, hlen⟩

theorem post_true (l : OpenLaw) (args : List WData) : l.row.toRowW.claim.post args (.bool true) args = true :=
  postW_of (r := l.row.toRowW) (X := (true == true))
    (show WShape.has [] (.bool true) .bool = true by first | rfl | decide | simp [WShape.has, WShape.arms, WShape.armsAll])
    (show (WTm.eq .res (.lit (.bool true))).value [] { args := args, res := some (.bool true), after := args } = some (.bool (true == true)) from w_eq_bool (w_res rfl) w_lit) rfl

/-! ### the attachment: holds_open's last premise (the goal 'hc' behind k_head) from a wpAny of the law's body -/
/-- the same from a codeAny of the CALL (for a layer whose function contracts speak of calls) -/
theorem attach_call {l : OpenLaw} {n : Nat} {q : Program} {loose : List Str} {XP : (Str → Option Value) → Heap → Prop} {YP : World → Heap → Prop} {d : DefRec}
    (hn : l.most = some n) (hdf : d.params.defaults = [])
    (call : ∀ (w : World) (s₀ s₁ : Shared) (mg mb : Str → Option Value) (fa : Addr) (o : Obj) (pm cd doc : Value) (a : Addr) (vs : List Value) (ns : List Int),
      Ground q loose [] XP w s₀ mg mb s₁.heap → YP w s₁.heap →
      s₁.heap.get? fa = some o → o.data = .func (docDef d.name d.params d.body d.scope pm cd doc) → s₁.heap.CodeRec cd d.name → mg d.name = some (.ref fa) →
      s₁.heap.get? a = some { cls := .type "list", data := .seq vs.toArray } → IntsAre vs ns → ns.length ≤ n → s₁.gens = #[] →
      codeAny (model l.prog w) callerA (.call (.ref fa) ⟨[.ref a], []⟩) (fun r s' => r = .ok (.ret (.bool true)) ∧ OldK s₁.heap s'.heap ∧ s'.os = s₁.os ∧ AllBare s'.gens) s₁) :
    WalkO q loose XP YP l.row.toRowW d [] (fun f vs => PySem.call f vs) := by
  intro w s₀ s₁ mg mb G Y fa o pm cd doc dV kV ho hd hcd hD hmg hg args vals as hpre hlay hrd hwl hlo
  obtain rfl : dV = .none := Dflts.none hD hdf
  obtain rfl : kV = .none := Dflts.noKw hD
  obtain ⟨a, vs, ns, rfl, rfl, hobj, hints, hlen⟩ := script_of hn hpre hwl
  refine enter_call (codeAny_mono (call w s₀ s₁ mg mb fa o pm cd doc a vs ns G Y ho (fd_plain hd) hcd hmg hobj hints hlen hg) fun r s' hq => ?_)
  obtain ⟨rfl, h2, h3, h4⟩ := hq
  exact ⟨.inl ⟨.bool true, .bool true, [], rfl, fun _ => rfl, .bool true, post_true l _, fun _ => ⟨List.Pairwise.nil, fun _ hm => (nomatch hm)⟩⟩, h2, h3, h4⟩

/-! ### rules over ANY heap (no ledger) from facts about the written part K: the library's own take a ledger (News) for what they write -/
section
variable {prog : Program} {w : World} {A : Around} {E : Value → Shared → Prop} {s : Shared} {K : Frag}

/-! the whole heap as the ledger: makes every rule that writes through a ledger a rule over any heap -/
def noObjs (h : Heap) : Heap := { h with objs := #[] }
def ledger (h : Heap) (L d : Addr) : List (Addr × Obj) := (List.range h.objs.size).filterMap fun a => if a = L ∨ a = d then none else (h.get? a).map fun o => (a, o)
end
end Att

namespace L2
open PySem PySem.Spec PyProof.Rows

theorem vals_ints : ∀ {vs : List Value} {ns : List Int}, IntsAre vs ns → Vals (ns.map V.int) vs
  | _, _, .nil => .nil
  | _, _, .cons n t h => .cons ⟨t, rfl⟩ (vals_ints h)

/-- nothing is tracked but the script, known to the object (or it is an object of the module) -/
def Only (H : Hp) : Prop := ∀ b, H b = none ∨ ∃ o xs, H b = some (.frz o (.lst xs))

/-- THE HEAD: the law's promise, at the heap behind the top. F, the promise of the law's def, may use that base is part of the heap (so K.In base, base.Ns mainGlobals mg stand in Mod) -/
theorem law_call {P : Program} {w : World} {K : PySem.W.Frag} {mg mb : Str → Option Value} {CX : CXT} {k : Nat} {fa a : Addr} {fd : FuncData} {x : Str} {sp : Sp} {s₁ : Shared} {vs : List Value} {ns : List Int}
    (KX : K.In s₁.heap) (hns : s₁.heap.Ns mainGlobals mg) (hb : s₁.heap.Ns builtinsNs mb) (hbb : ∀ x : Str, x ≠ "__name__" → mb x = bootBuiltins x) (hlim : s₁.heap.NoLimit) (hg : s₁.gens = #[])
    (ha : s₁.heap.get? a = some { cls := .type "list", data := .seq vs.toArray }) (hi : IntsAre vs ns) (hl : ns.length ≤ sizeLine) (hr : Room k callerA)
    (F : ∀ base : Heap, K.In base → base.Ns mainGlobals mg → FnOk P w K mg base CX k fa fd [x] sp) (hbind : ∀ (s : Shared) (u : Value), BindsTo s fd ⟨[u], []⟩ [(x, u)])
    (hsp : ∀ H : Hp, Only H → SqL K H a (ns.map V.int) → sp [.ref a] H (fun v _ => v = .bl true) fun _ _ _ => False)
    (hCX : ∀ H e s', CX [] H s₁ (fun _ _ _ => False) e s' → False) :
    codeAny (model P w) callerA (.call (.ref fa) ⟨[.ref a], []⟩) (fun r s' => r = .ok (.ret (.bool true)) ∧ OldK s₁.heap s'.heap ∧ s'.os = s₁.os ∧ AllBare s'.gens) s₁ := by
  have rv := vals_ints hi
  have lenV := hi.length
  -- from an abstract heap in which nothing but the script may be tracked
  have core : ∀ H : Hp, Only H → SqL K H a (ns.map V.int) → HOk P w H s₁.heap → (∀ b, H b ≠ none → b = a) → (H a ≠ none → K.lookup a = none) →
      codeAny (model P w) callerA (.call (.ref fa) ⟨[.ref a], []⟩) (fun r s' => r = .ok (.ret (.bool true)) ∧ OldK s₁.heap s'.heap ∧ s'.os = s₁.os ∧ AllBare s'.gens) s₁ := by
    intro H hO hS hok hA hK
    have base_of : ∀ {b : Addr} {o : Obj}, s₁.heap.get? b = some o → H b = none → (hidT s₁.heap H).get? b = some o := fun e n => hidT_get e n
    have noA : ∀ {b : Addr} {o : Obj} {es : Array DictEntry} {ep : Nat}, s₁.heap.get? b = some o → o.data = .dict es ep → H b = none := fun {b o es ep} e d => by
      cases q : H b with
      | none => rfl
      | some u =>
        have e' : b = a := hA b (by rw [q]; simp)
        subst e'
        rw [ha] at e; cases e
        have d' : Data.seq vs.toArray _ = Data.dict es ep := d
        cases d'
    have nsK : ∀ {b : Addr} {m : Str → Option Value}, s₁.heap.Ns b m → (hidT s₁.heap H).Ns b m := fun {b m} ⟨o, es, ep, e, d, r⟩ => ⟨o, es, ep, base_of e (noA e d), d, r⟩
    have hKb : K.In (hidT s₁.heap H) := fun b o e => base_of (KX b o e) (by
      cases q : H b with
      | none => rfl
      | some u =>
        have e' : b = a := hA b (by rw [q]; simp)
        subst e'
        rw [hK (by rw [q]; simp)] at e; cases e)
    have hM : Mod K mg (hidT s₁.heap H) := ⟨hKb, nsK hns, ⟨mb, nsK hb, hbb⟩, let ⟨mc, h1, h2⟩ := hlim; ⟨mc, nsK h1, h2⟩⟩
    have e0 : Env0 P w K mg (hidT s₁.heap H) callerA [] s₁ H := ⟨rfl, hM, fun b o e => of_hidT e, Nat.le_of_eq (hidT_size _ _), trivial, fun b hb => absurd (show b ∈ ([] : List Addr) from hb) (by simp), hok, .of_eq hg⟩
    refine codeAny_mono ((F _ hKb (nsK hns)).run callerA [] s₁ H ⟨[.ref a], []⟩ [.ref a] [.ref a] _ _ hr e0 (hbind s₁ (.ref a)) (.cons rfl .nil) (hsp H hO hS)) fun r s' h => ?_
    cases r with
    | error e => exact (hCX H e s' h).elim
    | ok fl =>
      cases fl with
      | next => exact False.elim h
      | brk => exact False.elim h
      | cont => exact False.elim h
      | ret u =>
        obtain ⟨v, H', os, bare, un, hok', r', q⟩ := h
        have q' : v = .bl true := q
        subst q'
        obtain rfl : u = Value.bool true := r'
        refine ⟨rfl, OldK.of_keep fun b o e => ?_, os, bare⟩
        cases q : H b with
        | none => exact un.keep b o e q (by intro z; exact absurd (show b ∈ ([] : List Addr) from z) (by simp)) (by simp)
        | some u =>
          rcases hO b with z | ⟨ob, xs, z⟩
          · rw [q] at z; cases z
          · have z2 := un.frzs b ob _ z
            obtain ⟨e1, _⟩ := hok b _ z
            obtain ⟨e2, _⟩ := hok' b _ z2
            rw [e] at e1; cases e1
            exact e2
  cases hk : K.lookup a with
  | some o =>
    -- the script is one of the module's own objects
    have e := KX a o hk
    rw [ha] at e
    cases e
    refine core (fun _ => none) (fun _ => .inl rfl) (.inr ⟨_, vs.toArray, _, hk, rfl, rfl, rfl, by rw [List.size_toArray, lenV]; exact hl, by simpa using rv⟩) (fun b u z => by have z' : (none : Option HO) = some u := z; cases z') (fun b z => absurd rfl z) fun z => absurd rfl z
  | none =>
    refine core (fun b => if b = a then some (.frz { cls := .type "list", data := .seq vs.toArray } (.lst (ns.map V.int))) else none) (fun b => ?_) (.inl (.inr ⟨{ cls := .type "list", data := .seq vs.toArray }, if_pos rfl⟩)) (fun b u z => ?_) (fun b z => ?_) fun _ => hk
    · by_cases hb : b = a
      · exact .inr ⟨_, _, if_pos hb⟩
      · exact .inl (if_neg hb)
    · by_cases hb : b = a
      · have z' := (if_pos hb).symm.trans z
        cases z'
        subst hb
        exact ⟨ha, by rw [List.length_map]; exact hl, vs, _, rv, ha⟩
      · have z' := (if_neg hb).symm.trans z
        cases z'
    · by_cases hb : b = a
      · exact hb
      · exact absurd (if_neg hb) z
end L2

namespace L2
open PySem PySem.Spec PyProof.Rows

abbrev KOf {K : PySem.W.Frag} {h : Heap} (_ : K.In h) : PySem.W.Frag := K

/-- the goal that k_head leaves (case hc), from the law's promise. F gives the function object fd (K's own) once, then the promise over every base -/
theorem walk_of {l : PySem.W.OpenLaw} {n k : Nat} {q : Program} {loose : List Str} {XP : (Str → Option Value) → Heap → Prop} {YP : World → Heap → Prop} {d : DefRec} {K : Params → PySem.W.Frag} {CX : World → CXT} {sp : World → Sp} {x : Str}
    (hn : l.most = some n) (hn2 : n ≤ sizeLine) (hdf : d.params.defaults = []) (hr : Room k callerA)
    (hY : ∀ (w : World) (h : Heap), YP w h → (K w.params).In h)
    (F : ∀ (w : World) (mg : Str → Option Value) (fa : Addr) (h : Heap), (K w.params).In h → h.Ns mainGlobals mg → mg d.name = some (.ref fa) →
      ∃ fd : FuncData, (∀ (s : Shared) (u : Value), BindsTo s fd ⟨[u], []⟩ [(x, u)]) ∧
        ∀ base : Heap, (K w.params).In base → base.Ns mainGlobals mg → FnOk l.prog w (K w.params) mg base (CX w) k fa fd [x] (sp w))
    (hsp : ∀ (w : World) (H : Hp) (a : Addr) (ns : List Int), ns.length ≤ n → Only H → SqL (K w.params) H a (ns.map V.int) → sp w [.ref a] H (fun v _ => v = .bl true) fun _ _ _ => False)
    (hCX : ∀ (w : World) (H : Hp) (s : Shared) (e : Value) (s' : Shared), CX w [] H s (fun _ _ _ => False) e s' → False) :
    PySem.W.WalkO q loose XP YP l.row.toRowW d [] (fun f vs => PySem.call f vs) := by
  refine Att.attach_call hn hdf fun w s₀ s₁ mg mb fa o pm cd doc a vs ns G Y ho hd hcd hmg hobj hints hlen hg => ?_
  have KX := hY w _ Y
  obtain ⟨fd, hb, hF⟩ := F w mg fa _ KX G.T.g hmg
  exact law_call KX G.T.g G.T.b G.T.builtins G.T.nolimit hg hobj hints (Nat.le_trans hlen hn2) hr hF hb (fun H hO hS => hsp w H a ns hlen hO hS) fun H e s' => hCX w H s₁ e s'
end L2

/- THE LAST THEOREM (shape; LID, My.* are yours):
   My.Adr: a structure of the addresses that your layer names (classes, functions); My.Txt K t: a structure (Prop) of the equations over K;
   My.txt_mk : {K} {implicit addresses ..} (e1 : nsIn K mainGlobals "law" = some (some (.ref f))) (e2 : K.lookup f = some ⟨oc, od, .func (fnOf "law" "law" params body scope dV kV doc pm an cdv ct), sl⟩) (e3 : codeIn K cdv "law" = true) .. : ∃ t, My.Txt K t

set_option maxRecDepth 100000 in
set_option maxHeartbeats 0 in
theorem PySem.Challenge.cw_LID_holds : PySem.Challenge.rw_LID.Holds := by
  w_on; o_law; k_head; (case hw => w_witness2)
  k_fill
  refine L2.walk_of (l := PySem.Challenge.rw_LID) (n := 63) (k := 40) (x := "script") (CX := fun w => ..) (sp := fun _ => My.sp_law) rfl (by decide) rfl ⟨rfl, by decide, by decide⟩ (fun w h Y => PySem.W.kIn_of Y) ?F ?S ?C
  case F =>
    intro w mg fa h KX G hmg
    have T : ∃ t, My.Txt (L2.KOf KX) t := by
      dsimp only [L2.KOf]                          -- K must stand as «<heap const> w.params» for k_is
      refine' My.txt_mk ?e1 ?e2 ?e3 ..
      (case e1 => PySem.W.k_is)                    -- in the order: a name -> its address -> its object -> its parts
      (case e2 => PySem.W.k_is)
      ..
    obtain ⟨t, T⟩ := T
    have e0 := hmg.symm.trans (PySem.W.mg_of KX G T.law)
    cases e0                                       -- fa is the law's own address
    exact ⟨_, fun s u => .of_eq rfl, fun base kb nb => My.law_fn T kb nb⟩     -- if «.of_eq rfl» comes too early: refine' ⟨_, ?b, fun base kb nb => My.law_fn T kb nb⟩; exact fun s u => .of_eq rfl
  case S => exact fun w H a ns hl hO hS => ..
  case C => exact ..
(the tactic k_is has no namespace: write k_is) -/

/-! SHORT WORDS over the layer: a def of the text, its body, what a loop and a test want. -/
namespace L2
open PySem PySem.Spec PyProof.Rows

/-! ### the text by places -/
/-- the j-th statement of a class's body -/
def inClass (s : Stmt) (j : Nat) : Stmt := match s with
  | .ClassDef _ _ _ body _ _ _ _ _ _ _ => body.getD j (.Pass ⟨0, 0, 0, 0⟩)
  | _ => .Pass ⟨0, 0, 0, 0⟩
def defArgs (s : Stmt) : Arguments := match s with
  | .FunctionDef _ a _ _ _ _ _ _ _ _ => a
  | _ => { posonlyargs := [], args := [], vararg := none, kwonlyargs := [], kw_defaults := [], kwarg := none, defaults := [] }
def defBody (s : Stmt) : List Stmt := match s with
  | .FunctionDef _ _ b _ _ _ _ _ _ _ => b
  | _ => []
def defScope (s : Stmt) : Scope := match s with
  | .FunctionDef _ _ _ _ _ _ sc _ _ _ => sc
  | _ => { kind := .function, names := [], isGenerator := false, isCoroutine := false }

/-! ### no exception leaves a def -/
abbrev CX0 : CXT := fun _ _ _ _ _ _ => False
abbrev E0 : XK := fun _ _ _ => False
theorem pass0 {X : Cx} : Passes CX0 X E0 := fun _ _ _ _ _ _ _ h => h.elim

/-! ### a def (or method) of the text as it stands behind the top -/
structure Fun (K : PySem.W.Frag) (x qual : Str) (st : Stmt) (f : Addr) (fd : FuncData) : Prop where
  ex : ∃ (oc : Value) (od : Option Addr) (kV doc pm : Value) (an : Option Addr) (cdv ct : Value) (osl : Array (Option Value)),
    fd = PySem.W.fnOf x qual (defArgs st) (defBody st) (defScope st) .none kV doc pm an cdv ct ∧ K.lookup f = some ⟨oc, od, .func fd, osl⟩ ∧ PySem.W.codeIn K cdv qual = true
  kp : PySem.W.keepIn K (.ref f) = true
section
variable {P : Program} {w : World} {K : PySem.W.Frag} {mg : Str → Option Value} {base : Heap}
/-- THE RULE for a def: its body as a term of rules, and the reading of that term -/
theorem Fun.ok {x qual : Str} {st : Stmt} {f : Addr} {fd : FuncData} {N ps : List Str} {k : Nat} {sp : Sp} (F : Fun K x qual st f fd) (S : FnScope N ps (defScope st)) (len : ∀ vs H Q E, sp vs H Q E → vs.length = ps.length)
    (hbody : ∀ (cdv : Value) (A : Around) (outer : List Env) (s : Shared) (H : Hp) (vs : List V) (Q : VK) (E : XK), Room k (A.deeper (envOfC qual (defScope st) s.heap.objs.size f cdv)) → sp vs H Q E →
      ∃ t, PSs (cxOf CX0 P w K mg base N qual (defScope st) f cdv A outer s H E).nox (defBody st) t ∧ t { nx := fun _ H' => Q .non H', rt := Q } (start N vs) H) : FnOk P w K mg base CX0 (k + 1) f fd ps sp := by
  obtain ⟨oc, od, kV, doc, pm, an, cdv, ct, osl, rfl, lk, hcd⟩ := F.ex
  refine fn_of lk hcd S len fun A outer s H vs Q E hr hsp => ?_
  obtain ⟨t, h, q⟩ := hbody cdv A outer s H vs Q E hr hsp
  exact ⟨t, h.nox, q⟩
/-- how its arguments bind (no defaults): h is «fun _ _ _ _ _ _ us hl => match us, hl with | [_, _], _ => rfl», one _ a parameter -/
theorem Fun.binds {x qual : Str} {st : Stmt} {f : Addr} {fd : FuncData} {ps : List Str} (F : Fun K x qual st f fd)
    (h : ∀ (kV doc pm : Value) (an : Option Addr) (cdv ct : Value) (us : List Value), us.length = ps.length → bindArgs (PySem.W.fnOf x qual (defArgs st) (defBody st) (defScope st) .none kV doc pm an cdv ct) ⟨us, []⟩ = pure (ps.zip us)) : Binds K fd ps [] := by
  obtain ⟨oc, od, kV, doc, pm, an, cdv, ct, osl, rfl, lk, hcd⟩ := F.ex
  exact .all (h kV doc pm an cdv ct)
theorem fun_mk {x qual : Str} {st : Stmt} {f : Addr} {oc : Value} {od an : Option Addr} {osl : Array (Option Value)} {kV doc pm cdv ct : Value} (l : K.lookup f = some ⟨oc, od, .func (PySem.W.fnOf x qual (defArgs st) (defBody st) (defScope st) .none kV doc pm an cdv ct), osl⟩)
    (c : PySem.W.codeIn K cdv qual = true) (k : PySem.W.keepIn K (.ref f) = true) : Fun K x qual st f (PySem.W.fnOf x qual (defArgs st) (defBody st) (defScope st) .none kV doc pm an cdv ct) := ⟨⟨oc, od, kV, doc, pm, an, cdv, ct, osl, rfl, l, c⟩, k⟩
end
theorem hu_of {A : Around} {k : Nat} (hr : Room k A) : A.units + 1 < cLine := Nat.lt_of_le_of_lt (Nat.add_le_add_left (by decide : 1 ≤ 64) _) hr.units
/-! ### expressions in short: the name that stands in the i-th slot -/
section
variable {X : Cx}
theorem pv (i : Nat) {x : Str} {pos : Pos} (hN : X.N[i]? = some x := by rfl) (hv : Vis X.env.scope x := by first | exact Or.inl rfl | exact Or.inr (Or.inl rfl) | exact Or.inr (Or.inr rfl)) (hd : (x == ("__debug__" : Str)) = false := by decide)
    (hcd : (x == ("__classdict__" : Str)) = false := by decide) : PE X (.Name x pos) (tVar i) := pe_var hN hv hd hcd
end

/-! ### tests -/
theorem iteF {A B : Prop} (h : B) : if false = true then A else B := by
  rw [if_neg Bool.false_ne_true]
  exact h
theorem iteT {A B : Prop} (h : A) : if true = true then A else B := by
  rw [if_pos rfl]
  exact h
theorem ite2 {c A B : Prop} [Decidable c] (h1 : c → A) (h2 : ¬ c → B) : if c then A else B := by
  by_cases h : c
  · rw [if_pos h]
    exact h1 h
  · rw [if_neg h]
    exact h2 h
/-! ### heaps -/
/-- all that was tracked is as it was -/
def Same (H H' : Hp) : Prop := ∀ b o, H b = some o → H' b = some o
theorem Same.refl (H : Hp) : Same H H := fun _ _ h => h
theorem Same.trans {H H1 H2 : Hp} (a : Same H H1) (b : Same H1 H2) : Same H H2 := fun c o h => b c o (a c o h)
theorem Same.free {H H' : Hp} (e : Same H H') {l : Addr} (h : H' l = Option.none) : H l = Option.none := by
  cases q : H l with
  | none => rfl
  | some o =>
    rw [e l o q] at h
    cases h
theorem Same.seq {K : PySem.W.Frag} {H H' : Hp} {a : Addr} {xs : List V} (e : Same H H') (h : SqL K H a xs) : SqL K H' a xs := by
  rcases h with (h | ⟨o, h⟩) | h
  · exact .inl (.inl (e _ _ h))
  · exact .inl (.inr ⟨o, e _ _ h⟩)
  · exact .inr h

/-! ### a dict's pairs: keys that differ -/
section
variable {κ : Type} [DecidableEq κ]
end
/-! ### lists -/
/-- a new instance and its __init__ leave all that was tracked as it was -/
theorem Same.made {H H1 : Hp} {x dx C : Addr} (nx : H x = Option.none) (nd : H dx = Option.none) (k : ∀ b o, (upd (upd H dx (.own x)) x (.ins C dx [])) b = some o → b ≠ x → H1 b = some o) : Same H H1 := fun b o e =>
  k b o (by rw [upd_ne (ne_of_none e nx), upd_ne (ne_of_none e nd)]; exact e) (ne_of_none e nx)
end L2

namespace Pk
open PySem PySem.Spec PyProof.Rows L2
/-! ### readings, applied -/
section
variable {σ : L2.St} {H : Hp} {Q : VK} {D : Ends} {ta tb te tc : TE} {t u tt : TS} {tA tA2 : TT} {ts : TA} {K : PySem.W.Frag}
theorem r_seq : tSeq t u D σ H = t { D with nx := u D } σ H := rfl
theorem r_next : tNext D σ H = D.nx σ H := rfl
theorem r_var {i : Nat} : tVar i σ H Q = ∃ v, σ[i]? = some (some v) ∧ Q v H := rfl
theorem r_c {v : V} : tC v σ H Q = Q v H := rfl
theorem r_op {r : R2} : tOp r ta tb σ H Q = ta σ H fun x H1 => tb σ H1 fun y H2 => r x y H2 Q := rfl
theorem r_un {r : V → Hp → VK → Prop} : tUn r ta σ H Q = ta σ H fun x H1 => r x H1 Q := rfl
theorem r_asg {g : TG} : tAsg te g D σ H = te σ H fun x H1 => g x σ H1 D.nx := rfl
theorem r_gname {i : Nat} {v : V} {R : L2.St → Hp → Prop} : gName i v σ H R = R (σ.set i (some v)) H := rfl
theorem r_gnil {vs : List V} {R : L2.St → Hp → Prop} : gNil vs σ H R = (vs = [] ∧ R σ H) := rfl
theorem r_gcons {g : TG} {gs : TGs} {vs : List V} {R : L2.St → Hp → Prop} : gCons g gs vs σ H R = ∃ v r, vs = v :: r ∧ g v σ H fun σ' H' => gs r σ' H' R := rfl
theorem r_gsub {s : TSet} {v : V} {R : L2.St → Hp → Prop} : gSub ta tb s v σ H R = ta σ H fun o H1 => tb σ H1 fun i H2 => s o i v H2 fun H3 => R σ H3 := rfl
theorem r_ifS : tIfS tA t u D σ H = tA σ H fun b H1 => if b = true then t D σ H1 else u D σ H1 := rfl
theorem r_ret : tRet te D σ H = te σ H D.rt := rfl
theorem r_retN : tRetN D σ H = D.rt .non H := rfl
theorem r_drop : tDrop te D σ H = te σ H fun _ H1 => D.nx σ H1 := rfl
theorem r_break : tBreak D σ H = D.bk σ H := rfl
theorem r_cont : tCont D σ H = D.ct σ H := rfl
theorem r_never : tNever D σ H = False := rfl
theorem r_test {R : Bool → Hp → Prop} : tTest te σ H R = te σ H fun x H' => ∃ k, x = .bl k ∧ R k H' := rfl
theorem r_tB {R : Bool → Hp → Prop} : tB te σ H R = te σ H fun x H1 => ∃ c, x = .bl c ∧ R c H1 := rfl
theorem r_and {R : Bool → Hp → Prop} : tAnd tA tA2 σ H R = tA σ H fun c H1 => if c = true then tA2 σ H1 R else R false H1 := rfl
theorem r_or {R : Bool → Hp → Prop} : tOr tA tA2 σ H R = tA σ H fun c H1 => if c = true then R true H1 else tA2 σ H1 R := rfl
theorem r_not {R : Bool → Hp → Prop} : tNot tA σ H R = tA σ H fun c H1 => R (!c) H1 := rfl
theorem r_andV : tAndV ta tb σ H Q = ta σ H fun x H1 => ∃ c, x = .bl c ∧ if c = true then tb σ H1 Q else Q (.bl false) H1 := rfl
theorem r_orV : tOrV ta tb σ H Q = ta σ H fun x H1 => ∃ c, x = .bl c ∧ if c = true then Q (.bl true) H1 else tb σ H1 Q := rfl
theorem r_notV : tNotV ta σ H Q = ta σ H fun x H1 => ∃ c, x = .bl c ∧ Q (.bl (!c)) H1 := rfl
theorem r_ifE : tIf tA ta tb σ H Q = tA σ H fun c H1 => if c = true then ta σ H1 Q else tb σ H1 Q := rfl
theorem r_I {C : Int → Int → Prop} {g : Int → Int → V} {x y : V} : rI C g x y H Q = ∃ i j, x = .int i ∧ y = .int j ∧ C i j ∧ Q (g i j) H := rfl
theorem r_I0 {g : Int → Int → V} {x y : V} : rI0 g x y H Q = ∃ i j, x = .int i ∧ y = .int j ∧ Q (g i j) H := rfl
theorem r_U {g : Int → V} {x : V} : rU g x H Q = ∃ i, x = .int i ∧ Q (g i) H := rfl
theorem r_Eq {x y : V} : rEq x y H Q = (scal x y = true ∧ Q (.bl (decide (x = y))) H) := rfl
theorem r_Ne {x y : V} : rNe x y H Q = (scal x y = true ∧ Q (.bl (!decide (x = y))) H) := rfl
theorem r_ipI {f : Int → Int → Int} {x y : V} : ipI f x y H Q = ∃ i j, x = .int i ∧ y = .int j ∧ Q (.int (f i j)) H := rfl
theorem r_aug {i : Nat} {ti : TIp} : tAug i te ti D σ H = ∃ x, σ[i]? = some (some x) ∧ te σ H fun y H1 => ti x y H1 fun z H2 => D.nx (σ.set i (some z)) H2 := rfl
theorem r_nil {R : List V → Hp → Prop} : tNil σ H R = R [] H := rfl
theorem r_cons {R : List V → Hp → Prop} : tCons ta ts σ H R = ta σ H fun x H1 => ts σ H1 fun xs H2 => R (x :: xs) H2 := rfl
theorem r_lst : tLst ts σ H Q = ts σ H fun xs H1 => xs.length ≤ sizeLine ∧ ∀ p, H1 p = none → Q (.ref p) (upd H1 p (.lst xs)) := rfl
theorem r_tup : tTup ts σ H Q = ts σ H fun xs H1 => xs.length ≤ sizeLine ∧ ∀ p, H1 p = none → Q (.ref p) (upd H1 p (.tup xs)) := rfl
theorem r_call {sp : Sp} {dvs : List V} {E : XK} : tCall sp dvs E ts σ H Q = ts σ H fun vs H1 => sp (vs ++ dvs) H1 Q E := rfl
theorem r_cb {r : List V → Hp → VK → Prop} : tCB r ts σ H Q = ts σ H fun vs H1 => r vs H1 Q := rfl
theorem r_bm {T : String} {r : V → List V → Hp → VK → Prop} : tBM K T r ta ts σ H Q = ta σ H fun x H1 => tyV K T x H1 ∧ ts σ H1 fun xs H2 => r x xs H2 Q := rfl
theorem r_bm0 {T : String} {r : V → List V → Hp → VK → Prop} : tBM0 K T r ta σ H Q = ta σ H fun x H1 => tyV K T x H1 ∧ r x [] H1 Q := rfl
theorem r_dget : tDGet ta tb σ H Q = ta σ H fun x H1 => tb σ H1 fun y H2 => ∃ a v, x = .ref a ∧ DGet H2 a y (some v) ∧ Q v H2 := rfl
theorem r_dput : sDPut ta tb te D σ H = te σ H fun v H1 => ta σ H1 fun x H2 => tb σ H2 fun y H3 => ∃ a H4, x = .ref a ∧ DPut H3 a y v H4 ∧ D.nx σ H4 := rfl
theorem r_sl {r : V → Option Int → Option Int → Hp → VK → Prop} {tl th : TO} : tSl r te tl th σ H Q = te σ H fun x H1 => tl σ H1 fun l H2 => th σ H2 fun u H3 => r x l u H3 Q := rfl
theorem r_nopart {R : Option Int → Hp → Prop} : tNoPart σ H R = R none H := rfl
theorem r_part {R : Option Int → Hp → Prop} : tPart te σ H R = te σ H fun x H1 => ∃ i, x = .int i ∧ R (some i) H1 := rfl
theorem r_yes {R : Bool → Hp → Prop} : tYes σ H R = R true H := rfl
/-! ### slots -/
variable {α : Type} {a0 a1 a2 a3 a4 a5 a6 a7 a8 a9 a10 a11 x : α} {l : List α}
theorem g0 : (a0 :: l)[0]? = some a0 := rfl
theorem g1 : (a0 :: a1 :: l)[1]? = some a1 := rfl
theorem g2 : (a0 :: a1 :: a2 :: l)[2]? = some a2 := rfl
theorem g3 : (a0 :: a1 :: a2 :: a3 :: l)[3]? = some a3 := rfl
theorem g4 : (a0 :: a1 :: a2 :: a3 :: a4 :: l)[4]? = some a4 := rfl
theorem g5 : (a0 :: a1 :: a2 :: a3 :: a4 :: a5 :: l)[5]? = some a5 := rfl
theorem g6 : (a0 :: a1 :: a2 :: a3 :: a4 :: a5 :: a6 :: l)[6]? = some a6 := rfl
theorem g7 : (a0 :: a1 :: a2 :: a3 :: a4 :: a5 :: a6 :: a7 :: l)[7]? = some a7 := rfl
theorem g8 : (a0 :: a1 :: a2 :: a3 :: a4 :: a5 :: a6 :: a7 :: a8 :: l)[8]? = some a8 := rfl
theorem g9 : (a0 :: a1 :: a2 :: a3 :: a4 :: a5 :: a6 :: a7 :: a8 :: a9 :: l)[9]? = some a9 := rfl
theorem g10 : (a0 :: a1 :: a2 :: a3 :: a4 :: a5 :: a6 :: a7 :: a8 :: a9 :: a10 :: l)[10]? = some a10 := rfl
theorem g11 : (a0 :: a1 :: a2 :: a3 :: a4 :: a5 :: a6 :: a7 :: a8 :: a9 :: a10 :: a11 :: l)[11]? = some a11 := rfl
theorem s0 : (a0 :: l).set 0 x = x :: l := rfl
theorem s1 : (a0 :: a1 :: l).set 1 x = a0 :: x :: l := rfl
theorem s2 : (a0 :: a1 :: a2 :: l).set 2 x = a0 :: a1 :: x :: l := rfl
theorem s3 : (a0 :: a1 :: a2 :: a3 :: l).set 3 x = a0 :: a1 :: a2 :: x :: l := rfl
theorem s4 : (a0 :: a1 :: a2 :: a3 :: a4 :: l).set 4 x = a0 :: a1 :: a2 :: a3 :: x :: l := rfl
theorem s5 : (a0 :: a1 :: a2 :: a3 :: a4 :: a5 :: l).set 5 x = a0 :: a1 :: a2 :: a3 :: a4 :: x :: l := rfl
theorem s6 : (a0 :: a1 :: a2 :: a3 :: a4 :: a5 :: a6 :: l).set 6 x = a0 :: a1 :: a2 :: a3 :: a4 :: a5 :: x :: l := rfl
theorem s7 : (a0 :: a1 :: a2 :: a3 :: a4 :: a5 :: a6 :: a7 :: l).set 7 x = a0 :: a1 :: a2 :: a3 :: a4 :: a5 :: a6 :: x :: l := rfl
theorem s8 : (a0 :: a1 :: a2 :: a3 :: a4 :: a5 :: a6 :: a7 :: a8 :: l).set 8 x = a0 :: a1 :: a2 :: a3 :: a4 :: a5 :: a6 :: a7 :: x :: l := rfl
theorem s9 : (a0 :: a1 :: a2 :: a3 :: a4 :: a5 :: a6 :: a7 :: a8 :: a9 :: l).set 9 x = a0 :: a1 :: a2 :: a3 :: a4 :: a5 :: a6 :: a7 :: a8 :: x :: l := rfl
theorem s10 : (a0 :: a1 :: a2 :: a3 :: a4 :: a5 :: a6 :: a7 :: a8 :: a9 :: a10 :: l).set 10 x = a0 :: a1 :: a2 :: a3 :: a4 :: a5 :: a6 :: a7 :: a8 :: a9 :: x :: l := rfl
theorem s11 : (a0 :: a1 :: a2 :: a3 :: a4 :: a5 :: a6 :: a7 :: a8 :: a9 :: a10 :: a11 :: l).set 11 x = a0 :: a1 :: a2 :: a3 :: a4 :: a5 :: a6 :: a7 :: a8 :: a9 :: a10 :: x :: l := rfl
end
/-! ### heaps -/
/-- a list or a tuple stands there -/
def Sq (H : Hp) (p : Addr) (xs : List V) : Prop := H p = some (.lst xs) ∨ H p = some (.tup xs)
theorem Sq.l {H : Hp} {p : Addr} {xs : List V} (h : H p = some (.lst xs)) : Sq H p xs := .inl h
theorem Sq.t {H : Hp} {p : Addr} {xs : List V} (h : H p = some (.tup xs)) : Sq H p xs := .inr h
theorem Sq.same {H H' : Hp} {p : Addr} {xs : List V} (s : Same H H') (h : Sq H p xs) : Sq H' p xs := by
  rcases h with h | h
  · exact .inl (s _ _ h)
  · exact .inr (s _ _ h)
def rIxQ : R2 := fun x y H Q => ∃ p i v, x = .ref p ∧ y = .int i ∧ (∃ xs, Sq H p xs ∧ atI xs i = some v) ∧ Q v H
def rLenQ : List V → Hp → VK → Prop := fun xs H Q => ∃ p ys, xs = [.ref p] ∧ Sq H p ys ∧ Q (.int ys.length) H
section
variable {X : Cx}
theorem ix_sq : IxR X rIxQ := by
  intro vl sl pins s σ H x y v u Q I rx ry h hs
  obtain ⟨p, i, v', rfl, rfl, ⟨xs, hq, ha⟩, q⟩ := h
  refine ix_seq vl sl pins s σ H _ _ v u Q I rx ry ?_ hs
  rcases hq with hq | hq
  · exact .inl ⟨p, xs, i, v', rfl, rfl, SqL.of hq, ha, q⟩
  · exact .inr (.inl ⟨p, xs, i, v', rfl, rfl, SqT.of hq, ha, q⟩)
theorem call_lenQ : CallR X (.builtin "len") rLenQ := by
  intro pins s σ H xs us Q I r h
  obtain ⟨p, ys, rfl, hq, q⟩ := h
  refine call_len_seq pins s σ H _ us Q I r ⟨p, ys, rfl, ?_, q⟩
  rcases hq with hq | hq
  · exact .inl (SqL.of hq)
  · exact .inr (SqT.of hq)
/-- isinstance with one built-in class -/
def rIsi (K : PySem.W.Frag) : List V → Hp → VK → Prop := fun xs H Q => ∃ x c t b, xs = [x, .ty c] ∧ TyOf K H x t ∧ PySem.W.kitOne K t (.type c) = some b ∧ Q (.bl b) H
theorem call_isi : CallR X (.builtin "isinstance") (rIsi X.K) := by
  intro pins s σ H xs us Q I r h
  obtain ⟨x, c, t, b, rfl, ty, e, q⟩ := h
  cases r with
  | cons r1 r =>
    cases r with
    | cons r2 r =>
      cases r
      cases r2
      exact isinst_ok I r1 ty e fun tk => ⟨.bl b, H, I.kept (t' := tk) (fun _ _ z => z), rfl, q⟩
end
end Pk
namespace Pk
open PySem L2
/-! ### dicts by written keys, tuples taken apart, items -/
theorem dg {H : Hp} {d : Addr} {kvs : List (Key × V)} {k : Key} {v : V} (hd : H d = some (.dK kvs)) (e : valV kvs k = some v) : DGet H d (kV k) (some v) := e ▸ DGet.k hd
theorem dp {H : Hp} {d : Addr} {kvs kvs' : List (Key × V)} {k : Key} {v : V} (hd : H d = some (.dK kvs)) (hl : kvs.length < sizeLine) (e : putK kvs k v = kvs') : DPut H d (kV k) v (upd H d (.dK kvs')) := e ▸ DPut.k hd hl
theorem gtup {K : PySem.W.Frag} {n : Nat} {t : TGs} {a : Addr} {xs : List V} {σ : L2.St} {H : Hp} {R : L2.St → Hp → Prop} (h : H a = some (.tup xs)) (hn : xs.length = n) (k : t xs σ H R) : gTup K n t (.ref a) σ H R := ⟨a, xs, rfl, SqT.of h, hn, k⟩
theorem at_map {α : Type} {f : α → V} {ns : List α} {i : Int} (h0 : 0 ≤ i) (h1 : i < ns.length) : ∃ n, ns[i.toNat]? = some n ∧ atI (ns.map f) i = some (f n) := by
  have hl : i.toNat < ns.length := by omega
  refine ⟨ns[i.toNat], List.getElem?_eq_getElem hl, ?_⟩
  have e : ixN (ns.map f).length i = some i.toNat := by
    unfold ixN
    rw [if_pos h0, if_pos (by rw [List.length_map]; exact h1)]
  unfold atI
  rw [e]
  show (ns.map f)[i.toNat]? = _
  rw [List.getElem?_map, List.getElem?_eq_getElem hl]
  rfl
theorem ix_ok {n : Nat} {i : Int} (h0 : 0 ≤ i) (h1 : i < n) : ixN n i = some i.toNat := by
  unfold ixN
  rw [if_pos h0, if_pos h1]
/-! ### frames: all but two objects stays -/
def Fr (d c : Addr) (H H' : Hp) : Prop := ∀ a o, H a = some o → a ≠ d → a ≠ c → H' a = some o
theorem Fr.refl {d c : Addr} {H : Hp} : Fr d c H H := fun _ _ h _ _ => h
theorem Fr.trans {d c : Addr} {H H1 H2 : Hp} (a : Fr d c H H1) (b : Fr d c H1 H2) : Fr d c H H2 := fun x o h n1 n2 => b x o (a x o h n1 n2) n1 n2
theorem Fr.of {d c : Addr} {H H' : Hp} (s : Same H H') : Fr d c H H' := fun a o h _ _ => s a o h
theorem Same.new {H : Hp} {p : Addr} {o : HO} (h : H p = none) : Same H (upd H p o) := fun b u e => by rw [upd_ne (ne_of_none e h)]; exact e
/-- it stands, and is none of the draws' two -/
def Lv (d c : Addr) (H : Hp) (a : Addr) (o : HO) : Prop := H a = some o ∧ a ≠ d ∧ a ≠ c
theorem Lv.fr {d c : Addr} {H H' : Hp} {a : Addr} {o : HO} (l : Lv d c H a o) (f : Fr d c H H') : Lv d c H' a o := ⟨f a o l.1 l.2.1 l.2.2, l.2⟩
/-! ### the draws -/
def StA (H : Hp) (d c : Addr) (b : Nat) : Prop := ∃ (ns : List Int) (t : Int), ns ≠ [] ∧ ns.length ≤ 63 ∧ 0 ≤ t ∧ t ≤ b ∧ H c = some (.lst (ns.map V.int)) ∧ H d = some (.dK [(Sum.inr "cells", .ref c), (Sum.inr "turn", .int t)])
theorem StA.same {H H' : Hp} {d c : Addr} {b : Nat} (h : StA H d c b) (s : Same H H') : StA H' d c b := by
  obtain ⟨ns, t, h1, h2, h3, h4, h5, h6⟩ := h
  exact ⟨ns, t, h1, h2, h3, h4, s _ _ h5, s _ _ h6⟩
theorem StA.mono {H : Hp} {d c : Addr} {b b' : Nat} (h : StA H d c b) (l : b ≤ b') : StA H d c b' := by
  obtain ⟨ns, t, h1, h2, h3, h4, h5, h6⟩ := h
  exact ⟨ns, t, h1, h2, h3, by omega, h5, h6⟩
theorem StA.ne {H : Hp} {d c : Addr} {b : Nat} (h : StA H d c b) {p : Addr} (hp : H p = none) : p ≠ d ∧ p ≠ c := by
  obtain ⟨ns, t, h1, h2, h3, h4, h5, h6⟩ := h
  exact ⟨(ne_of_none h6 hp).symm, (ne_of_none h5 hp).symm⟩
theorem StA.new {H : Hp} {d c : Addr} {b : Nat} (h : StA H d c b) {p : Addr} {o : HO} (hp : H p = none) : StA (upd H p o) d c b := h.same (Same.new hp)
theorem StA.lv {H : Hp} {d c : Addr} {b : Nat} (h : StA H d c b) {p : Addr} {o : HO} (hp : H p = none) : Lv d c (upd H p o) p o := ⟨upd_same, h.ne hp⟩
theorem Lv.new {d c : Addr} {H : Hp} {a p : Addr} {o o' : HO} (l : Lv d c H a o) (hp : H p = none) : Lv d c (upd H p o') a o := l.fr (.of (Same.new hp))
/-- one of one's own is changed -/
theorem StA.upd {H : Hp} {d c : Addr} {b : Nat} (h : StA H d c b) {p : Addr} {o : HO} (n : p ≠ d ∧ p ≠ c) : StA (L2.upd H p o) d c b := by
  obtain ⟨ns, t, h1, h2, h3, h4, h5, h6⟩ := h
  exact ⟨ns, t, h1, h2, h3, h4, by rw [upd_ne n.2.symm]; exact h5, by rw [upd_ne n.1.symm]; exact h6⟩
theorem Lv.upd {d c : Addr} {H : Hp} {a p : Addr} {o o' : HO} (l : Lv d c H a o) (n : a ≠ p) : Lv d c (L2.upd H p o') a o := ⟨by rw [upd_ne n]; exact l.1, l.2⟩
theorem Lv.set {d c : Addr} {H : Hp} {a : Addr} {o o' : HO} (l : Lv d c H a o) : Lv d c (L2.upd H a o') a o' := ⟨upd_same, l.2⟩
theorem kct : ¬ (("cells" : Str) = "turn") := by decide +kernel
theorem st_turn {a b : V} : valV [((Sum.inr "cells" : Key), a), (Sum.inr "turn", b)] (Sum.inr "turn") = some b := by
  unfold valV
  rw [List.find?_cons_of_neg (by simp [kct]), List.find?_cons_of_pos (by simp)]
  rfl
theorem st_cells {a b : V} : valV [((Sum.inr "cells" : Key), a), (Sum.inr "turn", b)] (Sum.inr "cells") = some a := by
  unfold valV
  rw [List.find?_cons_of_pos (by simp)]
  rfl
theorem st_put {a b v : V} : putK [((Sum.inr "cells" : Key), a), (Sum.inr "turn", b)] (Sum.inr "turn") v = [((Sum.inr "cells" : Key), a), (Sum.inr "turn", v)] := by
  simp [putK, kct]
def spTake : Sp := fun vs H Q _ => ∃ (d c : Addr) (b : Nat) (m : Int), vs = [.ref d, .int m] ∧ StA H d c b ∧ 0 < m ∧ m < 18446744073709551616 ∧ b < 100000000 ∧ ∀ r H', 0 ≤ r → r < m → StA H' d c (b + 1) → Fr d c H H' → Q (.int r) H'
end Pk

namespace Pk
open PySem L2
/-! ### loops -/
def forIt (J : It) (g : TG) (tb : TS) (D : Ends) (σ : L2.St) (H1 : Hp) : Prop := ∃ W : Nat → Nat → L2.St → Hp → Prop, (∃ m, W 0 m σ H1) ∧ ∀ i m σ H, W i m σ H →
  (J.stop i H ∧ D.nx σ H) ∨ (J.go i H ∧ ∃ N : L2.St → Hp → Prop, (∀ σ' H', N σ' H' → ∃ m', m' < m ∧ W (i + 1) m' σ' H') ∧ ∀ x H', J.yld i H x H' → g x σ H' fun σ2 H2 => tb { D with nx := N, ct := N, bk := D.nx } σ2 H2)
def lcIt (J : It) (g : TG) (tt : TT) (te : TE) (vs : List Nat) (σ : L2.St) (H1 : Hp) (Q : VK) : Prop := ∀ D, H1 D = none → ∃ W : Nat → Nat → Hp → Prop, (∃ m, W 0 m (upd H1 D (.lst []))) ∧ ∀ i m H, W i m H →
  (J.stop i H ∧ Q (.ref D) H) ∨ (J.go i H ∧ ∃ Nx : Hp → Prop, (∀ H', Nx H' → ∃ m', m' < m ∧ W (i + 1) m' H') ∧ ∀ x H', J.yld i H x H' → g x (wipe σ vs) H' fun σ2 H2 => wipe σ2 vs = wipe σ vs ∧ tt σ2 H2 fun b H3 =>
    if b = true then te σ2 H3 fun y H4 => ∃ acc, H4 D = some (.lst acc) ∧ acc.length < sizeLine ∧ Nx (upd H4 D (.lst (acc ++ [y]))) else Nx H3)
section
variable {σ : L2.St} {H : Hp} {Q : VK} {D : Ends} {ta : TA} {te tl : TE} {g : TG} {tb : TS} {tt : TT} {vs : List Nat} {K : PySem.W.Frag}
theorem r_for1 : tFor (iRng1 ta) g tb D σ H = ta σ H fun vs H1 => ∃ j : Int, vs = [.int j] ∧ -(2 ^ 62) ≤ j ∧ j < 2 ^ 62 ∧ forIt (Itr 0 j.toNat) g tb D σ H1 := rfl
theorem r_for2 : tFor (iRng2 ta) g tb D σ H = ta σ H fun vs H1 => ∃ i j : Int, vs = [.int i, .int j] ∧ (-(2 ^ 62) ≤ i ∧ i < 2 ^ 62 ∧ -(2 ^ 62) ≤ j ∧ j < 2 ^ 62) ∧ forIt (Itr i (j - i).toNat) g tb D σ H1 := rfl
theorem r_forL : tFor (iList K tl) g tb D σ H = tl σ H fun x H1 => ∃ a, x = .ref a ∧ (∃ xs, SqL K H1 a xs) ∧ forIt (Itl K a) g tb D σ H1 := rfl
theorem r_forT : tFor (iTup K tl) g tb D σ H = tl σ H fun x H1 => ∃ a, x = .ref a ∧ (∃ xs, SqT K H1 a xs) ∧ forIt (Itt K a) g tb D σ H1 := rfl
theorem r_lc1 : tLc (iRng1 ta) g tt te vs σ H Q = ta σ H fun ws H1 => ∃ j : Int, ws = [.int j] ∧ -(2 ^ 62) ≤ j ∧ j < 2 ^ 62 ∧ lcIt (Itr 0 j.toNat) g tt te vs σ H1 Q := rfl
theorem r_lcL : tLc (iList K tl) g tt te vs σ H Q = tl σ H fun x H1 => ∃ a, x = .ref a ∧ (∃ xs, SqL K H1 a xs) ∧ lcIt (Itl K a) g tt te vs σ H1 Q := rfl
theorem r_lcT : tLc (iTup K tl) g tt te vs σ H Q = tl σ H fun x H1 => ∃ a, x = .ref a ∧ (∃ xs, SqT K H1 a xs) ∧ lcIt (Itt K a) g tt te vs σ H1 Q := rfl
end
theorem lc_l {K : PySem.W.Frag} {a : Addr} {xs : List V} {g : TG} {tt : TT} {te : TE} {vs : List Nat} {σ : L2.St} {H1 : Hp} {Q : VK} (h : ∀ D, H1 D = none → ∃ Pv : Nat → Hp → Prop, Pv 0 (upd H1 D (.lst [])) ∧ (∀ i H, i ≤ xs.length → Pv i H → SqL K H a xs) ∧
    (∀ i x H, xs[i]? = some x → Pv i H → g x (wipe σ vs) H fun σ2 H2 => wipe σ2 vs = wipe σ vs ∧ tt σ2 H2 fun b H3 =>
      if b = true then te σ2 H3 fun y H4 => ∃ acc, H4 D = some (.lst acc) ∧ acc.length < sizeLine ∧ Pv (i + 1) (upd H4 D (.lst (acc ++ [y]))) else Pv (i + 1) H3) ∧ ∀ H, Pv xs.length H → Q (.ref D) H) : lcIt (Itl K a) g tt te vs σ H1 Q := fun D hD => by
  obtain ⟨Pv, h0, hl, hs, hd⟩ := h D hD
  exact lc_list (Qd := fun H => Q (.ref D) H) Pv h0 hl hs hd
/-! ### a test's reading grows with what is wanted -/
def MonE (t : TE) : Prop := ∀ σ H Q Q', (∀ v H1, Q v H1 → Q' v H1) → t σ H Q → t σ H Q'
def MonR (r : R2) : Prop := ∀ x y H Q Q', (∀ v H1, Q v H1 → Q' v H1) → r x y H Q → r x y H Q'
def MonT (t : TT) : Prop := ∀ σ H Q Q', (∀ v H1, Q v H1 → Q' v H1) → t σ H Q → t σ H Q'
/-! ### numbers by sevens of bits -/
def zig (n : Int) : Nat := if 0 ≤ n then (2 * n).toNat else (-2 * n - 1).toNat
def nb (u : Nat) : List Int := if u < 128 then [(u : Int)] else (128 + ((u % 128 : Nat) : Int)) :: nb (u / 128)
termination_by u
decreasing_by omega
theorem nb_ge {u : Nat} (h : 128 ≤ u) : nb u = (128 + ((u % 128 : Nat) : Int)) :: nb (u / 128) := by rw [nb, if_neg (by omega)]
/-- the bytes of a number within the promise's bound -/
def Small (n : Int) : Prop := zig n < 128 ^ 60
def spNb : Sp := fun vs H Q _ => ∃ n : Int, vs = [.int n] ∧ Small n ∧ ∀ p H', Same H H' → H p = none → H' p = some (.lst ((nb (zig n)).map V.int)) → Q (.ref p) H'
end Pk
namespace Pk
open PySem L2
theorem m1 (k : Nat) : (-1 + ((k : Int) + 1)).toNat = k := by omega
theorem len1 {v : V} : [v].length ≤ sizeLine := by show 1 ≤ sizeLine; decide
theorem Same.upd {H H' : Hp} {p : Addr} {o : HO} (s : Same H H') (h : H p = none) : Same H (L2.upd H' p o) := fun a u e => by
  rw [upd_ne (ne_of_none e h)]
  exact s a u e
/-- a comprehension over a list whose element is a function of the item alone -/
theorem lc_map {K : PySem.W.Frag} {a : Addr} {xs : List V} {i : Nat} {te : TE} {vs : List Nat} {σ : L2.St} {H1 : Hp} {Q : VK} (f : V → V) (hq : H1 a = some (.lst xs)) (hl : xs.length < sizeLine)
    (hw : ∀ x, wipe ((wipe σ vs).set i (some x)) vs = wipe σ vs) (he : ∀ x H' Q', x ∈ xs → Q' (f x) H' → te ((wipe σ vs).set i (some x)) H' Q')
    (k : ∀ D H', H1 D = none → Same H1 H' → H' D = some (.lst (xs.map f)) → Q (.ref D) H') : lcIt (Itl K a) (gName i) tYes te vs σ H1 Q := by
  refine lc_l (xs := xs) fun D hD => ⟨fun j H => Same H1 H ∧ H D = some (.lst ((xs.take j).map f)), ⟨Same.new hD, upd_same⟩, fun j H _ h => SqL.of (h.1 _ _ hq), fun j x H hx h => ?_, fun H h => ?_⟩
  · have hj : j < xs.length := (List.getElem?_eq_some_iff.mp hx).1
    refine ⟨hw x, ?_⟩
    rw [r_yes, if_pos rfl]
    refine he x H _ (List.mem_of_getElem? hx) ⟨_, h.2, ?_, Same.upd h.1 hD, ?_⟩
    · rw [List.length_map, List.length_take]; omega
    · rw [upd_same, List.take_add_one, hx, List.map_append]
      rfl
  · refine k D H hD h.1 ?_
    rw [h.2, List.take_length]
/-! ### a number's bytes read back -/
def hb (v : Nat) : Int := if v < 128 then (v : Int) else 128 + ((v % 128 : Nat) : Int)
theorem pow7 (k : Nat) : (2 : Int) ^ (7 * k) = ((128 ^ k : Nat) : Int) := by
  rw [Int.pow_mul]
  simp
def spByte : Sp := fun vs H Q _ => ∃ (r : Addr) (pre post : List Int) (x : Int), vs = [.ref r, .int pre.length] ∧ Sq H r ((pre ++ x :: post).map V.int) ∧ ∀ p H', Same H H' → H p = none → H' p = some (.tup [.int x, .int (pre.length + 1)]) → Q (.ref p) H'
def spTakeN : Sp := fun vs H Q _ => ∃ (r : Addr) (pre post : List Int) (n : Int), vs = [.ref r, .int pre.length] ∧ Sq H r ((pre ++ (nb (zig n) ++ post)).map V.int) ∧ (nb (zig n)).length ≤ 9 ∧ ∀ p H', Same H H' → H p = none → H' p = some (.tup [.int n, .int (pre.length + (nb (zig n)).length)]) → Q (.ref p) H'
/-- between two turns of the reading loop -/
structure Rdn (xs : List Int) (at0 : Nat) (u : Nat) (fo by_ be : Int) (j v low : Nat) (pre post : List Int) : Prop where
  e : xs = pre ++ (nb v ++ post)
  pl : pre.length = at0 + j
  uu : u = low + 128 ^ j * v
  ll : low < 128 ^ j
  fo : fo = ((low + (v % 128) * 128 ^ j : Nat) : Int)
  by_ : by_ = hb v
  be : be = ((at0 + j + 1 : Nat) : Int)
  ln : j + (nb v).length = (nb u).length
  lo : j = 0 ∨ 1 ≤ v
theorem Rdn.start {pre post : List Int} {u : Nat} : Rdn (pre ++ (nb u ++ post)) pre.length u ((u % 128 : Nat) : Int) (hb u) ((pre.length : Int) + 1) 0 u 0 pre post :=
  ⟨rfl, rfl, by simp, by simp, by simp, rfl, by simp, by simp, .inl rfl⟩
theorem Rdn.step {xs : List Int} {at0 u : Nat} {fo by_ be : Int} {j v low : Nat} {pre post : List Int} (R : Rdn xs at0 u fo by_ be j v low pre post) (hv : 128 ≤ v) :
    Rdn xs at0 u (fo + ((v / 128 % 128 : Nat) : Int) * 2 ^ (7 * (j + 1))) (hb (v / 128)) (be + 1) (j + 1) (v / 128) (low + (v % 128) * 128 ^ j) (pre ++ [hb v]) post := by
  obtain ⟨e, pl, uu, ll, hf, hby, hbe, ln, lo⟩ := R
  have p1 : 128 ^ (j + 1) = 128 ^ j * 128 := Nat.pow_succ ..
  have hb1 : hb v = 128 + ((v % 128 : Nat) : Int) := by unfold hb; rw [if_neg (by omega)]
  refine ⟨?_, ?_, ?_, ?_, ?_, rfl, by omega, ?_, .inr (by omega)⟩
  · rw [e, nb_ge hv, hb1]; simp
  · rw [List.length_append, pl]; rfl
  · have : v = 128 * (v / 128) + v % 128 := (Nat.div_add_mod v 128).symm
    rw [uu, p1]
    calc low + 128 ^ j * v = low + 128 ^ j * (128 * (v / 128) + v % 128) := by rw [← this]
      _ = low + v % 128 * 128 ^ j + 128 ^ j * 128 * (v / 128) := by rw [Nat.mul_add, Nat.mul_comm (v % 128), ← Nat.mul_assoc]; omega
  · rw [p1]
    have : v % 128 * 128 ^ j ≤ 127 * 128 ^ j := Nat.mul_le_mul_right _ (by omega)
    omega
  · rw [hf, pow7]
    push_cast
    rfl
  · rw [← ln, nb_ge hv, List.length_cons]; omega
/-! ### a def of the text: its object, how its arguments bind, its name -/
structure Df (K : PySem.W.Frag) (mg : Str → Option Value) (x : Str) (st : Stmt) (ps : List Str) (f : Addr) (fd : FuncData) : Prop where
  F : Fun K x x st f fd
  b : Binds K fd ps []
  m : mg x = some (.ref f)
theorem df_mk {K : PySem.W.Frag} {h : Heap} {mg : Str → Option Value} {x : Str} {st : Stmt} {ps : List Str} {f : Addr} {oc : Value} {od an : Option Addr} {osl : Array (Option Value)} {kV doc pm cdv ct : Value} (X : K.In h) (G : h.Ns mainGlobals mg)
    (a : PySem.W.nsIn K mainGlobals x = some (some (.ref f))) (l : K.lookup f = some ⟨oc, od, .func (PySem.W.fnOf x x (defArgs st) (defBody st) (defScope st) .none kV doc pm an cdv ct), osl⟩)
    (c : PySem.W.codeIn K cdv x = true) (k : PySem.W.keepIn K (.ref f) = true)
    (hb : ∀ (kV doc pm : Value) (an : Option Addr) (cdv ct : Value) (us : List Value), us.length = ps.length → PySem.bindArgs (PySem.W.fnOf x x (defArgs st) (defBody st) (defScope st) .none kV doc pm an cdv ct) ⟨us, []⟩ = pure (ps.zip us)) :
    Df K mg x st ps f (PySem.W.fnOf x x (defArgs st) (defBody st) (defScope st) .none kV doc pm an cdv ct) :=
  ⟨fun_mk l c k, (fun_mk l c k).binds hb, PySem.W.mg_of X G a⟩
theorem w_nil {σ : L2.St} : wipe σ [] = σ := rfl
theorem w_cons {σ : L2.St} {i : Nat} {r : List Nat} : wipe σ (i :: r) = (wipe σ r).set i none := by first | rfl | (unfold wipe; rfl)
theorem m_nil : ([] : List (Str × Nat)).map (fun x => x.2) = [] := rfl
theorem m_cons {x : Str × Nat} {r : List (Str × Nat)} : (x :: r).map (fun x => x.2) = x.2 :: r.map (fun x => x.2) := rfl
end Pk

namespace Pk
open PySem PySem.Spec PyProof.Rows L2
theorem tiAt {h h' : Heap} {a t : Addr} {i : Nat} (x : IsTupIter h a t i) (e : ∀ o, h.get? a = some o → h'.get? a = some o) : IsTupIter h' a t i := let ⟨o, g, r⟩ := x; ⟨o, e o g, r⟩
section
variable {pr : Program} {w : World} {A : Around} {E : Value → Shared → Prop} {s : Shared}
/-- one more item of a tuple's iterator -/
theorem tn_item {it t : Addr} {i : Nat} {its : Array Value} {x : Value} {Q : Value → Shared → Prop} (hi : IsTupIter s.heap it t i) (ht : IsTup s.heap t its) (hx : its[i]? = some x)
    (k : ∀ h', IsTupIter h' it t (i + 1) → Heap.SameBut it s.heap h' → Q x { s with heap := h' }) : wpAny (model pr w) A (Builtin.SmallTypes.nextOf (.ref it)) Q E s := by
  obtain ⟨ob, g1, g2, g3⟩ := id hi; obtain ⟨ot, g4, _, nn, g5⟩ := ht
  unfold Builtin.SmallTypes.nextOf
  refine wpAny_bind (wpAny_callSpecial?_slot (name := Str.ofString "__next__") hi.typeIs slot_tupleiter_next (wpAny_call_entry slot_tupleiter_next hi.typeIs entry_tupleiter_next ?_ (args_tupleiter_next _)))
  show wpAny _ _ (field (.ref it) 0 >>= _) _ _ s; refine wpAny_bind (wpAny_field g1 g3 (x := .ref t) rfl ?_)
  show wpAny _ _ (if (Value.ref t == Value.none) = true then _ else _) _ _ s; rw [if_neg (show ¬ ((Value.ref t == Value.none) = true) from Bool.false_ne_true)]
  show wpAny _ _ (field (.ref it) 1 >>= _) _ _ s; refine wpAny_bind (wpAny_field g1 g3 (x := .int i 0) rfl ?_)
  show wpAny _ _ (seqItems? (.ref t) >>= _) _ _ s; refine wpAny_bind (wpAny_seqItems g4 g5 ?_); simp only [Int.toNat_natCast, hx]
  refine wpAny_bind (wpAny_setField g1 g3 (by simp) (wpAny_pure ⟨x, rfl, wpAny_pure (k _ ?_ (Heap.SameBut.update ..))⟩))
  exact ⟨_, Heap.get?_update_self _ g1 (Obj.isFreed_of_fields (Obj.data_mapFields g3 _)), (Obj.cls_mapFields ..).trans g2, by rw [Obj.data_mapFields g3]; simp [rawInt]⟩
/-- a tuple's iterator at its end -/
theorem tn_end {it t : Addr} {i : Nat} {its : Array Value} {Q : Value → Shared → Prop} (hh : A.handled = none) (hi : IsTupIter s.heap it t i) (ht : IsTup s.heap t its) (hx : its[i]? = none)
    (k : ∀ h' e, Heap.ExtBut it s.heap h' → (∃ o, h'.get? e = some o ∧ o.cls = .type "StopIteration") → E (.ref e) { s with heap := h' }) : wpAny (model pr w) A (Builtin.SmallTypes.nextOf (.ref it)) Q E s := by
  obtain ⟨ob, g1, g2, g3⟩ := id hi; obtain ⟨ot, g4, _, nn, g5⟩ := ht
  unfold Builtin.SmallTypes.nextOf
  refine wpAny_bind (wpAny_callSpecial?_slot (name := Str.ofString "__next__") hi.typeIs slot_tupleiter_next (wpAny_call_entry slot_tupleiter_next hi.typeIs entry_tupleiter_next ?_ (args_tupleiter_next _)))
  show wpAny _ _ (field (.ref it) 0 >>= _) _ _ s; refine wpAny_bind (wpAny_field g1 g3 (x := .ref t) rfl ?_)
  show wpAny _ _ (if (Value.ref t == Value.none) = true then _ else _) _ _ s; rw [if_neg (show ¬ ((Value.ref t == Value.none) = true) from Bool.false_ne_true)]
  show wpAny _ _ (field (.ref it) 1 >>= _) _ _ s; refine wpAny_bind (wpAny_field g1 g3 (x := .int i 0) rfl ?_)
  show wpAny _ _ (seqItems? (.ref t) >>= _) _ _ s; refine wpAny_bind (wpAny_seqItems g4 g5 ?_); simp only [Int.toNat_natCast, hx]
  refine wpAny_bind (wpAny_rule (wpAny_bind (wpAny_setField g1 g3 (by simp) ?_))); show wpAny _ _ (newExc (.type "StopIteration") [] >>= _) _ _ _
  refine wpAny_bind ?_; simp only [newExc, newTuple]; refine wpAny_bind (wpAny_newObj_type ?_ (by size_fits))
  refine wpAny_bind (m := firstArgMember _ _) (wpAny_of_eq (a := Value.none) (by first | rfl | (simp only [firstArgMember]; rfl)) ?_); refine wpAny_newObj_type ?_ (by size_fits)
  simp only [raiseNew]; refine wpAny_bind (wpAny_handled ?_); first | rw [show A.in1.handled = none from hh] | rw [hh]
  refine wpAny_bind (wpAny_pure (wpAny_throw ?_)); exact k _ _ (((Heap.SameBut.update ..).extBut.push _).push _) ⟨_, Heap.get?_push_size _ rfl, rfl⟩
/-- zip over two tuples: one more pair -/
theorem zt_item {z TI TO i1 i2 l1 l2 : Addr} {k1 k2 : Nat} {xs ys : Array Value} {x y a b : Value} {Q : Option Value → Shared → Prop} (D : ZipApart z TI TO i1 i2 l1 l2) (hz : IsZip s.heap z TI TO .none) (hTI : IsPair s.heap TI (.ref i1) (.ref i2)) (hTO : IsPair s.heap TO a b)
    (h1 : IsTupIter s.heap i1 l1 k1) (h2 : IsTupIter s.heap i2 l2 k2) (t1 : IsTup s.heap l1 xs) (t2 : IsTup s.heap l2 ys) (hx : xs[k1]? = some x) (hy : ys[k2]? = some y)
    (k : ∀ h', IsZip h' z TI TO (rawInt s.heap.objs.size) → IsPair h' TO x y → IsTupIter h' i1 l1 (k1 + 1) → IsTupIter h' i2 l2 (k2 + 1) → IsPair h' s.heap.objs.size x y → h'.objs.size = s.heap.objs.size + 1 →
      (∀ c o, c ≠ z → c ≠ TO → c ≠ i1 → c ≠ i2 → s.heap.get? c = some o → h'.get? c = some o) → Q (some (.ref s.heap.objs.size)) { s with heap := h' }) : wpAny (model pr w) A (pyNext (.ref z)) Q E s := by
  have ty : s.TypeIs (.ref z) "zip" := ⟨_, hz, rfl⟩
  unfold pyNext
  refine wpAny_bind (wpAny_attempt (wpAny_callSpecial?_slot (name := Str.ofString "__next__") ty F.slot_zip_next (wpAny_call_entry F.slot_zip_next ty F.entry_zip_next ?_ (F.args_zip_next_1 _))))
  show wpAny _ _ (field (.ref z) 2 >>= _) _ _ _; refine wpAny_bind (wpAny_field hz rfl (x := .bool false) rfl ?_)
  show wpAny _ _ (field (.ref z) 3 >>= _) _ _ _; refine wpAny_bind (wpAny_field hz rfl (x := .ref TI) rfl ?_); refine wpAny_bind (wpAny_seqItems hTI rfl ?_)
  show wpAny _ _ (Builtin.SmallTypes.ownedTupleIsFree (.ref z) >>= _) _ _ _; refine wpAny_bind ?_; unfold Builtin.SmallTypes.ownedTupleIsFree
  refine wpAny_bind (wpAny_field hz rfl (x := .none) rfl (wpAny_pure ?_)); simp only [if_true]; refine wpAny_bind (wpAny_rule ?_)
  refine wpAny_bind (wpAny_field hz rfl (x := .ref TO) rfl ?_); refine wpAny_bind (wpAny_setField_rec hz (by simp) fun ha za sa => ?_)
  replace za : IsZip ha z TI TO .ellipsis := za
  refine wpAny_bind ?_; simp only [List.zipIdx_cons, List.zipIdx_nil, List.forIn_cons, List.forIn_nil]
  -- the first one's item goes into the pair
  refine wpAny_bind (wpAny_bind (wpAny_onRaise ?_)); show wpAny _ _ (Builtin.SmallTypes.nextOf (.ref i1) >>= _) _ _ _
  refine wpAny_bind (tn_item (h1.extBut sa.extBut D.i1z) (t1.extBut sa.extBut D.l1z) hx fun hb1 ib sb => wpAny_pure ?_)
  have pb : IsPair hb1 TO a b := sb.extBut _ _ D.TOi1 (sa.extBut _ _ D.TOz hTO)
  refine wpAny_bind (wpAny_seqItems pb rfl ?_); refine wpAny_bind (wpAny_updateSeq_pair pb fun hc pc sc => ?_)
  replace pc : IsPair hc TO x b := pc
  refine wpAny_bind (wpAny_letGo (wpAny_pure ?_))
  -- the second one's
  refine wpAny_bind (wpAny_bind (wpAny_onRaise ?_)); show wpAny _ _ (Builtin.SmallTypes.nextOf (.ref i2) >>= _) _ _ _
  refine wpAny_bind (tn_item (((h2.extBut sa.extBut D.i2z).extBut sb.extBut D.i12.symm).extBut sc.extBut D.TOi2.symm) (((t2.extBut sa.extBut D.l2z).extBut sb.extBut D.l2i1).extBut sc.extBut D.l2TO) hy fun hd1 id1 sd => wpAny_pure ?_)
  have pd : IsPair hd1 TO x b := sd.extBut _ _ D.TOi2 pc
  refine wpAny_bind (wpAny_seqItems pd rfl ?_); refine wpAny_bind (wpAny_updateSeq_pair pd fun hf pf sf => ?_)
  replace pf : IsPair hf TO x y := pf
  refine wpAny_bind (wpAny_letGo (wpAny_pure (wpAny_pure ?_)))
  -- a new pair is handed out
  refine wpAny_bind (wpAny_seqItems pf rfl ?_); refine wpAny_bind (wpAny_newTuple ?_)
  have sz : hf.objs.size = s.heap.objs.size := by rw [sf.1, sd.1, sc.1, sb.1, sa.1]
  have zf : IsZip hf z TI TO .ellipsis := sf.extBut _ _ D.TOz.symm (sd.extBut _ _ D.i2z.symm (sc.extBut _ _ D.TOz.symm (sb.extBut _ _ D.i1z.symm za)))
  have kf : ∀ c o, c ≠ z → c ≠ TO → c ≠ i1 → c ≠ i2 → s.heap.get? c = some o → hf.get? c = some o := fun c o c1 c2 c3 c4 e => sf.extBut _ _ c2 (sd.extBut _ _ c4 (sc.extBut _ _ c2 (sb.extBut _ _ c3 (sa.extBut _ _ c1 e))))
  have if1 : IsTupIter hf i1 l1 (k1 + 1) := ((ib.extBut sc.extBut D.TOi1.symm).extBut sd.extBut D.i12).extBut sf.extBut D.TOi1.symm
  have if2 : IsTupIter hf i2 l2 (k2 + 1) := id1.extBut sf.extBut D.TOi2.symm
  have zl : z < hf.objs.size := Heap.lt_size zf
  show wpAny _ _ (Builtin.SmallTypes.ownedTupleHandOut (.ref z) (.ref hf.objs.size) >>= _) _ _ _; refine wpAny_bind ?_; unfold Builtin.SmallTypes.ownedTupleHandOut
  have zg : IsZip (hf.push { cls := .type "tuple", data := .seq #[x, y] }) z TI TO .ellipsis := Heap.get?_push_of_some _ zf
  refine wpAny_bind (wpAny_setField_rec zg (by simp) fun hm zm sm => ?_)
  replace zm : IsZip hm z TI TO (rawInt hf.objs.size) := zm
  refine wpAny_setField_rec zm (by simp) fun hn zn sn => ?_
  replace zn : IsZip hn z TI TO (rawInt hf.objs.size) := zn
  have up : ∀ c o, c ≠ z → hf.get? c = some o → hn.get? c = some o := fun c o c1 e => sn.extBut _ _ c1 (sm.extBut _ _ c1 (Heap.get?_push_of_some _ e))
  have pn : IsPair hn hf.objs.size x y := sn.extBut _ _ (Nat.ne_of_gt zl) (sm.extBut _ _ (Nat.ne_of_gt zl) (Heap.get?_push_size _ rfl))
  have sz2 : hn.objs.size = hf.objs.size + 1 := by rw [sn.1, sm.1, Heap.size_push]
  rw [sz] at zn pn sz2
  refine wpAny_pure ⟨_, rfl, wpAny_pure ?_⟩
  show Q (some (.ref hf.objs.size)) _
  rw [sz]
  exact k hn zn (up _ _ D.TOz pf) (tiAt if1 fun o e => up _ o D.i1z e) (tiAt if2 fun o e => up _ o D.i2z e) pn sz2 fun c o c1 c2 c3 c4 e => up c o c1 (kf c o c1 c2 c3 c4 e)
/-- both at their end -/
theorem zt_end {z TI TO i1 i2 l1 l2 : Addr} {k1 k2 : Nat} {xs ys : Array Value} {a b : Value} {Q : Option Value → Shared → Prop} (hh : A.handled = none) (D : ZipApart z TI TO i1 i2 l1 l2) (hz : IsZip s.heap z TI TO .none) (hTI : IsPair s.heap TI (.ref i1) (.ref i2)) (hTO : IsPair s.heap TO a b)
    (h1 : IsTupIter s.heap i1 l1 k1) (h2 : IsTupIter s.heap i2 l2 k2) (t1 : IsTup s.heap l1 xs) (t2 : IsTup s.heap l2 ys) (hx : xs[k1]? = none)
    (k : ∀ h', (∀ c o, c ≠ z → c ≠ TO → c ≠ i1 → c ≠ i2 → s.heap.get? c = some o → h'.get? c = some o) → Q none { s with heap := h' }) : wpAny (model pr w) A (pyNext (.ref z)) Q E s := by
  have ty : s.TypeIs (.ref z) "zip" := ⟨_, hz, rfl⟩
  unfold pyNext
  refine wpAny_bind (wpAny_attempt (wpAny_callSpecial?_slot (name := Str.ofString "__next__") ty F.slot_zip_next (wpAny_call_entry F.slot_zip_next ty F.entry_zip_next ?_ (F.args_zip_next_1 _))))
  show wpAny _ _ (field (.ref z) 2 >>= _) _ _ _; refine wpAny_bind (wpAny_field hz rfl (x := .bool false) rfl ?_)
  show wpAny _ _ (field (.ref z) 3 >>= _) _ _ _; refine wpAny_bind (wpAny_field hz rfl (x := .ref TI) rfl ?_); refine wpAny_bind (wpAny_seqItems hTI rfl ?_)
  show wpAny _ _ (Builtin.SmallTypes.ownedTupleIsFree (.ref z) >>= _) _ _ _; refine wpAny_bind ?_; unfold Builtin.SmallTypes.ownedTupleIsFree
  refine wpAny_bind (wpAny_field hz rfl (x := .none) rfl (wpAny_pure ?_)); simp only [if_true]; refine wpAny_bind (wpAny_rule ?_)
  refine wpAny_bind (wpAny_field hz rfl (x := .ref TO) rfl ?_); refine wpAny_bind (wpAny_setField_rec hz (by simp) fun ha za sa => ?_)
  replace za : IsZip ha z TI TO .ellipsis := za
  refine wpAny_bind ?_; simp only [List.zipIdx_cons, List.zipIdx_nil, List.forIn_cons, List.forIn_nil]
  refine wpAny_bind (wpAny_bind (wpAny_onRaise ?_)); show wpAny _ _ (Builtin.SmallTypes.nextOf (.ref i1) >>= _) _ _ _
  refine wpAny_bind (tn_end hh (h1.extBut sa.extBut D.i1z) (t1.extBut sa.extBut D.l1z) hx fun hb1 e sb he => ?_)
  obtain ⟨oe, ge, ce⟩ := he
  have zb : IsZip hb1 z TI TO .ellipsis := sb _ _ D.i1z.symm za
  have nez : e ≠ z := fun q => by subst q; rw [zb] at ge; cases ge; simp at ce
  refine wpAny_setField_rec zb (by simp) fun hc _ sc => ?_
  refine wpAny_bind (wpAny_isInstance (T := "StopIteration") (b := true) ⟨oe, sc.extBut _ _ nez ge, ce⟩ isSubtype_stop ?_)
  exact wpAny_pure (k _ fun c o c1 _ c3 _ q => sc.extBut _ _ c1 (sb _ _ c3 (sa.extBut _ _ c1 q)))
end
end Pk

namespace Pk
open PySem PySem.Spec PyProof.Rows L2
abbrev zu1 (h : Heap) (p : Addr) : Heap := h.push { cls := .type "tuple_iterator", data := .fields #[.ref p, .int 0 0] }
abbrev zu2 (h : Heap) (p q : Addr) : Heap := (zu1 h p).push { cls := .type "tuple_iterator", data := .fields #[.ref q, .int 0 0] }
abbrev zu3 (h : Heap) (p q : Addr) : Heap := (zu2 h p q).push { cls := .type "tuple", data := .seq #[.ref h.objs.size, .ref (zu1 h p).objs.size] }
abbrev zu4 (h : Heap) (p q : Addr) : Heap := (zu3 h p q).push { cls := .type "tuple", data := .seq #[.none, .none] }
abbrev zu5 (h : Heap) (p q : Addr) : Heap := (zu4 h p q).push { cls := .type "zip", data := .fields #[.none, .bool false, .bool false, .ref (zu2 h p q).objs.size, .ref (zu3 h p q).objs.size] }
theorem zu_new (p q : Addr) (xs ys : Array Value) : Meets (Builtin.«zip.__new__» ⟨[.type "zip", .ref p, .ref q], []⟩) (fun _ R s => IsTup s.heap p xs ∧ IsTup s.heap q ys ∧ R (.ok (.ret (.ref (zu4 s.heap p q).objs.size))) { s with heap := zu5 s.heap p q }) :=
  .of_wp fun prog w A R s h => by
    obtain ⟨hp, g, d, tk, os⟩ := s; obtain ⟨h1, h2, h⟩ := h
    have hsub := sub_zip
    have hA : IsTup (Shared.heap ⟨hp, g, d, tk, os⟩) p xs := h1
    have hB : IsTup (Shared.heap ⟨hp.push { cls := .type "tuple_iterator", data := .fields #[.ref p, .int 0 0] }, g, d, tk, os⟩) q ys := IsTup.push h2 _
    wp_walk using iter_tuple hA, iter_tuple hB
    exact ⟨_, rfl, h⟩
section
variable {pr : Program} {w : World} {A : Around} {E : Value → Shared → Prop} {s : Shared}
theorem zu_call {p q : Addr} {xs ys : Array Value} {Q : Value → Shared → Prop} (h1 : IsTup s.heap p xs) (h2 : IsTup s.heap q ys)
    (k : ∀ h', IsZip h' (s.heap.objs.size + 4) (s.heap.objs.size + 2) (s.heap.objs.size + 3) .none → IsPair h' (s.heap.objs.size + 2) (.ref s.heap.objs.size) (.ref (s.heap.objs.size + 1)) → IsPair h' (s.heap.objs.size + 3) .none .none →
      IsTupIter h' s.heap.objs.size p 0 → IsTupIter h' (s.heap.objs.size + 1) q 0 → (∀ c o, s.heap.get? c = some o → h'.get? c = some o) → Q (.ref (s.heap.objs.size + 4)) { s with heap := h' }) : wpAny (model pr w) A (call (.type "zip") [.ref p, .ref q]) Q E s := by
  refine callType_new F.called_zip (by decide) (F.typeCall_zip_2 _ _) (F.newCall_zip_2 _ _) (fun o => F.args_object_init_3 o _ _) F.entry_zip_new (zu_new p q xs ys) ⟨h1, h2, ?_⟩
  have z1 : (zu1 s.heap p).objs.size = s.heap.objs.size + 1 := Heap.size_push ..
  have z2 : (zu2 s.heap p q).objs.size = s.heap.objs.size + 2 := by rw [Heap.size_push, z1]
  have z3 : (zu3 s.heap p q).objs.size = s.heap.objs.size + 3 := by rw [Heap.size_push, z2]
  have z4 : (zu4 s.heap p q).objs.size = s.heap.objs.size + 4 := by rw [Heap.size_push, z3]
  have k5 : ∀ {c o}, (zu4 s.heap p q).get? c = some o → (zu5 s.heap p q).get? c = some o := fun e => Heap.get?_push_of_some _ e
  have k4 : ∀ {c o}, (zu3 s.heap p q).get? c = some o → (zu5 s.heap p q).get? c = some o := fun e => k5 (Heap.get?_push_of_some _ e)
  have k3 : ∀ {c o}, (zu2 s.heap p q).get? c = some o → (zu5 s.heap p q).get? c = some o := fun e => k4 (Heap.get?_push_of_some _ e)
  have k2 : ∀ {c o}, (zu1 s.heap p).get? c = some o → (zu5 s.heap p q).get? c = some o := fun e => k3 (Heap.get?_push_of_some _ e)
  have g5 : (zu5 s.heap p q).get? (zu4 s.heap p q).objs.size = some _ := Heap.get?_push_size _ rfl
  have g4 : (zu5 s.heap p q).get? (zu3 s.heap p q).objs.size = some _ := k5 (Heap.get?_push_size _ rfl)
  have g3 : (zu5 s.heap p q).get? (zu2 s.heap p q).objs.size = some _ := k4 (Heap.get?_push_size _ rfl)
  have g2 : (zu5 s.heap p q).get? (zu1 s.heap p).objs.size = some _ := k3 (Heap.get?_push_size _ rfl)
  have g1 : (zu5 s.heap p q).get? s.heap.objs.size = some _ := k2 (Heap.get?_push_size _ rfl)
  show _ ∧ _
  rw [z2, z3, z4] at g5; rw [z1, z2] at g3; rw [z3] at g4; rw [z1] at g2; rw [z4]
  exact ⟨⟨_, g5, rfl⟩, k _ g5 g3 g4 ⟨_, g1, rfl, rfl⟩ ⟨_, g2, rfl, rfl⟩ fun c o e => k2 (Heap.get?_push_of_some _ e)⟩
end
/-- zip over two tuples, by turns -/
def ItzT (K : PySem.W.Frag) (a b : Addr) : It :=
  ⟨fun i H => ∃ (xs ys : List V) (x y : V), SqT K H a xs ∧ SqT K H b ys ∧ xs[i]? = some x ∧ ys[i]? = some y,
    fun i H v H' => ∃ T x y, v = .ref T ∧ H T = none ∧ H' = upd H T (.tup [x, y]) ∧ (∀ xs, SqT K H a xs → xs[i]? = some x) ∧ ∀ ys, SqT K H b ys → ys[i]? = some y,
    fun i H => ∃ xs ys : List V, SqT K H a xs ∧ SqT K H b ys ∧ xs.length ≤ i⟩
theorem turn_zipT {P : Program} {w : World} {K : PySem.W.Frag} {elts : List Expr} {kk : Nat} {tpos : Pos} {a b z TI TO i1 i2 : Addr} (D : ZipApart z TI TO i1 i2 a b) :
    Turn P w K (.Tuple elts kk tpos) (ItzT K a b) [z, TI, TO, i1, i2] z (fun i h => IsZip h z TI TO .none ∧ IsPair h TI (.ref i1) (.ref i2) ∧ (∃ x y, IsPair h TO x y) ∧ IsTupIter h i1 a i ∧ IsTupIter h i2 b i) where
  mem := by simp
  obj := fun i h st c hc => by
    obtain ⟨hz, hTI, ⟨x, y, hTO⟩, ⟨o1, e1, _, d1⟩, ⟨o2, e2, _, d2⟩⟩ := st
    have e' : c = z ∨ c = TI ∨ c = TO ∨ c = i1 ∨ c = i2 := by simpa using hc
    rcases e' with q | q | q | q | q
    · rw [q]; exact ⟨_, hz, fun v q => nomatch q⟩
    · rw [q]; exact ⟨_, hTI, fun v q => nomatch q⟩
    · rw [q]; exact ⟨_, hTO, fun v q => nomatch q⟩
    · rw [q]; exact ⟨o1, e1, fun v q => by rw [d1] at q; cases q⟩
    · rw [q]; exact ⟨o2, e2, fun v q => by rw [d2] at q; cases q⟩
  keep := fun i h h' st k => by
    obtain ⟨hz, hTI, ⟨x, y, hTO⟩, h1, h2⟩ := st
    exact ⟨k z (by simp) _ hz, k TI (by simp) _ hTI, ⟨x, y, k TO (by simp) _ hTO⟩, tiAt h1 fun o q => k i1 (by simp) o q, tiAt h2 fun o q => k i2 (by simp) o q⟩
  item := by
    intro X hP hw hK hc i pins s σ H E I hf st hg
    subst hP hw hK
    obtain ⟨hz, hTI, ⟨x0, y0, hTO⟩, h1, h2⟩ := st
    obtain ⟨xs, ys, x, y, hqx, hqy, hx, hy⟩ := hg
    obtain ⟨its, rv, p, _⟩ := I.tuple hqx
    obtain ⟨its2, rv2, p2, _⟩ := I.tuple hqy
    obtain ⟨u, hu, ru⟩ := rv.get hx
    obtain ⟨u2, hu2, ru2⟩ := rv2.get hy
    have hzl : z < s.heap.objs.size := Heap.lt_size hz
    refine zt_item D hz hTI hTO h1 h2 p p2 (x := u) (y := u2) (by simpa using hu) (by simpa using hu2) fun h' z' TO' h1' h2' hT hsz hk => ?_
    refine ⟨_, rfl, wpAny_letOwnedTupleGo_zip (s := { s with heap := h' }) z' fun h'' z'' sb => ?_⟩
    have hT2 : h''.get? s.heap.objs.size = some { cls := .type "tuple", data := .seq #[u, u2] } := (sb.2 _ (Nat.ne_of_gt hzl)).trans hT
    have new : ObjOk X.prog X.w (upd H s.heap.objs.size (.tup [x, y])) h'' s.heap.objs.size (.tup [x, y]) :=
      ⟨by show 2 ≤ sizeLine; decide, [u, u2], .cons ru (.cons ru2 .nil), ⟨_, hT2, rfl, _, rfl⟩⟩
    have I1 : Inv X pins σ (upd H s.heap.objs.size (.tup [x, y])) { s with heap := h'' } :=
      I.turnedNew (t' := s.toks) (ch := [z, TI, TO, i1, i2]) (fun c o hb q => (sb.2 c (fun q' => hb (by simp [q']))).trans (hk c o (fun q' => hb (by simp [q'])) (fun q' => hb (by simp [q'])) (fun q' => hb (by simp [q'])) (fun q' => hb (by simp [q'])) q)) hf (Nat.le_refl _) new
    refine ⟨.ref s.heap.objs.size, _, I1, rfl, ⟨_, x, y, rfl, I.hok.fresh (Nat.le_refl _), rfl, fun l hl => by rw [I.tuple_inj hl hqx]; exact hx, fun l hl => by rw [I.tuple_inj hl hqy]; exact hy⟩, ⟨z'', ?_, ⟨u, u2, ?_⟩, ?_, ?_⟩, fun c hcm => ?_⟩
    · exact (sb.2 _ D.TIz).trans (hk _ _ D.TIz D.TITO D.TIi1 D.TIi2 hTI)
    · exact (sb.2 _ D.TOz).trans TO'
    · exact tiAt h1' fun o q => (sb.2 _ D.i1z).trans q
    · exact tiAt h2' fun o q => (sb.2 _ D.i2z).trans q
    · have hlt : c < s.heap.objs.size := by
        have e' : c = z ∨ c = TI ∨ c = TO ∨ c = i1 ∨ c = i2 := by simpa using hcm
        rcases e' with q | q | q | q | q
        · rw [q]; exact hzl
        · rw [q]; exact Heap.lt_size hTI
        · rw [q]; exact Heap.lt_size hTO
        · rw [q]; obtain ⟨_, e1, _⟩ := h1; exact Heap.lt_size e1
        · rw [q]; obtain ⟨_, e2, _⟩ := h2; exact Heap.lt_size e2
      rw [upd_ne (Nat.ne_of_lt hlt)]
      exact (hf c hcm).1
  done := by
    intro X hP hw hK hc i pins s σ H E I hf st hg
    subst hP hw hK
    obtain ⟨hz, hTI, ⟨x0, y0, hTO⟩, h1, h2⟩ := st
    obtain ⟨xs, ys, hqx, hqy, hend⟩ := hg
    obtain ⟨its, rv, p, _⟩ := I.tuple hqx
    obtain ⟨its2, rv2, p2, _⟩ := I.tuple hqy
    have l1 := rv.length
    exact zt_end (I.ok.hd hc) D hz hTI hTO h1 h2 p p2 (by simp; omega) fun h' hk => ⟨rfl, I.turnedL (t' := s.toks) (ch := [z, TI, TO, i1, i2]) (fun c o hb q =>
      hk c o (fun q' => hb (by simp [q'])) (fun q' => hb (by simp [q'])) (fun q' => hb (by simp [q'])) (fun q' => hb (by simp [q'])) q) hf⟩
  self := fun A i s Q E st h => wpAny_pyIter_zip st.1 h
def iZipT (K : PySem.W.Frag) (ta : TA) : TI := fun σ H R => ta σ H fun vs H1 => ∃ a b xs ys, vs = [.ref a, .ref b] ∧ SqT K H1 a xs ∧ SqT K H1 b ys ∧ R (ItzT K a b) H1
theorem pi_zipT {X : Cx} {e e2 : Expr} {ta : TA} {p pos tpos : Pos} {elts : List Expr} {kk : Nat} (hg : Gl X "zip") (hm : X.mg "zip" = none) (ha : PA X [e, e2] ta)
    (hs : starEach [e, e2] X.env = (false, eval e X.env) :: starEach [e2] X.env := by rfl) (hpl : (backTo pos (starEach [e2] X.env)).any (·.1) = false := by rfl) :
    PI X (.Tuple elts kk tpos) (.Call (.Name "zip" p) [e, e2] [] pos) (iZipT X.K ta) := by
  intro pins s σ H R I h
  refine Call_ (ld_blt I hg hm boot_zip5 (PyProof.Rows.callWith_type1 (thn (ha pos pins s σ H _ I h) fun us s1 ⟨vs, H1, I1, r1, q1⟩ => ?_) hs hpl))
  obtain ⟨a, b, xs, ys, ex, hqx, hqy, q⟩ := q1
  subst ex
  cases r1 with
  | cons r rr =>
    cases rr with
    | cons r' rr =>
      cases rr
      cases r
      cases r'
      obtain ⟨its, rv, p1, _⟩ := I1.tuple hqx
      obtain ⟨its2, rv2, p2, _⟩ := I1.tuple hqy
      refine zu_call p1 p2 fun h' hz hTI hTO h1 h2 hk => wpAny_pyIter_zip hz ?_
      have I2 : Inv X pins σ H1 { s1 with heap := h' } := I1.kept (t' := s1.toks) hk
      refine ⟨s1.heap.objs.size + 4, [s1.heap.objs.size + 4, s1.heap.objs.size + 2, s1.heap.objs.size + 3, s1.heap.objs.size, s1.heap.objs.size + 1], _, _, H1, rfl, I2, turn_zipT (PySem.W.ktu_apart s1.heap.objs.size a b p1.lt p2.lt), ⟨hz, hTI, ⟨_, _, hTO⟩, h1, h2⟩, fun c hcm => ?_, q⟩
      have e' : c = s1.heap.objs.size + 4 ∨ c = s1.heap.objs.size + 2 ∨ c = s1.heap.objs.size + 3 ∨ c = s1.heap.objs.size ∨ c = s1.heap.objs.size + 1 := by simpa using hcm
      have hle : s1.heap.objs.size ≤ c := by
        rcases e' with z | z | z | z | z
        · rw [z]; exact Nat.le_add_right _ _
        · rw [z]; exact Nat.le_add_right _ _
        · rw [z]; exact Nat.le_add_right _ _
        · rw [z]; exact Nat.le_refl _
        · rw [z]; exact Nat.le_add_right _ _
      exact I1.fpOk hle (I1.hok.fresh hle)
def iZipQ (K : PySem.W.Frag) (ta : TA) : TI := fun σ H R => iZip K ta σ H R ∨ iZipT K ta σ H R
theorem pi_zipQ {X : Cx} {e e2 : Expr} {ta : TA} {p pos tpos : Pos} {elts : List Expr} {kk : Nat} (hg : Gl X "zip") (hm : X.mg "zip" = none) (ha : PA X [e, e2] ta)
    (hs : starEach [e, e2] X.env = (false, eval e X.env) :: starEach [e2] X.env := by rfl) (hpl : (backTo pos (starEach [e2] X.env)).any (·.1) = false := by rfl) :
    PI X (.Tuple elts kk tpos) (.Call (.Name "zip" p) [e, e2] [] pos) (iZipQ X.K ta) := by
  intro pins s σ H R I h
  rcases h with h | h
  · exact pi_zip hg hm ha hs hpl pins s σ H R I h
  · exact pi_zipT hg hm ha hs hpl pins s σ H R I h
end Pk

namespace Pk
open PySem PySem.Spec PyProof.Rows L2
section
variable {K : PySem.W.Frag}
theorem kt_int_dict : PySem.W.kitOne K (.type "int") (.type "dict") = some false := by first | rfl | (unfold PySem.W.kitOne PySem.W.kitCls; decide +kernel)
theorem kt_int_list : PySem.W.kitOne K (.type "int") (.type "list") = some false := by first | rfl | (unfold PySem.W.kitOne PySem.W.kitCls; decide +kernel)
theorem kt_int_tuple : PySem.W.kitOne K (.type "int") (.type "tuple") = some false := by first | rfl | (unfold PySem.W.kitOne PySem.W.kitCls; decide +kernel)
theorem kt_int_str : PySem.W.kitOne K (.type "int") (.type "str") = some false := by first | rfl | (unfold PySem.W.kitOne PySem.W.kitCls; decide +kernel)
theorem kt_int_int : PySem.W.kitOne K (.type "int") (.type "int") = some true := by first | rfl | (unfold PySem.W.kitOne PySem.W.kitCls; decide +kernel)
theorem kt_int_bool : PySem.W.kitOne K (.type "int") (.type "bool") = some false := by first | rfl | (unfold PySem.W.kitOne PySem.W.kitCls; decide +kernel)
theorem kt_str_dict : PySem.W.kitOne K (.type "str") (.type "dict") = some false := by first | rfl | (unfold PySem.W.kitOne PySem.W.kitCls; decide +kernel)
theorem kt_str_list : PySem.W.kitOne K (.type "str") (.type "list") = some false := by first | rfl | (unfold PySem.W.kitOne PySem.W.kitCls; decide +kernel)
theorem kt_str_tuple : PySem.W.kitOne K (.type "str") (.type "tuple") = some false := by first | rfl | (unfold PySem.W.kitOne PySem.W.kitCls; decide +kernel)
theorem kt_str_str : PySem.W.kitOne K (.type "str") (.type "str") = some true := by first | rfl | (unfold PySem.W.kitOne PySem.W.kitCls; decide +kernel)
theorem kt_list_dict : PySem.W.kitOne K (.type "list") (.type "dict") = some false := by first | rfl | (unfold PySem.W.kitOne PySem.W.kitCls; decide +kernel)
theorem kt_list_list : PySem.W.kitOne K (.type "list") (.type "list") = some true := by first | rfl | (unfold PySem.W.kitOne PySem.W.kitCls; decide +kernel)
theorem kt_list_tuple : PySem.W.kitOne K (.type "list") (.type "tuple") = some false := by first | rfl | (unfold PySem.W.kitOne PySem.W.kitCls; decide +kernel)
theorem kt_tuple_dict : PySem.W.kitOne K (.type "tuple") (.type "dict") = some false := by first | rfl | (unfold PySem.W.kitOne PySem.W.kitCls; decide +kernel)
theorem kt_tuple_list : PySem.W.kitOne K (.type "tuple") (.type "list") = some false := by first | rfl | (unfold PySem.W.kitOne PySem.W.kitCls; decide +kernel)
theorem kt_tuple_tuple : PySem.W.kitOne K (.type "tuple") (.type "tuple") = some true := by first | rfl | (unfold PySem.W.kitOne PySem.W.kitCls; decide +kernel)
theorem isi {H : Hp} {x : V} {c : String} {t : Value} {b : Bool} {Q : VK} (ty : TyOf K H x t) (e : PySem.W.kitOne K t (.type c) = some b) (q : Q (.bl b) H) : rIsi K [x, .ty c] H Q := ⟨x, c, t, b, rfl, ty, e, q⟩
end
/-! ### comprehensions over zip -/
section
variable {σ : L2.St} {H : Hp} {Q : VK} {ta : TA} {te : TE} {g : TG} {tt : TT} {vs : List Nat} {K : PySem.W.Frag}
theorem r_lcZ : tLc (iZipQ K ta) g tt te vs σ H Q = (ta σ H (fun ws H1 => ∃ a b xs ys, ws = [.ref a, .ref b] ∧ SqL K H1 a xs ∧ SqL K H1 b ys ∧ lcIt (Itz K a b) g tt te vs σ H1 Q) ∨
    ta σ H (fun ws H1 => ∃ a b xs ys, ws = [.ref a, .ref b] ∧ SqT K H1 a xs ∧ SqT K H1 b ys ∧ lcIt (ItzT K a b) g tt te vs σ H1 Q)) := rfl
end
theorem lc_z {K : PySem.W.Frag} {a b : Addr} {xs ys : List V} {g : TG} {tt : TT} {te : TE} {vs : List Nat} {σ : L2.St} {H1 : Hp} {Q : VK} (hn : xs.length = ys.length) (h : ∀ D, H1 D = none → ∃ Pv : Nat → Hp → Prop, Pv 0 (upd H1 D (.lst [])) ∧ (∀ i H, Pv i H → SqL K H a xs ∧ SqL K H b ys) ∧
    (∀ i x y T H, xs[i]? = some x → ys[i]? = some y → Pv i H → H T = none → g (.ref T) (wipe σ vs) (upd H T (.tup [x, y])) fun σ2 H2 => wipe σ2 vs = wipe σ vs ∧ tt σ2 H2 fun c H3 =>
      if c = true then te σ2 H3 fun v H4 => ∃ acc, H4 D = some (.lst acc) ∧ acc.length < sizeLine ∧ Pv (i + 1) (upd H4 D (.lst (acc ++ [v]))) else Pv (i + 1) H3) ∧ ∀ H, Pv xs.length H → Q (.ref D) H) : lcIt (Itz K a b) g tt te vs σ H1 Q := fun D hD => by
  obtain ⟨Pv, h0, hl, hs, hd⟩ := h D hD
  refine ⟨fun i m H => m = xs.length - i ∧ i ≤ xs.length ∧ Pv i H, ⟨xs.length, by simp, Nat.zero_le _, h0⟩, ?_⟩
  rintro i m H ⟨rfl, hi, p⟩
  obtain ⟨q1, q2⟩ := hl i H p
  by_cases hlt : i < xs.length
  · refine .inr ⟨⟨xs, ys, xs[i], ys[i], q1, q2, by simp, by simp⟩, Pv (i + 1), fun H' p' => ⟨xs.length - (i + 1), by omega, rfl, hlt, p'⟩, fun v H' y => ?_⟩
    obtain ⟨T, x, y, rfl, hT, rfl, e1, e2⟩ := y
    exact hs i x y T H (e1 _ q1) (e2 _ q2) p hT
  · have e : i = xs.length := by omega
    subst e
    exact .inl ⟨⟨xs, ys, q1, q2, .inl (Nat.le_refl _)⟩, hd H p⟩
theorem lc_zT {K : PySem.W.Frag} {a b : Addr} {xs ys : List V} {g : TG} {tt : TT} {te : TE} {vs : List Nat} {σ : L2.St} {H1 : Hp} {Q : VK} (hn : xs.length = ys.length) (h : ∀ D, H1 D = none → ∃ Pv : Nat → Hp → Prop, Pv 0 (upd H1 D (.lst [])) ∧ (∀ i H, Pv i H → SqT K H a xs ∧ SqT K H b ys) ∧
    (∀ i x y T H, xs[i]? = some x → ys[i]? = some y → Pv i H → H T = none → g (.ref T) (wipe σ vs) (upd H T (.tup [x, y])) fun σ2 H2 => wipe σ2 vs = wipe σ vs ∧ tt σ2 H2 fun c H3 =>
      if c = true then te σ2 H3 fun v H4 => ∃ acc, H4 D = some (.lst acc) ∧ acc.length < sizeLine ∧ Pv (i + 1) (upd H4 D (.lst (acc ++ [v]))) else Pv (i + 1) H3) ∧ ∀ H, Pv xs.length H → Q (.ref D) H) : lcIt (ItzT K a b) g tt te vs σ H1 Q := fun D hD => by
  obtain ⟨Pv, h0, hl, hs, hd⟩ := h D hD
  refine ⟨fun i m H => m = xs.length - i ∧ i ≤ xs.length ∧ Pv i H, ⟨xs.length, by simp, Nat.zero_le _, h0⟩, ?_⟩
  rintro i m H ⟨rfl, hi, p⟩
  obtain ⟨q1, q2⟩ := hl i H p
  by_cases hlt : i < xs.length
  · refine .inr ⟨⟨xs, ys, xs[i], ys[i], q1, q2, by simp, by simp⟩, Pv (i + 1), fun H' p' => ⟨xs.length - (i + 1), by omega, rfl, hlt, p'⟩, fun v H' y => ?_⟩
    obtain ⟨T, x, y, rfl, hT, rfl, e1, e2⟩ := y
    exact hs i x y T H (e1 _ q1) (e2 _ q2) p hT
  · have e : i = xs.length := by omega
    subst e
    exact .inl ⟨⟨xs, ys, q1, q2, Nat.le_refl _⟩, hd H p⟩
/-! ### two values that read alike, to a depth below n -/
def EqA : Nat → Hp → V → V → Prop
  | 0, _, _, _ => False
  | n + 1, H, x, y => (x = .non ∧ y = .non) ∨ (∃ i, x = .int i ∧ y = .int i) ∨ (∃ s, x = .str s ∧ y = .str s) ∨
      ∃ a b xs ys, x = .ref a ∧ y = .ref b ∧ ((H a = some (.lst xs) ∧ H b = some (.lst ys)) ∨ (H a = some (.tup xs) ∧ H b = some (.tup ys))) ∧ xs.length = ys.length ∧ xs.length < 100000 ∧ ∀ (i : Nat) (x y : V), xs[i]? = some x → ys[i]? = some y → EqA n H x y
theorem EqA.same {H H' : Hp} (s : Same H H') : ∀ {n : Nat} {x y : V}, EqA n H x y → EqA n H' x y
  | 0, _, _, h => False.elim h
  | n + 1, x, y, h => by
    rcases h with h | h | h | ⟨a, b, xs, ys, e1, e2, h, h2, h3, h4⟩
    · exact Or.inl h
    · exact Or.inr (Or.inl h)
    · exact Or.inr (Or.inr (Or.inl h))
    · refine Or.inr (Or.inr (Or.inr ⟨a, b, xs, ys, e1, e2, ?_, h2, h3, fun i x y g1 g2 => EqA.same s (h4 i x y g1 g2)⟩))
      rcases h with ⟨q1, q2⟩ | ⟨q1, q2⟩
      · exact .inl ⟨s _ _ q1, s _ _ q2⟩
      · exact .inr ⟨s _ _ q1, s _ _ q2⟩
theorem EqA.i {n : Nat} {H : Hp} {i : Int} : EqA (n + 1) H (.int i) (.int i) := Or.inr (Or.inl ⟨i, rfl, rfl⟩)
theorem EqA.s {n : Nat} {H : Hp} {x : Str} : EqA (n + 1) H (.str x) (.str x) := Or.inr (Or.inr (Or.inl ⟨x, rfl, rfl⟩))
theorem EqA.n {n : Nat} {H : Hp} : EqA (n + 1) H .non .non := Or.inl ⟨rfl, rfl⟩
/-- two lists of the same flat items -/
theorem EqA.l {n : Nat} {H : Hp} {a b : Addr} {xs : List V} (h1 : H a = some (.lst xs)) (h2 : H b = some (.lst xs)) (hl : xs.length < 100000) (h : ∀ x ∈ xs, EqA n H x x) : EqA (n + 1) H (.ref a) (.ref b) :=
  Or.inr (Or.inr (Or.inr ⟨a, b, xs, xs, rfl, rfl, .inl ⟨h1, h2⟩, rfl, hl, fun i x y g1 g2 => by rw [g1] at g2; cases g2; exact h x (List.mem_of_getElem? g1)⟩))
theorem EqA.t {n : Nat} {H : Hp} {a b : Addr} {xs : List V} (h1 : H a = some (.tup xs)) (h2 : H b = some (.tup xs)) (hl : xs.length < 100000) (h : ∀ x ∈ xs, EqA n H x x) : EqA (n + 1) H (.ref a) (.ref b) :=
  Or.inr (Or.inr (Or.inr ⟨a, b, xs, xs, rfl, rfl, .inr ⟨h1, h2⟩, rfl, hl, fun i x y g1 g2 => by rw [g1] at g2; cases g2; exact h x (List.mem_of_getElem? g1)⟩))
def spSame (n : Nat) : Sp := fun vs H Q _ => ∃ x y, vs = [x, y] ∧ EqA n H x y ∧ ∀ H', Same H H' → Q (.bl true) H'
theorem all_true : ∀ n : Nat, ((List.replicate n true).all id) = true := by simp
end Pk

namespace Pk
open PySem PySem.Spec PyProof.Rows L2
/-! ### no star -/
section
variable {es : List Expr} {env : Env}
theorem st_Constant {a b c} : starEach (.Constant a b c :: es) env = (false, eval (.Constant a b c) env) :: starEach es env := rfl
theorem st_Name {a b} : starEach (.Name a b :: es) env = (false, eval (.Name a b) env) :: starEach es env := rfl
theorem st_BinOp {a b c d} : starEach (.BinOp a b c d :: es) env = (false, eval (.BinOp a b c d) env) :: starEach es env := rfl
theorem st_UnaryOp {a b c} : starEach (.UnaryOp a b c :: es) env = (false, eval (.UnaryOp a b c) env) :: starEach es env := rfl
theorem st_Compare {a b c d} : starEach (.Compare a b c d :: es) env = (false, eval (.Compare a b c d) env) :: starEach es env := rfl
theorem st_List {a b} : starEach (.List a b :: es) env = (false, eval (.List a b) env) :: starEach es env := rfl
theorem st_Tuple {a b c} : starEach (.Tuple a b c :: es) env = (false, eval (.Tuple a b c) env) :: starEach es env := rfl
theorem st_Subscript {a b c} : starEach (.Subscript a b c :: es) env = (false, eval (.Subscript a b c) env) :: starEach es env := rfl
theorem st_Call {a b c d} : starEach (.Call a b c d :: es) env = (false, eval (.Call a b c d) env) :: starEach es env := rfl
theorem st_Attribute {a b c} : starEach (.Attribute a b c :: es) env = (false, eval (.Attribute a b c) env) :: starEach es env := rfl
theorem st_ListComp {a b c d} : starEach (.ListComp a b c d :: es) env = (false, eval (.ListComp a b c d) env) :: starEach es env := rfl
end
/-- a list of items, shut -/
structure PAo (X : Cx) (es : List Expr) (t : TA) : Prop where
  h : PA X es t
/-! ### lists of ints as data -/
section
variable {K : PySem.W.Frag} {H : Hp}
theorem dp_ints : ∀ ms : List Int, DpAll K H (ms.map V.int) (ms.map PyData.int)
  | [] => .nil
  | m :: ms => .cons (.int m) (dp_ints ms)
theorem dp_lst {p : Addr} {ms : List Int} (h : H p = some (.lst (ms.map V.int))) : Dp K H (.ref p) (.list (ms.map PyData.int)) := .lst (SqL.of h) (dp_ints ms)
theorem lay_ints : ∀ ms : List Int, PyData.canLayAll0 (ms.map PyData.int) = true
  | [] => rfl
  | m :: ms => by rw [List.map_cons, PyData.canLayAll0, lay_ints ms]; rfl
theorem depth_ints : ∀ ms : List Int, PyData.depthAll (ms.map PyData.int) = 0
  | [] => rfl
  | m :: ms => by rw [List.map_cons, PyData.depthAll, depth_ints ms]; rfl
theorem shaped_ints (ms : List Int) : SeqAt.shaped (.list (ms.map PyData.int)) = true := by
  unfold SeqAt.shaped
  rw [PyData.canLay0, lay_ints, PyData.depth, depth_ints]
  rfl
end
def spBegin (K : PySem.W.Frag) : Sp := fun vs H Q _ => ∃ (a : Addr) (ns : List Int), vs = [.ref a] ∧ SqL K H a (ns.map V.int) ∧ ∀ d c H', Same H H' → H d = none → H c = none → StA H' d c 0 → Q (.ref d) H'
def spNumber : Sp := fun vs H Q _ => ∃ (d c : Addr) (b : Nat), vs = [.ref d] ∧ StA H d c b ∧ b + 10 < 100000000 ∧ ∀ (n : Int) H', n.natAbs < 10 ^ 18 → StA H' d c (b + 5) → Fr d c H H' → Q (.int n) H'
def spAny : Sp := fun vs H Q _ => ∃ (d c : Addr) (b : Nat), vs = [.ref d] ∧ StA H d c b ∧ b + 20 < 100000000 ∧ ∀ (n : Int) H', Small n → StA H' d c (b + 12) → Fr d c H H' → Q (.int n) H'
def spNoise : Sp := fun vs H Q _ => ∃ (d c : Addr) (b : Nat) (m : Nat), vs = [.ref d, .int m] ∧ StA H d c b ∧ m ≤ 100 ∧ b + 4 * m < 100000000 ∧ ∀ p (ns : List Int) H', StA H' d c (b + 4 * m) → Fr d c H H' → H p = none → H' p = some (.lst (ns.map V.int)) → ns.length = m → (∀ x ∈ ns, 0 ≤ x ∧ x < 256) → Q (.ref p) H'
theorem disp_st {σ : L2.St} {H : Hp} {Q : VK} {l : Addr} {ns : List Int} (hl : H l = some (.lst (ns.map V.int))) (hne : ns ≠ []) (hn : ns.length ≤ 63) (hσ : σ[1]? = some (some (.ref l)))
    (k : ∀ d H', H d = none → Same H H' → StA H' d l 0 → Q (.ref d) H') : tDisp [(tC (V.str "cells"), tVar 1), (tC (V.str "turn"), tC (V.int 0))] σ H Q := by
  intro p hp
  have e : mergeK [] [((Sum.inr "cells" : Key), V.ref l), (Sum.inr "turn", V.int 0)] = [((Sum.inr "cells" : Key), V.ref l), (Sum.inr "turn", V.int 0)] := by
    simp [mergeK, putK, kct]
  refine ⟨_, hσ, upd_same, [((Sum.inr "cells" : Key), V.ref l), (Sum.inr "turn", V.int 0)], rfl, by show 2 ≤ 15; decide, ?_⟩
  rw [e]
  refine k p _ hp (Same.upd (Same.new hp) hp) ⟨ns, 0, hne, hn, Int.le_refl _, by simp, ?_, upd_same⟩
  rw [upd_ne (ne_of_none hl hp), upd_ne (ne_of_none hl hp)]
  exact hl
end Pk
namespace Pk
open PySem L2
theorem Lv.sm {d c : Addr} {H H' : Hp} {a : Addr} {o : HO} (l : Lv d c H a o) (s : Same H H') : Lv d c H' a o := l.fr (.of s)
theorem Lv.nn {d c : Addr} {H : Hp} {a p : Addr} {o : HO} (l : Lv d c H a o) (hp : H p = none) : a ≠ p := ne_of_none l.1 hp
end Pk
namespace Pk
open PySem PySem.Spec PyProof.Rows L2
/-! ### division by a divisor below 2 ^ 64 -/
def CDivW (i j : Int) : Prop := 0 < j ∧ j < 18446744073709551616
theorem nopl {x j : Int} (h1 : 0 < j) (h2 : j < 18446744073709551616) : Builtin.divisionGoesByPylong x j = false := by
  refine PyProof.noPylong_of_log2 ?_
  have z : j.natAbs.log2 < 64 := (Nat.log2_lt (by omega)).mpr (by omega)
  omega
section
variable {X : Cx}
theorem op_fdivW : OpR X (binaryOp .FloorDiv) (rI CDivW fun i j => .int (i / j)) := opI fun i j _ _ _ _ _ hc q => by
  have h1 : (0 : Int) < j := hc.1
  exact floordiv_int (by omega) (by rw [Int.fdiv_eq_ediv_of_nonneg i (by omega)]; exact q) (.inl (nopl hc.1 hc.2))
theorem call_divmodW : CallR X (.builtin "divmod") (fun xs H Q => ∃ i j, xs = [.int i, .int j] ∧ CDivW i j ∧ ∀ p, H p = none → Q (.ref p) (upd H p (.tup [.int (i / j), .int (i % j)]))) := by
  intro pins s σ H xs us Q I r h
  obtain ⟨i, j, rfl, ⟨h1, h2⟩, q⟩ := h
  obtain ⟨u, w', rfl, ⟨t, rfl⟩, ⟨t', rfl⟩⟩ := vals2 r
  refine divmod_int (by omega) ?_ (.inl (nopl h1 h2))
  rw [Int.fdiv_eq_ediv_of_nonneg i (by omega), Int.fmod_eq_emod_of_nonneg i (by omega)]
  have hn : H s.heap.objs.size = none := I.hok.fresh (Nat.le_refl _)
  refine ⟨.ref s.heap.objs.size, _, ?_, rfl, q _ hn⟩
  refine I.laid (fun b o e => Heap.get?_push_of_some _ e) (Nat.le_refl _) ⟨by show 2 ≤ sizeLine; decide, [.int (i / j) s.toks, .int (i % j) (s.toks + 1)], .cons ⟨_, rfl⟩ (.cons ⟨_, rfl⟩ .nil), ?_⟩
  exact ⟨_, Heap.get?_push_size s.heap rfl, rfl, 0, rfl⟩
end
end Pk

namespace Pk
open PySem PySem.Spec PyProof.Rows L2
/-! ### texts: repeated, searched, walked -/
section
variable {X : Cx}
def rSidx : V → List V → Hp → VK → Prop := fun x xs H Q => ∃ (a b : Str) (i : Nat) (rest : List Nat), x = .str a ∧ xs = [.str b] ∧ Builtin.Str.occurrences a b 0 a.length 1 = i :: rest ∧ Q (.int i) H
end
/-! ### enumerate(text) -/
def ItE (x : Str) : It := ⟨fun i _ => i < x.cps.size, fun i H v H' => ∃ T c, v = .ref T ∧ H T = none ∧ x.cps[i]? = some c ∧ H' = upd H T (.tup [.int (i : Nat), .str ⟨#[c]⟩]), fun i _ => x.cps.size ≤ i⟩
def iEnumS (ta : TA) : TI := fun σ H R => ta σ H fun vs H1 => ∃ x, vs = [.str x] ∧ R (ItE x) H1
end Pk

namespace Pk
open PySem PySem.Spec PyProof.Rows L2
/-! ### the signs -/
def sgT : Str := " !\"#$&'()*+,-./0123456789:;<=>?@ABCDEFGHIJKLMNOPQRSTUVWXYZ[\\]^_`abcdefghijklmnopqrstuvwxyz{|}~"
def okC (c : Nat) : Bool := decide (32 ≤ c) && decide (c ≤ 126) && decide (c ≠ 37)
def sx (c : Nat) : Nat := if c < 37 then c - 32 else c - 33
/-- a text of a cell -/
structure OkT (t : Str) : Prop where
  l : t.length ≤ 20
  c : ∀ c ∈ t.cps.toList, okC c = true
def sxi (c : Nat) : Int := (sx c : Int)
def tb (t : Str) : List Int := nb (zig t.length) ++ t.cps.toList.map sxi
/-! ### cells -/
def OkCell (v : V) : Prop := v = .non ∨ (∃ n, v = .int n ∧ Small n) ∨ ∃ t, v = .str t ∧ OkT t
def cb : V → List Int
  | .int n => 1 :: nb (zig n)
  | .str t => 2 :: tb t
  | _ => [0]
def spKind : Sp := fun vs H Q _ => ∃ v, vs = [v] ∧ OkCell v ∧ Q (match v with | .int _ => .str "number" | .str _ => .str "text" | _ => .non) H
def spTb : Sp := fun vs H Q _ => ∃ t : Str, vs = [.str t] ∧ OkT t ∧ ∀ p H', Same H H' → H p = none → H' p = some (.lst ((tb t).map V.int)) → Q (.ref p) H'
def spCb : Sp := fun vs H Q _ => ∃ v, vs = [v] ∧ OkCell v ∧ ∀ p H', Same H H' → H p = none → H' p = some (.lst ((cb v).map V.int)) → Q (.ref p) H'
def spTt : Sp := fun vs H Q _ => ∃ (r : Addr) (pre post : List Int) (t : Str), vs = [.ref r, .int pre.length] ∧ Sq H r ((pre ++ (tb t ++ post)).map V.int) ∧ OkT t ∧ ∀ p H', Same H H' → H p = none → H' p = some (.tup [.str t, .int (pre.length + (tb t).length)]) → Q (.ref p) H'
def spTc : Sp := fun vs H Q _ => ∃ (r : Addr) (pre post : List Int) (v : V), vs = [.ref r, .int pre.length] ∧ Sq H r ((pre ++ (cb v ++ post)).map V.int) ∧ OkCell v ∧ (cb v).length ≤ 30 ∧ (∀ n, v = .int n → (nb (zig n)).length ≤ 9) ∧ ∀ p H', Same H H' → H p = none → H' p = some (.tup [v, .int (pre.length + (cb v).length)]) → Q (.ref p) H'
def spText (m : Nat) : Sp := fun vs H Q _ => ∃ (d c : Addr) (b : Nat), vs = [.ref d] ∧ StA H d c b ∧ b + (60 + m) < 100000000 ∧ ∀ (t : Str) H', OkT t → StA H' d c (b + (30 + m)) → Fr d c H H' → Q (.str t) H'
def spSigns : Sp := fun vs H Q _ => vs = [] ∧ Q (.str sgT) H
/-! ### one text out of many single signs -/
/-! ### pairs in a row -/
def kv94 : List (Key × V) := sgT.cps.toList.mapIdx fun i c => ((Sum.inr ⟨#[c]⟩ : Key), V.int (i : Int))
def chkT (t : Str) : Bool := decide (t.length ≤ 20) && t.cps.toList.all okC
def sgn1 (c : Nat) : Str := ⟨#[c]⟩
/-- what is read back of a text or a cell is it, and the place behind -/
def spFR : Sp := fun vs H Q _ => ∃ (w : Str) (r : Addr) (pre post : List Int) (v : V) (m : Int), vs = [.str w, .ref r, .int pre.length, v, .int m] ∧
  ((w = Str.ofString "text" ∧ ∃ t, v = .str t ∧ OkT t ∧ m = (tb t).length ∧ Sq H r ((pre ++ (tb t ++ post)).map V.int)) ∨
   (w = Str.ofString "cell" ∧ OkCell v ∧ m = (cb v).length ∧ (cb v).length ≤ 30 ∧ (∀ n, v = .int n → (nb (zig n)).length ≤ 9) ∧ Sq H r ((pre ++ (cb v ++ post)).map V.int))) ∧ ∀ H', Same H H' → Q (.bl true) H'
end Pk
namespace Pk
open PySem L2
end Pk
namespace Pk
open PySem L2
/-- a cell of a kind -/
def OkK (kd : Str) (v : V) : Prop := v = .non ∨ (kd = Str.ofString "number" ∧ ∃ n : Int, v = .int n ∧ n.natAbs < 10 ^ 18) ∨ (kd = Str.ofString "text" ∧ ∃ t, v = .str t ∧ OkT t)
def spCells : Sp := fun vs H Q _ => ∃ (d c : Addr) (b : Nat) (kd : Str) (m : Nat), vs = [.ref d, .str kd, .int m] ∧ (kd = Str.ofString "number" ∨ kd = Str.ofString "text") ∧ StA H d c b ∧ m ≤ 70 ∧ b + 1500 < 100000000 ∧
  ∀ p (ws : List V) H', StA H' d c (b + 1000) → Fr d c H H' → H p = none → H' p = some (.lst ws) → ws.length = m → (∀ v ∈ ws, OkK kd v) → Q (.ref p) H'
end Pk

namespace Pk
open PySem PySem.Spec PyProof.Rows L2
/-! ### enumerate over a tuple -/
section
variable {prog : Program} {w : World} {A : Around} {E : Value → Shared → Prop} {s : Shared}
end
def IteT (K : PySem.W.Frag) (a : Addr) : It :=
  ⟨fun i H => ∃ (xs : List V) (x : V), SqT K H a xs ∧ xs[i]? = some x, fun i H v H' => ∃ T x, v = .ref T ∧ H T = none ∧ H' = upd H T (.tup [.int (i : Nat), x]) ∧ ∀ xs, SqT K H a xs → xs[i]? = some x, fun i H => ∃ xs : List V, SqT K H a xs ∧ xs.length ≤ i⟩
def iEnumT (K : PySem.W.Frag) (ta : TA) : TI := fun σ H R => ta σ H fun vs H1 => ∃ a xs, vs = [.ref a] ∧ SqT K H1 a xs ∧ R (IteT K a) H1
/-- enumerate over a list or a tuple -/
def iEnumQ (K : PySem.W.Frag) (ta : TA) : TI := fun σ H R => iEnum K ta σ H R ∨ iEnumT K ta σ H R
section
variable {K : PySem.W.Frag} {a : Addr} {xs : List V} {g : TG} {tt : TT} {te : TE} {vs : List Nat} {σ : L2.St} {H1 : Hp} {Q : VK}
end
end Pk

namespace Pk
open PySem PySem.Spec PyProof.Rows L2
/-! ### the guarding sum -/
def pr (ns : List Int) : List Int := ns.mapIdx fun j x => ((j : Int) + 1) * (x + 1)
def sm4 (t : Int) : List Int := [t / 1 % 256, t / 256 % 256, t / 65536 % 256, t / 16777216 % 256]
def Byt (ns : List Int) : Prop := ∀ x ∈ ns, 0 ≤ x ∧ x < 256
def spSumOf : Sp := fun vs H Q _ => ∃ (r : Addr) (ns : List Int), vs = [.ref r] ∧ Sq H r (ns.map V.int) ∧ ns.length ≤ 100000 ∧ Byt ns ∧ ∀ p H', Same H H' → H p = none → H' p = some (.lst ((sm4 (pr ns).sum).map V.int)) → Q (.ref p) H'
def spAnyB : Sp := fun vs H Q _ => ∃ (d c : Addr) (b : Nat), vs = [.ref d] ∧ StA H d c b ∧ b + 100 < 100000000 ∧ ∀ p (ns : List Int) H', StA H' d c (b + 70) → Fr d c H H' → H p = none → H' p = some (.lst (ns.map V.int)) → ns.length ≤ 90000 → Byt ns → Q (.ref p) H'
section
variable {K K2 : PySem.W.Frag} {a : Addr} {xs : List V} {tt : TT} {te : TE} {vs : List Nat} {σ : L2.St} {H1 : Hp} {Q : VK}
end
def prV (n : Nat) : V → V | .int x => .int (((n : Int) + 1) * (x + 1)) | v => v
theorem Fr.free {d c : Addr} {H H' : Hp} {b : Nat} {p : Addr} (f : Fr d c H H') (st : StA H' d c b) (hp : H' p = none) : H p = none := by
  cases e : H p with
  | none => rfl
  | some o => have n := st.ne hp; rw [f p o e n.1 n.2] at hp; cases hp
end Pk

namespace Dd
open PySem L2 Pk
/-- an error that was caught, and is nobody's any more: its class, its own dict -/
def ErrO (e C : Addr) (dx : Option Addr) (h : Heap) : Prop := ∃ vs, h.get? e = some { cls := .ref C, dict := dx, data := .fields vs, slots := #[] }
def keyed (fs : List (Str × V)) : List (Key × V) := fs.map fun p => (Sum.inr p.1, p.2)
end Dd

namespace Oc
open PySem PySem.Spec PyProof.Rows L2
/-! ### dicts whose keys are ints, texts and None -/
abbrev OKey := Option Key
def okIs : OKey → Value → Bool
  | none, v => v == .none
  | some k, v => keyIs k v
theorem okIs_shape {k : OKey} {v : Value} (h : okIs k v = true) : (k = none ∧ v = .none) ∨ ∃ k', k = some k' ∧ keyIs k' v = true := by
  cases k with
  | none => exact .inl ⟨rfl, eq_of_beq h⟩
  | some k' => exact .inr ⟨k', rfl, h⟩
def okH (w : World) : OKey → Int
  | none => 0xFCA86420
  | some k => keyH w k
section
variable {prog : Program} {w : World} {A : Around} {E : Value → Shared → Prop} {s : Shared}
theorem hash_none {Q : Int → Shared → Prop} (h : Q 0xFCA86420 { s with toks := s.toks + 1 }) : wpAny (model prog w) A (pyHash .none) Q E s := by
  have hT : s.TypeIs .none "NoneType" := rfl
  show wpAny _ _ (pyHashByItsType .none) Q E s
  unfold pyHashByItsType
  have hv : [Value.none].any Value.onHeap = false := rfl
  refine wpAny_bind ?_
  rw [cRoomFor, if_neg (by rw [hv]; exact Bool.false_ne_true)]
  refine wpAny_pure ?_
  refine wpAny_bind (wpAny_specialOf hT F.slot_NoneType_hash.lookup ?_)
  show wpAny _ _ (if (some (Value.builtin "NoneType.__hash__") == some Value.none) = true then _ else _) Q E s
  rw [if_neg (by rw [beq_builtin_none]; exact Bool.false_ne_true)]
  refine wpAny_bind (wpAny_specialOf hT F.slot_NoneType_hash.lookup ?_)
  show wpAny _ _ (callSpecialIfBoundUnlessNone? .none "__hash__" _ >>= _) Q E s
  refine wpAny_bind (wpAny_callSpecialIfBoundUnlessNone?_slot hT F.slot_NoneType_hash
    (wpAny_call_entry F.slot_NoneType_hash hT F.entry_NoneType_hash
      (wpAny_bind (wpAny_pure (wpAny_bind (wpAny_mkInt (wpAny_pure ⟨_, rfl, ?_⟩))))) (F.args_NoneType_hash_1 _)))
  show wpAny _ _ (if (decide (-(2 : Int) ^ 63 ≤ 0xFCA86420) && decide ((0xFCA86420 : Int) < 2 ^ 63)) = true then _ else _) Q E _
  rw [if_pos (by decide)]
  exact wpAny_pure h
end
theorem eq_none_key {prog : Program} {w : World} {A : Around} {E : Value → Shared → Prop} {s : Shared} {k : Key} {v : Value} {Q : Bool → Shared → Prop} (h : keyIs k v = true) (q : Q false s) : wpAny (model prog w) A (eqBool .none v) Q E s := by
  rcases keyIs_shape h with ⟨i, t, rfl, rfl⟩ | ⟨x, t, rfl, rfl⟩
  · exact SeqAt.EqAt.none_int i t _ _ _ _ q
  · exact SeqAt.EqAt.none_str x t _ _ _ _ q
theorem eq_key_none {prog : Program} {w : World} {A : Around} {E : Value → Shared → Prop} {s : Shared} {k : Key} {v : Value} {Q : Bool → Shared → Prop} (h : keyIs k v = true) (q : Q false s) : wpAny (model prog w) A (eqBool v .none) Q E s := by
  rcases keyIs_shape h with ⟨i, t, rfl, rfl⟩ | ⟨x, t, rfl, rfl⟩
  · exact SeqAt.EqAt.int_none i t _ _ _ _ q
  · exact SeqAt.EqAt.str_none x t _ _ _ _ q
/-- a set of so many items -/
def SetN (a : Addr) (n : Nat) (h : Heap) : Prop := ∃ o es ep t, h.get? a = some o ∧ o.ExactSet ∧ o.data = .set es ep t ∧ t.fits es.size = true ∧ es.size = n ∧ n < 100000
def optKind (prog : Program) (w : World) : PySem.KeyKind prog w OKey where
  is := okIs
  hash := okH w
  inj := fun v a b ha hb => by
    rcases okIs_shape ha with ⟨rfl, rfl⟩ | ⟨ka, rfl, ha⟩
    · rcases okIs_shape hb with ⟨rfl, _⟩ | ⟨kb, rfl, hb⟩
      · rfl
      · rcases keyIs_shape hb with ⟨i, t, _, e⟩ | ⟨x, t, _, e⟩ <;> cases e
    · rcases okIs_shape hb with ⟨rfl, rfl⟩ | ⟨kb, rfl, hb⟩
      · rcases keyIs_shape ha with ⟨i, t, _, e⟩ | ⟨x, t, _, e⟩ <;> cases e
      · rw [(mixKind prog w).inj v ka kb ha hb]
  byValue := fun k v h => by
    rcases okIs_shape h with ⟨rfl, rfl⟩ | ⟨k', rfl, h⟩
    · rfl
    · exact (mixKind prog w).byValue k' v h
  pyHash := fun hv h => by
    rcases okIs_shape hv with ⟨rfl, rfl⟩ | ⟨k', rfl, hv⟩
    · exact hash_none h
    · exact (mixKind prog w).pyHash hv h
  eqBool := fun {A E s a b u v Q} hu hv h => by
    rcases okIs_shape hu with ⟨rfl, rfl⟩ | ⟨ka, rfl, hu⟩
    · rcases okIs_shape hv with ⟨rfl, rfl⟩ | ⟨kb, rfl, hv⟩
      · rw [show decide ((none : OKey) = none) = true from by simp] at h
        unfold PySem.eqBool
        refine wpAny_holding ?_
        rw [if_pos (by decide)]
        exact wpAny_bind (wpAny_rule (wpAny_pure h))
      · rw [show decide ((none : OKey) = some kb) = false from by simp] at h
        exact eq_none_key hv h
    · rcases okIs_shape hv with ⟨rfl, rfl⟩ | ⟨kb, rfl, hv⟩
      · rw [show decide ((some ka : OKey) = none) = false from by simp] at h
        exact eq_key_none hu h
      · rw [show decide ((some ka : OKey) = some kb) = decide (ka = kb) from by simp] at h
        exact (mixKind prog w).eqBool hu hv h
  «strs» := fun k x t v h => by
    rcases okIs_shape h with ⟨_, e⟩ | ⟨k', rfl, h⟩
    · cases e
    · exact (mixKind prog w).strs k' x t v h
def okV : OKey → V
  | none => .non
  | some k => kV k
/-- such a dict, whole -/
def DicO (w : World) (a : Addr) (kvs : List (OKey × V)) (h : Heap) : Prop := (a == sysModules) = false ∧ ∃ vs, KV kvs vs ∧ ∀ P : Program, h.DictOf (optKind P w) a vs
end Oc

namespace Dd
open PySem L2 Pk
/-! ### data, without addresses -/
inductive D where
  | non | bl (b : Bool) | int (i : Int) | str (s : Str) | lst (xs : List D) | tup (xs : List D) | fn (a : Addr) | dk (kvs : List (Key × D)) | dl (kvs : List (Key × D)) | er (C : Addr) (kvs : List (Key × D)) | ob (C : Addr) (kvs : List (Key × D)) | om (w : World) (kvs : List (Option Key × D)) | se (n : Nat)
/-- what a name holds: nothing known, a datum that stays, a list of the name's own, a list of the caller's, the draws' state -/
inductive Sl where
  | no | val (d : D) | own (ds : List D) | bb (ds : List D) | st | bo (p C : Addr) (kds : List (Key × D))
/-- what an expression gives: a datum that stays, a list that stands in a name, a new list -/
inductive Rs where
  | s (d : D) | b (ds : List D) | p (ds : List D) | o (ds : List D) | g
def Rs.d : Rs → D
  | .s d => d | .b ds => .lst ds | .p ds => .lst ds | .o ds => .lst ds | .g => .fn 0
mutual
inductive Rp (K : PySem.W.Frag) (F : Hp) : V → D → Prop
  | non : Rp K F .non .non
  | bl (b : Bool) : Rp K F (.bl b) (.bl b)
  | int (i : Int) : Rp K F (.int i) (.int i)
  | str (x : Str) : Rp K F (.str x) (.str x)
  | lst {a : Addr} {vs : List V} {ds : List D} : F a = some (.lst vs) → RpA K F vs ds → Rp K F (.ref a) (.lst ds)
  | tup {a : Addr} {vs : List V} {ds : List D} : F a = some (.tup vs) → RpA K F vs ds → Rp K F (.ref a) (.tup ds)
  | fn (a : Addr) : Rp K F (.ref a) (.fn a)
  | dk {a : Addr} {kvs : List (Key × V)} {kds : List (Key × D)} : F a = some (.dK kvs) → RpK K F kvs kds → Rp K F (.ref a) (.dk kds)
  | dl {a : Addr} {o : Obj} {kvs : List (Key × V)} {kds : List (Key × D)} : F a = some (.frz o (.dK kvs)) → RpK K F kvs kds → Rp K F (.ref a) (.dl kds)
  | er0 {a C : Addr} : F a = some (.ext (ErrO a C none)) → Rp K F (.ref a) (.er C [])
  | er {a C dx : Addr} {fs : List (Str × V)} {kds : List (Key × D)} : F a = some (.ext (ErrO a C (some dx))) → F dx = some (.xd fs) → RpK K F (keyed fs) kds → Rp K F (.ref a) (.er C kds)
  | om {a : Addr} {w : World} {kvs : List (Option Key × V)} {kds : List (Option Key × D)} : F a = some (.ext (Oc.DicO w a kvs)) → RpO K F kvs kds → Rp K F (.ref a) (.om w kds)
  | se {a : Addr} {n : Nat} {f : Heap → Prop} : F a = some (.ext f) → (∀ h, f h → Oc.SetN a n h) → Rp K F (.ref a) (.se n)
  | ob {a C dx : Addr} {fs : List (Str × V)} {kds : List (Key × D)} : F a = some (.ins C dx fs) → F dx = some (.own a) → RpK K F (keyed fs) kds → Rp K F (.ref a) (.ob C kds)
inductive RpA (K : PySem.W.Frag) (F : Hp) : List V → List D → Prop
  | nil : RpA K F [] []
  | cons {v : V} {vs : List V} {d : D} {ds : List D} : Rp K F v d → RpA K F vs ds → RpA K F (v :: vs) (d :: ds)
inductive RpO (K : PySem.W.Frag) (F : Hp) : List (Option Key × V) → List (Option Key × D) → Prop
  | nil : RpO K F [] []
  | cons {k : Option Key} {v : V} {vs : List (Option Key × V)} {d : D} {ds : List (Option Key × D)} : Rp K F v d → RpO K F vs ds → RpO K F ((k, v) :: vs) ((k, d) :: ds)
inductive RpK (K : PySem.W.Frag) (F : Hp) : List (Key × V) → List (Key × D) → Prop
  | nil : RpK K F [] []
  | cons {k : Key} {v : V} {vs : List (Key × V)} {d : D} {ds : List (Key × D)} : Rp K F v d → RpK K F vs ds → RpK K F ((k, v) :: vs) ((k, d) :: ds)
end
mutual
theorem Rp.mono {K : PySem.W.Frag} {F F' : Hp} (h : ∀ a o, F a = some o → F' a = some o) : ∀ {v : V} {d : D}, Rp K F v d → Rp K F' v d
  | _, _, .non => .non
  | _, _, .bl b => .bl b
  | _, _, .int i => .int i
  | _, _, .str x => .str x
  | _, _, .lst e q => .lst (h _ _ e) (RpA.mono h q)
  | _, _, .tup e q => .tup (h _ _ e) (RpA.mono h q)
  | _, _, .fn a => .fn a
  | _, _, .dk e q => .dk (h _ _ e) (RpK.mono h q)
  | _, _, .dl e q => .dl (h _ _ e) (RpK.mono h q)
  | _, _, .er0 e => .er0 (h _ _ e)
  | _, _, .er e e' q => .er (h _ _ e) (h _ _ e') (RpK.mono h q)
  | _, _, .om e q => .om (h _ _ e) (RpO.mono h q)
  | _, _, .se e q => .se (h _ _ e) q
  | _, _, .ob e e' q => .ob (h _ _ e) (h _ _ e') (RpK.mono h q)
theorem RpA.mono {K : PySem.W.Frag} {F F' : Hp} (h : ∀ a o, F a = some o → F' a = some o) : ∀ {vs : List V} {ds : List D}, RpA K F vs ds → RpA K F' vs ds
  | _, _, .nil => .nil
  | _, _, .cons a r => .cons (Rp.mono h a) (RpA.mono h r)
theorem RpO.mono {K : PySem.W.Frag} {F F' : Hp} (h : ∀ a o, F a = some o → F' a = some o) : ∀ {vs : List (Option Key × V)} {ds : List (Option Key × D)}, RpO K F vs ds → RpO K F' vs ds
  | _, _, .nil => .nil
  | _, _, .cons a r => .cons (Rp.mono h a) (RpO.mono h r)
theorem RpK.mono {K : PySem.W.Frag} {F F' : Hp} (h : ∀ a o, F a = some o → F' a = some o) : ∀ {vs : List (Key × V)} {ds : List (Key × D)}, RpK K F vs ds → RpK K F' vs ds
  | _, _, .nil => .nil
  | _, _, .cons a r => .cons (Rp.mono h a) (RpK.mono h r)
end
theorem RpA.length {K : PySem.W.Frag} {F : Hp} : ∀ {vs : List V} {ds : List D}, RpA K F vs ds → vs.length = ds.length
  | _, _, .nil => rfl
  | _, _, .cons _ r => by rw [List.length_cons, List.length_cons, r.length]
theorem RpA.append {K : PySem.W.Frag} {F : Hp} : ∀ {vs ws : List V} {ds es : List D}, RpA K F vs ds → RpA K F ws es → RpA K F (vs ++ ws) (ds ++ es)
  | _, _, _, _, .nil, q => q
  | _, _, _, _, .cons a r, q => .cons a (r.append q)
theorem RpA.one {K : PySem.W.Frag} {F : Hp} {v : V} {d : D} (h : Rp K F v d) : RpA K F [v] [d] := .cons h .nil
theorem RpA.get {K : PySem.W.Frag} {F : Hp} : ∀ {vs : List V} {ds : List D} {i : Nat} {d : D}, RpA K F vs ds → ds[i]? = some d → ∃ v, vs[i]? = some v ∧ Rp K F v d
  | _, _, i, _, .nil, e => by simp at e
  | _, _, 0, _, .cons a r, e => by
    rw [List.getElem?_cons_zero] at e ⊢
    cases e
    exact ⟨_, rfl, a⟩
  | _, _, i + 1, _, .cons a r, e => by
    rw [List.getElem?_cons_succ] at e ⊢
    exact r.get e
theorem RpA.getV {K : PySem.W.Frag} {F : Hp} : ∀ {vs : List V} {ds : List D} {i : Nat} {v : V}, RpA K F vs ds → vs[i]? = some v → ∃ d, ds[i]? = some d ∧ Rp K F v d
  | _, _, i, _, .nil, e => by simp at e
  | _, _, 0, _, .cons a r, e => by
    rw [List.getElem?_cons_zero] at e ⊢
    cases e
    exact ⟨_, rfl, a⟩
  | _, _, i + 1, _, .cons a r, e => by
    rw [List.getElem?_cons_succ] at e ⊢
    exact r.getV e
theorem RpA.set {K : PySem.W.Frag} {F : Hp} {v : V} {d : D} (h : Rp K F v d) : ∀ {vs : List V} {ds : List D} (i : Nat), RpA K F vs ds → RpA K F (vs.set i v) (ds.set i d)
  | _, _, _, .nil => .nil
  | _, _, 0, .cons _ r => .cons h r
  | _, _, i + 1, .cons a r => .cons a (r.set h i)
theorem RpA.drop {K : PySem.W.Frag} {F : Hp} : ∀ {vs : List V} {ds : List D} (n : Nat), RpA K F vs ds → RpA K F (vs.drop n) (ds.drop n)
  | _, _, 0, r => r
  | _, _, _ + 1, .nil => .nil
  | _, _, n + 1, .cons _ r => r.drop n
theorem RpA.take {K : PySem.W.Frag} {F : Hp} : ∀ {vs : List V} {ds : List D} (n : Nat), RpA K F vs ds → RpA K F (vs.take n) (ds.take n)
  | _, _, 0, _ => .nil
  | _, _, _ + 1, .nil => .nil
  | _, _, n + 1, .cons a r => .cons a (r.take n)
end Dd

namespace Dd
open PySem L2 Pk
/-! ### data by numbers: what may stand in the store -/
def cdPr (a b : Nat) : Nat := 2 ^ a * (2 * b + 1)
theorem cdPr_pos (a b : Nat) : 0 < cdPr a b := Nat.mul_pos (Nat.pow_pos (by decide)) (by omega)
theorem cdPr_inj : ∀ {a b c d : Nat}, cdPr a b = cdPr c d → a = c ∧ b = d
  | 0, b, 0, d, h => by unfold cdPr at h; simp at h; exact ⟨rfl, by omega⟩
  | 0, b, c + 1, d, h => by unfold cdPr at h; rw [Nat.pow_succ', Nat.mul_assoc] at h; omega
  | a + 1, b, 0, d, h => by unfold cdPr at h; rw [Nat.pow_succ', Nat.mul_assoc] at h; omega
  | a + 1, b, c + 1, d, h => by
    have h' : cdPr a b = cdPr c d := by unfold cdPr at h ⊢; rw [Nat.pow_succ', Nat.mul_assoc, Nat.pow_succ', Nat.mul_assoc] at h; omega
    obtain ⟨e1, e2⟩ := cdPr_inj h'
    exact ⟨by omega, e2⟩
def cdI : Int → Nat
  | .ofNat n => 2 * n
  | .negSucc n => 2 * n + 1
theorem cdI_inj : ∀ {i j : Int}, cdI i = cdI j → i = j
  | .ofNat n, .ofNat m, h => by simp only [cdI] at h; congr 1; omega
  | .ofNat n, .negSucc m, h => by simp only [cdI] at h; omega
  | .negSucc n, .ofNat m, h => by simp only [cdI] at h; omega
  | .negSucc n, .negSucc m, h => by simp only [cdI] at h; congr 1; omega
def cdL : List Nat → Nat
  | [] => 0
  | x :: xs => cdPr x (cdL xs)
theorem cdL_inj : ∀ {xs ys : List Nat}, cdL xs = cdL ys → xs = ys
  | [], [], _ => rfl
  | [], y :: ys, h => by have := cdPr_pos y (cdL ys); simp only [cdL] at h; omega
  | x :: xs, [], h => by have := cdPr_pos x (cdL xs); simp only [cdL] at h; omega
  | x :: xs, y :: ys, h => by
    obtain ⟨e1, e2⟩ := cdPr_inj (show cdPr x (cdL xs) = cdPr y (cdL ys) from h)
    rw [e1, cdL_inj e2]
def cdS (s : Str) : Nat := cdL s.cps.toList
theorem cdS_inj {s t : Str} (h : cdS s = cdS t) : s = t := by
  have := cdL_inj h
  cases s; cases t
  congr 1
  exact Array.toList_inj.mp this
def cdK : Key → Nat
  | .inl i => 2 * cdI i
  | .inr s => 2 * cdS s + 1
theorem cdK_inj : ∀ {k l : Key}, cdK k = cdK l → k = l
  | .inl i, .inl j, h => by simp only [cdK] at h; rw [cdI_inj (i := i) (j := j) (by omega)]
  | .inl i, .inr j, h => by simp only [cdK] at h; omega
  | .inr i, .inl j, h => by simp only [cdK] at h; omega
  | .inr i, .inr j, h => by simp only [cdK] at h; rw [cdS_inj (s := i) (t := j) (by omega)]
def cdO : Option Key → Nat
  | none => 0
  | some k => cdK k + 1
mutual
def cdD : D → Nat
  | .non => cdPr 0 0
  | .bl b => cdPr 1 (if b = true then 1 else 0)
  | .int i => cdPr 2 (cdI i)
  | .str s => cdPr 3 (cdS s)
  | .lst xs => cdPr 4 (cdDs xs)
  | .tup xs => cdPr 5 (cdDs xs)
  | .fn a => cdPr 6 a
  | .dk kvs => cdPr 7 (cdDk kvs)
  | .dl kvs => cdPr 8 (cdDk kvs)
  | .er C kvs => cdPr 9 (cdPr C (cdDk kvs))
  | .ob C kvs => cdPr 10 (cdPr C (cdDk kvs))
  | .om _ kvs => cdPr 11 (cdDo kvs)
  | .se n => cdPr 12 n
def cdDs : List D → Nat
  | [] => 0
  | d :: ds => cdPr (cdD d) (cdDs ds)
def cdDk : List (Key × D) → Nat
  | [] => 0
  | (k, d) :: r => cdPr (cdK k) (cdPr (cdD d) (cdDk r))
def cdDo : List (Option Key × D) → Nat
  | [] => 0
  | (k, d) :: r => cdPr (cdO k) (cdPr (cdD d) (cdDo r))
end
mutual
/-- what may be stored -/
def Sto : D → Prop
  | .lst xs => Stos xs
  | .tup xs => Stos xs
  | .dk kvs => Stok kvs
  | .dl kvs => Stok kvs
  | .er _ kvs => Stok kvs
  | .ob _ kvs => Stok kvs
  | .om _ _ => False
  | _ => True
def Stos : List D → Prop
  | [] => True
  | d :: ds => Sto d ∧ Stos ds
def Stok : List (Key × D) → Prop
  | [] => True
  | (_, d) :: r => Sto d ∧ Stok r
end
theorem cdB_inj : ∀ {b c : Bool}, (if b = true then (1 : Nat) else 0) = (if c = true then 1 else 0) → b = c := by decide
mutual
theorem cdD_inj : ∀ (x y : D), Sto x → Sto y → cdD x = cdD y → x = y
  | .non, y, hx, hy, h => by cases y <;> simp only [cdD] at h <;> first | rfl | (have := (cdPr_inj h).1; omega)
  | .bl b, y, hx, hy, h => by cases y <;> simp only [cdD] at h <;> first | (have := (cdPr_inj h).1; omega) | (rw [cdB_inj (cdPr_inj h).2])
  | .int b, y, hx, hy, h => by cases y <;> simp only [cdD] at h <;> first | (have := (cdPr_inj h).1; omega) | (rw [cdI_inj (cdPr_inj h).2])
  | .str b, y, hx, hy, h => by cases y <;> simp only [cdD] at h <;> first | (have := (cdPr_inj h).1; omega) | (rw [cdS_inj (cdPr_inj h).2])
  | .lst b, y, hx, hy, h => by cases y <;> simp only [cdD] at h <;> first | (have := (cdPr_inj h).1; omega) | (rw [cdDs_inj b _ hx hy (cdPr_inj h).2])
  | .tup b, y, hx, hy, h => by cases y <;> simp only [cdD] at h <;> first | (have := (cdPr_inj h).1; omega) | (rw [cdDs_inj b _ hx hy (cdPr_inj h).2])
  | .fn b, y, hx, hy, h => by cases y <;> simp only [cdD] at h <;> first | (have := (cdPr_inj h).1; omega) | (rw [(cdPr_inj h).2])
  | .dk b, y, hx, hy, h => by cases y <;> simp only [cdD] at h <;> first | (have := (cdPr_inj h).1; omega) | (rw [cdDk_inj b _ hx hy (cdPr_inj h).2])
  | .dl b, y, hx, hy, h => by cases y <;> simp only [cdD] at h <;> first | (have := (cdPr_inj h).1; omega) | (rw [cdDk_inj b _ hx hy (cdPr_inj h).2])
  | .er C b, y, hx, hy, h => by cases y <;> simp only [cdD] at h <;> first | (have := (cdPr_inj h).1; omega) | (obtain ⟨e1, e2⟩ := cdPr_inj (cdPr_inj h).2; rw [e1, cdDk_inj b _ hx hy e2])
  | .ob C b, y, hx, hy, h => by cases y <;> simp only [cdD] at h <;> first | (have := (cdPr_inj h).1; omega) | (obtain ⟨e1, e2⟩ := cdPr_inj (cdPr_inj h).2; rw [e1, cdDk_inj b _ hx hy e2])
  | .om v b, y, hx, hy, h => hx.elim
  | .se b, y, hx, hy, h => by cases y <;> simp only [cdD] at h <;> first | (have := (cdPr_inj h).1; omega) | (rw [(cdPr_inj h).2])
theorem cdDs_inj : ∀ (x y : List D), Stos x → Stos y → cdDs x = cdDs y → x = y
  | [], [], _, _, _ => rfl
  | [], d :: ds, _, _, h => by simp only [cdDs] at h; have := cdPr_pos (cdD d) (cdDs ds); omega
  | d :: ds, [], _, _, h => by simp only [cdDs] at h; have := cdPr_pos (cdD d) (cdDs ds); omega
  | d :: ds, e :: es, hx, hy, h => by simp only [cdDs] at h; rw [cdD_inj d e hx.1 hy.1 (cdPr_inj h).1, cdDs_inj ds es hx.2 hy.2 (cdPr_inj h).2]
theorem cdDk_inj : ∀ (x y : List (Key × D)), Stok x → Stok y → cdDk x = cdDk y → x = y
  | [], [], _, _, _ => rfl
  | [], (k, d) :: ds, _, _, h => by simp only [cdDk] at h; have := cdPr_pos (cdK k) (cdPr (cdD d) (cdDk ds)); omega
  | (k, d) :: ds, [], _, _, h => by simp only [cdDk] at h; have := cdPr_pos (cdK k) (cdPr (cdD d) (cdDk ds)); omega
  | (k, d) :: ds, (l, e) :: es, hx, hy, h => by
    simp only [cdDk] at h
    obtain ⟨e1, e2⟩ := cdPr_inj h
    obtain ⟨e3, e4⟩ := cdPr_inj e2
    rw [cdK_inj e1, cdD_inj d e hx.1 hy.1 e3, cdDk_inj ds es hx.2 hy.2 e4]
end
/-- a thing of the store: an instance, a list, a dict -/
inductive Ob where
  | ins (C : Addr) (kds : List (Key × D)) | lst (ds : List D) | dic (kds : List (Key × D))
def StoO : Ob → Prop
  | .ins _ kds => Stok kds
  | .lst ds => Stos ds
  | .dic kds => Stok kds
def cdOb : Ob → Nat
  | .ins C kds => cdPr 0 (cdPr C (cdDk kds))
  | .lst ds => cdPr 1 (cdDs ds)
  | .dic kds => cdPr 2 (cdDk kds)
theorem cdOcdB_inj : ∀ (x y : Ob), StoO x → StoO y → cdOb x = cdOb y → x = y
  | .ins C b, y, hx, hy, h => by cases y <;> simp only [cdOb] at h <;> first | (have := (cdPr_inj h).1; omega) | (obtain ⟨e1, e2⟩ := cdPr_inj (cdPr_inj h).2; rw [e1, cdDk_inj b _ hx hy e2])
  | .lst b, y, hx, hy, h => by cases y <;> simp only [cdOb] at h <;> first | (have := (cdPr_inj h).1; omega) | (rw [cdDs_inj b _ hx hy (cdPr_inj h).2])
  | .dic b, y, hx, hy, h => by cases y <;> simp only [cdOb] at h <;> first | (have := (cdPr_inj h).1; omega) | (rw [cdDk_inj b _ hx hy (cdPr_inj h).2])
abbrev Mem := List (Addr × Ob)
def StoM (m : Mem) : Prop := ∀ x ∈ m, StoO x.2
def cdM : Mem → Nat
  | [] => 0
  | (p, o) :: m => cdPr p (cdPr (cdOb o) (cdM m))
theorem cdM_inj : ∀ (x y : Mem), StoM x → StoM y → cdM x = cdM y → x = y
  | [], [], _, _, _ => rfl
  | [], (k, d) :: ds, _, _, h => by simp only [cdM] at h; have := cdPr_pos k (cdPr (cdOb d) (cdM ds)); omega
  | (k, d) :: ds, [], _, _, h => by simp only [cdM] at h; have := cdPr_pos k (cdPr (cdOb d) (cdM ds)); omega
  | (k, d) :: ds, (l, e) :: es, hx, hy, h => by
    simp only [cdM] at h
    obtain ⟨e1, e2⟩ := cdPr_inj h
    obtain ⟨e3, e4⟩ := cdPr_inj e2
    rw [e1, cdOcdB_inj d e (hx _ (List.mem_cons_self ..)) (hy _ (List.mem_cons_self ..)) e3, cdM_inj ds es (fun x h => hx x (List.mem_cons_of_mem _ h)) (fun x h => hy x (List.mem_cons_of_mem _ h)) e4]
open Classical in
noncomputable def memOf (c : Nat) : Mem := if h : ∃ m, StoM m ∧ cdM m = c then h.choose else []
theorem memOf_en {m : Mem} (h : StoM m) : memOf (cdM m) = m := by
  have e : ∃ m', StoM m' ∧ cdM m' = cdM m := ⟨m, h, rfl⟩
  unfold memOf
  rw [dif_pos e]
  exact cdM_inj _ _ e.choose_spec.1 h e.choose_spec.2
theorem memOf_sto {c : Nat} : StoM (memOf c) := by
  unfold memOf
  split
  · rename_i h; exact h.choose_spec.1
  · exact fun x h => by cases h
/-! a state: how often was drawn, and the store -/
def MB : Nat := 1000000000
def nOf (b : Nat) : Nat := b % MB
noncomputable def mOf (b : Nat) : Mem := memOf (b / MB)
def mkB (n : Nat) (m : Mem) : Nat := n + MB * cdM m
theorem nOf_mk {n : Nat} {m : Mem} (h : n < MB) : nOf (mkB n m) = n := by unfold nOf mkB; rw [Nat.add_mul_mod_self_left, Nat.mod_eq_of_lt h]
theorem mOf_mk {n : Nat} {m : Mem} (h : n < MB) (hm : StoM m) : mOf (mkB n m) = m := by
  unfold mOf mkB
  rw [Nat.add_mul_div_left _ _ (by decide), Nat.div_eq_of_lt h, Nat.zero_add, memOf_en hm]
theorem nOf_lt {b : Nat} (h : b < MB) : nOf b = b := Nat.mod_eq_of_lt h
theorem mOf_lt {b : Nat} (h : b < MB) : mOf b = [] := by
  unfold mOf
  rw [Nat.div_eq_of_lt h]
  exact memOf_en (m := []) fun x h => by cases h
theorem nOf_b {b : Nat} : nOf b < MB := Nat.mod_lt _ (by decide)
def mget (m : Mem) (p : Addr) : Option Ob := m.lookup p
theorem mget_cons {m : Mem} {p q : Addr} {o : Ob} : mget ((p, o) :: m) q = if q = p then some o else mget m q := by
  unfold mget
  rw [List.lookup_cons]
  by_cases h : q = p
  · rw [if_pos h, show (q == p) = true from by simp [h]]
  · rw [if_neg h, show (q == p) = false from by simp [h]]
end Dd

namespace Dd
open PySem L2 Pk
/-! ### the heap but for the draws' state -/
structure Gh where
  dc : Option (Addr × Addr)
  w : World
/-- seen: what is not of the store -/
def seen : Option HO → Option HO
  | some (.mk _) => none
  | x => x
def NM : HO → Prop
  | .mk _ => False
  | _ => True
theorem seen_some {x : Option HO} {o : HO} (h : seen x = some o) : x = some o ∧ NM o := by
  cases x with
  | none => cases h
  | some y => cases y <;> first | (cases h; done) | (cases h; exact ⟨rfl, trivial⟩)
theorem seen_nm {o : HO} (h : NM o) : seen (some o) = some o := by cases o <;> first | rfl | exact h.elim
def off (G : Gh) (H : Hp) : Hp := match G.dc with
  | none => fun a => seen (H a)
  | some (d, c) => fun a => if a = d then none else if a = c then none else seen (H a)
/-- a thing of the store in the heap -/
def ObAt (K : PySem.W.Frag) (F H : Hp) (p : Addr) : Ob → Prop
  | .ins C kds => ∃ dx fs, H p = some (.mk (.ins C dx fs)) ∧ H dx = some (.own p) ∧ RpK K F (keyed fs) kds
  | .lst ds => ∃ vs, H p = some (.mk (.lst vs)) ∧ RpA K F vs ds
  | .dic kds => ∃ kvs, H p = some (.mk (.dK kvs)) ∧ RpK K F kvs kds
theorem ObAt.imp {K : PySem.W.Frag} {F F' H H' : Hp} {p : Addr} {o : Ob} (x : ObAt K F H p o) (hF : ∀ a o, F a = some o → F' a = some o) (hm : ∀ a u, H a = some (.mk u) → H' a = some (.mk u)) (ho : ∀ a q, H a = some (.own q) → H' a = some (.own q)) : ObAt K F' H' p o := by
  cases o with
  | ins C kds => obtain ⟨dx, fs, h1, h2, q⟩ := x; exact ⟨dx, fs, hm _ _ h1, ho _ _ h2, q.mono hF⟩
  | lst ds => obtain ⟨vs, h1, q⟩ := x; exact ⟨vs, hm _ _ h1, q.mono hF⟩
  | dic kds => obtain ⟨kvs, h1, q⟩ := x; exact ⟨kvs, hm _ _ h1, q.mono hF⟩
def MemOk (K : PySem.W.Frag) (F H : Hp) (b : Nat) : Prop := ∀ p o, mget (mOf b) p = some o → ObAt K F H p o
def gst (K : PySem.W.Frag) (G : Gh) (F H : Hp) (b : Nat) : Prop := (match G.dc with
  | none => True
  | some (d, c) => StA H d c (nOf b)) ∧ MemOk K F H b
theorem off_sub {G : Gh} {H : Hp} {a : Addr} {o : HO} (h : off G H a = some o) : H a = some o := by
  obtain ⟨dc, w⟩ := G
  cases dc with
  | none => exact (seen_some h).1
  | some p =>
    obtain ⟨d, c⟩ := p
    unfold off at h
    dsimp only at h
    split at h
    · cases h
    · split at h
      · cases h
      · exact (seen_some h).1
theorem off_nm {G : Gh} {H : Hp} {a : Addr} {o : HO} (h : off G H a = some o) : NM o := by
  obtain ⟨dc, w⟩ := G
  cases dc with
  | none => exact (seen_some h).2
  | some p =>
    obtain ⟨d, c⟩ := p
    unfold off at h
    dsimp only at h
    split at h
    · cases h
    · split at h
      · cases h
      · exact (seen_some h).2
theorem off_none {G : Gh} {H : Hp} {a : Addr} (h : H a = none) : off G H a = none := by
  cases q : off G H a with
  | none => rfl
  | some o => rw [off_sub q] at h; cases h
theorem off_mk {G : Gh} {H : Hp} {a : Addr} {u : HO} (h : H a = some (.mk u)) : off G H a = none := by
  cases q : off G H a with
  | none => rfl
  | some o =>
    have := off_nm q
    have e := off_sub q
    rw [h] at e
    cases e
    exact this.elim
theorem gst.ne {K : PySem.W.Frag} {G : Gh} {F H : Hp} {b : Nat} {p : Addr} (s : gst K G F H b) (hp : H p = none) : ∀ d c, G.dc = some (d, c) → p ≠ d ∧ p ≠ c := fun d c e => by
  have s1 := s.1
  rw [e] at s1
  exact StA.ne s1 hp
theorem off_new {K : PySem.W.Frag} {G : Gh} {F H : Hp} {b : Nat} {p : Addr} {o : HO} (s : gst K G F H b) (hp : H p = none) (nm : NM o := by trivial) : off G (upd H p o) = upd (off G H) p o := by
  have ne := s.ne hp
  obtain ⟨dc, w⟩ := G
  cases dc with
  | none =>
    funext a
    show seen (upd H p o a) = upd (fun a => seen (H a)) p o a
    by_cases e : a = p
    · subst e; rw [upd_same, upd_same, seen_nm nm]
    · rw [upd_ne e, upd_ne e]
  | some z =>
    obtain ⟨d, c⟩ := z
    obtain ⟨n1, n2⟩ := ne d c rfl
    funext a
    show (if a = d then none else if a = c then none else seen (upd H p o a)) = upd _ p o a
    by_cases e : a = p
    · subst e
      rw [if_neg n1, if_neg n2, upd_same, upd_same, seen_nm nm]
    · rw [upd_ne e, upd_ne e]
      rfl
/-- of the store nothing is seen -/
theorem off_hid {G : Gh} {H : Hp} {p : Addr} {u : HO} (hp : off G H p = none) : off G (upd H p (.mk u)) = off G H := by
  obtain ⟨dc, w⟩ := G
  cases dc with
  | none =>
    funext a
    show seen (upd H p (.mk u) a) = seen (H a)
    by_cases e : a = p
    · subst e; rw [upd_same]; exact hp.symm
    · rw [upd_ne e]
  | some z =>
    obtain ⟨d, c⟩ := z
    funext a
    show (if a = d then none else if a = c then none else seen (upd H p (.mk u) a)) = (if a = d then none else if a = c then none else seen (H a))
    by_cases e : a = p
    · subst e
      rw [upd_same]
      exact (show (if a = d then none else if a = c then none else none) = off ⟨some (d, c), w⟩ H a from by rw [hp]; split <;> first | rfl | (split <;> rfl))
    · rw [upd_ne e]
theorem off_mut {G : Gh} {H : Hp} {p : Addr} {o o' : HO} (h : off G H p = some o) (nm : NM o' := by trivial) : off G (upd H p o') = upd (off G H) p o' := by
  obtain ⟨dc, w⟩ := G
  cases dc with
  | none =>
    funext a
    show seen (upd H p o' a) = upd (fun a => seen (H a)) p o' a
    by_cases e : a = p
    · subst e; rw [upd_same, upd_same, seen_nm nm]
    · rw [upd_ne e, upd_ne e]
  | some z =>
    obtain ⟨d, c⟩ := z
    have n1 : p ≠ d := by
      rintro rfl
      unfold off at h
      dsimp only at h
      rw [if_pos rfl] at h
      cases h
    have n2 : p ≠ c := by
      rintro rfl
      unfold off at h
      dsimp only at h
      rw [if_neg n1, if_pos rfl] at h
      cases h
    funext a
    show (if a = d then none else if a = c then none else seen (upd H p o' a)) = upd _ p o' a
    by_cases e : a = p
    · subst e
      rw [if_neg n1, if_neg n2, upd_same, upd_same, seen_nm nm]
    · rw [upd_ne e, upd_ne e]
      rfl
theorem gst_new {K : PySem.W.Frag} {G : Gh} {F H : Hp} {b : Nat} {p : Addr} {o : HO} (s : gst K G F H b) (hp : H p = none) : gst K G F (upd H p o) b := by
  have k : ∀ a u, H a = some u → upd H p o a = some u := fun a u z => by rw [upd_ne (ne_of_none z hp)]; exact z
  refine ⟨?_, fun q ob hq => (s.2 q ob hq).imp (fun _ _ z => z) (fun a u => k a _) fun a q => k a _⟩
  have s1 := s.1
  cases e : G.dc with
  | none => trivial
  | some z => rw [e] at s1; exact StA.new s1 hp
theorem gst_mono {K : PySem.W.Frag} {G : Gh} {F F' H : Hp} {b : Nat} (s : gst K G F H b) (h : ∀ a o, F a = some o → F' a = some o) : gst K G F' H b := ⟨s.1, fun q ob hq => (s.2 q ob hq).imp h (fun _ _ z => z) fun _ _ z => z⟩
theorem gst_mut {K : PySem.W.Frag} {G : Gh} {F H : Hp} {b : Nat} {p : Addr} {o o' : HO} (s : gst K G F H b) (h : off G H p = some o) (no : ∀ q, o ≠ .own q := by intro q z; cases z) : gst K G F (upd H p o') b := by
  refine ⟨?_, fun q ob hq => (s.2 q ob hq).imp (fun _ _ z => z) (fun a u z => ?_) fun a q z => ?_⟩
  · have s1 := s.1
    have hh := h
    unfold off at hh
    cases e : G.dc with
    | none => trivial
    | some z =>
      obtain ⟨d, c⟩ := z
      rw [e] at s1 hh
      refine StA.upd s1 ⟨?_, ?_⟩
      · rintro rfl
        dsimp only at hh
        rw [if_pos rfl] at hh
        cases hh
      · rintro rfl
        dsimp only at hh
        split at hh
        · cases hh
        · rw [if_pos rfl] at hh
          cases hh
  · rw [upd_ne fun e => by subst e; rw [off_mk z] at h; cases h]; exact z
  · rw [upd_ne fun e => by subst e; rw [off_sub h] at z; cases z; exact no _ rfl]; exact z
theorem off_of {G : Gh} {H H' : Hp} {a : Addr} {o : HO} (h : off G H a = some o) (h' : H' a = some o) : off G H' a = some o := by
  have nm := off_nm h
  unfold off at h ⊢
  cases e : G.dc with
  | none => show seen (H' a) = some o; rw [h', seen_nm nm]
  | some z =>
    obtain ⟨d, c⟩ := z
    rw [e] at h
    dsimp only at h ⊢
    split at h
    · cases h
    · rename_i n1
      split at h
      · cases h
      · rename_i n2
        rw [if_neg n1, if_neg n2, h', seen_nm nm]
theorem off_dc {G : Gh} {H : Hp} {a d c : Addr} {o : HO} (h : off G H a = some o) (e : G.dc = some (d, c)) : a ≠ d ∧ a ≠ c := by
  unfold off at h
  rw [e] at h
  dsimp only at h
  split at h
  · cases h
  · rename_i n1
    split at h
    · cases h
    · rename_i n2; exact ⟨n1, n2⟩
theorem gst_of {K : PySem.W.Frag} {G : Gh} {F H H' : Hp} {b : Nat} (s : gst K G F H b) (h : ∀ a o, H a = some o → H' a = some o) : gst K G F H' b := by
  refine ⟨?_, fun q ob hq => (s.2 q ob hq).imp (fun _ _ z => z) (fun a u => h a _) fun a q => h a _⟩
  have s1 := s.1
  cases e : G.dc with
  | none => trivial
  | some z => rw [e] at s1; exact StA.same s1 h
/-- draws alone: a store without things -/
theorem gst_small {K : PySem.W.Frag} {d c : Addr} {w : World} {F H : Hp} {b : Nat} (s : StA H d c b) (h : b < MB) : gst K ⟨some (d, c), w⟩ F H b := ⟨by show StA H d c (nOf b); rw [nOf_lt h]; exact s, fun p o z => by rw [mOf_lt h] at z; cases z⟩
theorem gst.draws {K : PySem.W.Frag} {d c : Addr} {w : World} {F H : Hp} {b : Nat} (s : gst K ⟨some (d, c), w⟩ F H b) : StA H d c b := StA.mono s.1 (Nat.mod_le ..)
/-! ### a def's run: what was at its entry -/
structure Dc where
  K : PySem.W.Frag
  G : Gh
  F0 : Hp
  B : Hp
def SlOk (c : Dc) (F H : Hp) (x : Option (Option V)) : Sl → Prop
  | .no => True
  | .val d => ∃ v, x = some (some v) ∧ Rp c.K F v d
  | .own ds => ∃ p vs, x = some (some (.ref p)) ∧ F p = none ∧ c.B p = none ∧ off c.G H p = some (.lst vs) ∧ RpA c.K F vs ds
  | .bb ds => ∃ p vs, x = some (some (.ref p)) ∧ c.B p = some (.lst vs) ∧ RpA c.K F vs ds
  | .st => ∃ d k, c.G.dc = some (d, k) ∧ x = some (some (.ref d))
  | .bo p C kds => x = some (some (.ref p)) ∧ ∃ dx fs, c.B p = some (.ins C dx fs) ∧ c.B dx = some (.own p) ∧ RpK c.K F (keyed fs) kds
structure R (c : Dc) (F : Hp) (σ : L2.St) (H : Hp) (A : List Sl) (b : Nat) : Prop where
  sub : ∀ a o, F a = some o → off c.G H a = some o
  bsub : ∀ a o, c.B a = some o → off c.G H a = some o
  f0 : ∀ a o, c.F0 a = some o → F a = some o
  n0 : ∀ a o, F a = some o → c.F0 a = some o ∨ c.B a = none
  st : gst c.K c.G F H b
  sl : ∀ (i : Nat) (s : Sl), A[i]? = some s → SlOk c F H σ[i]? s
  ds : ∀ (i j : Nat) (p : Addr) (xs ys : List D), A[i]? = some (.own xs) → A[j]? = some (.own ys) → σ[i]? = some (some (.ref p)) → σ[j]? = some (some (.ref p)) → i = j
  len : σ.length = A.length
structure Ext (c : Dc) (F H F' H' : Hp) : Prop where
  f : ∀ a o, F a = some o → F' a = some o
  h : ∀ a o, off c.G H a = some o → off c.G H' a = some o
  n : ∀ a o, F' a = some o → F a = some o ∨ off c.G H a = none
theorem Ext.refl {c : Dc} {F H : Hp} : Ext c F H F H := ⟨fun _ _ h => h, fun _ _ h => h, fun _ _ h => .inl h⟩
theorem Ext.trans {c : Dc} {F H F1 H1 F2 H2 : Hp} (a : Ext c F H F1 H1) (b : Ext c F1 H1 F2 H2) : Ext c F H F2 H2 := by
  refine ⟨fun x o h => b.f x o (a.f x o h), fun x o h => b.h x o (a.h x o h), fun x o h => ?_⟩
  rcases b.n x o h with q | q
  · exact a.n x o q
  · right
    cases e : off c.G H x with
    | none => rfl
    | some u => rw [a.h x u e] at q; cases q
theorem Ext.keep {c : Dc} {F H F' H' : Hp} (e : Ext c F H F' H') {p : Addr} {o : HO} (hf : F p = none) (h : off c.G H p = some o) : F' p = none := by
  cases q : F' p with
  | none => rfl
  | some u =>
    rcases e.n p u q with z | z
    · rw [hf] at z; cases z
    · rw [h] at z; cases z
theorem SlOk.ext {c : Dc} {F H F' H' : Hp} {x : Option (Option V)} {s : Sl} (e : Ext c F H F' H') (h : SlOk c F H x s) : SlOk c F' H' x s := by
  cases s with
  | no => trivial
  | val d => obtain ⟨v, hx, r⟩ := h; exact ⟨v, hx, r.mono e.f⟩
  | own ds => obtain ⟨p, vs, hx, h1, h2, h3, r⟩ := h; exact ⟨p, vs, hx, e.keep h1 h3, h2, e.h _ _ h3, r.mono e.f⟩
  | bb ds => obtain ⟨p, vs, hx, h1, r⟩ := h; exact ⟨p, vs, hx, h1, r.mono e.f⟩
  | st => exact h
  | bo p C kds => obtain ⟨hx, dx, fs, h1, h2, r⟩ := h; exact ⟨hx, dx, fs, h1, h2, r.mono e.f⟩
theorem R.ext {c : Dc} {F H F' H' : Hp} {σ : L2.St} {A : List Sl} {b b' : Nat} (r : R c F σ H A b) (e : Ext c F H F' H') (hs : ∀ a o, F' a = some o → off c.G H' a = some o) (hg : gst c.K c.G F' H' b') : R c F' σ H' A b' where
  sub := hs
  bsub := fun a o h => e.h a o (r.bsub a o h)
  f0 := fun a o h => e.f a o (r.f0 a o h)
  n0 := fun a o h => by
    rcases e.n a o h with q | q
    · exact r.n0 a o q
    · right
      cases z : c.B a with
      | none => rfl
      | some u => rw [r.bsub a u z] at q; cases q
  st := hg
  sl := fun i s h => (r.sl i s h).ext e
  ds := r.ds
  len := r.len
/-- a new object, not (yet) one that stays -/
theorem R.alloc {c : Dc} {F H : Hp} {σ : L2.St} {A : List Sl} {b : Nat} {p : Addr} {o : HO} (r : R c F σ H A b) (hp : H p = none) (nm : NM o := by trivial) : Ext c F H F (upd H p o) ∧ R c F σ (upd H p o) A b := by
  have e : Ext c F H F (upd H p o) := ⟨fun _ _ h => h, fun a u h => by rw [off_new r.st hp nm, upd_ne (ne_of_none (off_sub h) hp)]; exact h, fun _ _ h => .inl h⟩
  exact ⟨e, r.ext e (fun a u h => e.h a u (r.sub a u h)) (gst_new r.st hp)⟩
/-- a new object that stays -/
theorem R.allocF {c : Dc} {F H : Hp} {σ : L2.St} {A : List Sl} {b : Nat} {p : Addr} {o : HO} (r : R c F σ H A b) (hp : H p = none) (nm : NM o := by trivial) : Ext c F H (upd F p o) (upd H p o) ∧ R c (upd F p o) σ (upd H p o) A b := by
  have hF : F p = none := by
    cases q : F p with
    | none => rfl
    | some u => have := off_sub (r.sub p u q); rw [hp] at this; cases this
  have e : Ext c F H (upd F p o) (upd H p o) := by
    refine ⟨fun a u h => ?_, fun a u h => by rw [off_new r.st hp nm, upd_ne (ne_of_none (off_sub h) hp)]; exact h, fun a u h => ?_⟩
    · rw [upd_ne (ne_of_none h hF)]; exact h
    · by_cases z : a = p
      · subst z; exact .inr (off_none hp)
      · rw [upd_ne z] at h; exact .inl h
  refine ⟨e, r.ext e (fun a u h => ?_) (gst_mono (gst_new r.st hp) e.f)⟩
  rw [off_new r.st hp nm]
  by_cases z : a = p
  · subst z; rw [upd_same] at h ⊢; exact h
  · rw [upd_ne z] at h ⊢; exact r.sub a u h
/-- a list that stands there and is nobody's becomes one that stays -/
theorem R.stay {c : Dc} {F H : Hp} {σ : L2.St} {A : List Sl} {b : Nat} {p : Addr} {o : HO} (r : R c F σ H A b) (hF : F p = none) (hB : c.B p = none) (hH : off c.G H p = some o) (hn : ∀ (i : Nat) (xs : List D), A[i]? = some (.own xs) → σ[i]? ≠ some (some (.ref p))) :
    R c (upd F p o) σ H A b := by
  have m : ∀ a u, F a = some u → upd F p o a = some u := fun a u h => by rw [upd_ne (ne_of_none h hF)]; exact h
  refine ⟨fun a u h => ?_, r.bsub, fun a u h => m a u (r.f0 a u h), fun a u h => ?_, gst_mono r.st m, fun i s h => ?_, r.ds, r.len⟩
  · by_cases z : a = p
    · subst z; rw [upd_same] at h; rw [hH]; exact h
    · rw [upd_ne z] at h; exact r.sub a u h
  · by_cases z : a = p
    · subst z; exact .inr hB
    · rw [upd_ne z] at h; exact r.n0 a u h
  · have q := r.sl i s h
    cases s with
    | no => trivial
    | val d => obtain ⟨v, hx, rr⟩ := q; exact ⟨v, hx, rr.mono m⟩
    | own ds =>
      obtain ⟨p', vs, hx, h1, h2, h3, rr⟩ := q
      refine ⟨p', vs, hx, ?_, h2, h3, rr.mono m⟩
      rw [upd_ne (fun z => by subst z; exact hn i ds h hx)]
      exact h1
    | bb ds => obtain ⟨p', vs, hx, h1, rr⟩ := q; exact ⟨p', vs, hx, h1, rr.mono m⟩
    | st => exact q
    | bo p C kds => obtain ⟨hx, dx, fs, h1, h2, rr⟩ := q; exact ⟨hx, dx, fs, h1, h2, rr.mono m⟩
theorem get_set {α : Type} {l : List α} {i j : Nat} {x y : α} (h : (l.set i x)[j]? = some y) : (i = j ∧ x = y) ∨ (i ≠ j ∧ l[j]? = some y) := by
  by_cases e : i = j
  · subst e
    left
    by_cases hl : i < l.length
    · rw [List.getElem?_set_self hl] at h
      exact ⟨rfl, Option.some.inj h⟩
    · rw [List.getElem?_eq_none (by simpa using hl)] at h
      cases h
  · rw [List.getElem?_set_ne e] at h
    exact .inr ⟨e, h⟩
/-- a name is given a value -/
theorem R.put {c : Dc} {F H : Hp} {σ : L2.St} {A : List Sl} {b : Nat} {i : Nat} {v : V} {s : Sl} (r : R c F σ H A b) (hi : SlOk c F H (some (some v)) s) (hn : ∀ (xs : List D), s = .own xs → ∀ (j : Nat) (ys : List D), j ≠ i → A[j]? = some (.own ys) → σ[j]? ≠ some (some v)) :
    R c F (σ.set i (some v)) H (A.set i s) b := by
  refine ⟨r.sub, r.bsub, r.f0, r.n0, r.st, fun j s' h => ?_, fun j k p xs ys h1 h2 e1 e2 => ?_, by rw [List.length_set, List.length_set]; exact r.len⟩
  · rcases get_set h with ⟨rfl, rfl⟩ | ⟨ne, h⟩
    · have hl : i < A.length := by
        rcases Nat.lt_or_ge i A.length with z | z
        · exact z
        · rw [List.getElem?_eq_none (by simpa using z)] at h; cases h
      rw [List.getElem?_set_self (by rw [r.len]; exact hl)]
      exact hi
    · rw [List.getElem?_set_ne ne]
      exact r.sl j s' h
  · rcases get_set h1 with ⟨rfl, q1⟩ | ⟨n1, q1⟩ <;> rcases get_set h2 with ⟨rfl, q2⟩ | ⟨n2, q2⟩
    · rfl
    · exfalso
      rcases get_set e1 with ⟨_, z⟩ | ⟨z, _⟩
      · rw [List.getElem?_set_ne n2] at e2
        refine hn xs q1 k ys (fun z => n2 z.symm) q2 ?_
        rw [e2, ← z]
      · exact z rfl
    · exfalso
      rcases get_set e2 with ⟨_, z⟩ | ⟨z, _⟩
      · rw [List.getElem?_set_ne n1] at e1
        refine hn ys q2 j xs (fun z => n1 z.symm) q1 ?_
        rw [e1, ← z]
      · exact z rfl
    · rw [List.getElem?_set_ne n1] at e1
      rw [List.getElem?_set_ne n2] at e2
      exact r.ds j k p xs ys q1 q2 e1 e2
/-- what is known of a name is forgotten, or said otherwise -/
theorem R.say {c : Dc} {F H : Hp} {σ : L2.St} {A : List Sl} {b : Nat} {i : Nat} {s : Sl} (r : R c F σ H A b) (hi : ∀ t, A[i]? = some t → SlOk c F H σ[i]? s) (hn : ∀ xs, s ≠ .own xs) : R c F σ H (A.set i s) b := by
  refine ⟨r.sub, r.bsub, r.f0, r.n0, r.st, fun j s' h => ?_, fun j k p xs ys h1 h2 e1 e2 => ?_, by rw [List.length_set]; exact r.len⟩
  · rcases get_set h with ⟨rfl, rfl⟩ | ⟨ne, h⟩
    · have hl : i < A.length := by
        rcases Nat.lt_or_ge i A.length with z | z
        · exact z
        · rw [List.getElem?_eq_none (by simpa using z)] at h; cases h
      exact hi _ (List.getElem?_eq_getElem hl)
    · exact r.sl j s' h
  · rcases get_set h1 with ⟨_, q1⟩ | ⟨_, q1⟩
    · exact absurd q1 (hn xs)
    · rcases get_set h2 with ⟨_, q2⟩ | ⟨_, q2⟩
      · exact absurd q2 (hn ys)
      · exact r.ds j k p xs ys q1 q2 e1 e2
theorem R.wiped {c : Dc} {F H : Hp} {σ : L2.St} {A : List Sl} {b : Nat} {i : Nat} (r : R c F σ H A b) : R c F (σ.set i none) H (A.set i .no) b := by
  refine ⟨r.sub, r.bsub, r.f0, r.n0, r.st, fun j s' h => ?_, fun j k p xs ys h1 h2 e1 e2 => ?_, by rw [List.length_set, List.length_set]; exact r.len⟩
  · rcases get_set h with ⟨rfl, rfl⟩ | ⟨ne, h⟩
    · trivial
    · rw [List.getElem?_set_ne ne]
      exact r.sl j s' h
  · rcases get_set h1 with ⟨_, q1⟩ | ⟨n1, q1⟩
    · cases q1
    · rcases get_set h2 with ⟨_, q2⟩ | ⟨n2, q2⟩
      · cases q2
      · rw [List.getElem?_set_ne n1] at e1
        rw [List.getElem?_set_ne n2] at e2
        exact r.ds j k p xs ys q1 q2 e1 e2
/-- a list of a name's own is changed -/
theorem R.mut {c : Dc} {F H : Hp} {σ : L2.St} {A : List Sl} {b : Nat} {i : Nat} {p : Addr} {vs ws : List V} {ds es : List D} (r : R c F σ H A b) (hi : A[i]? = some (.own ds)) (hx : σ[i]? = some (some (.ref p))) (hF : F p = none) (hB : c.B p = none) (hH : off c.G H p = some (.lst vs)) (rw' : RpA c.K F ws es) :
    R c F σ (upd H p (.lst ws)) (A.set i (.own es)) b := by
  have ho : off c.G (upd H p (.lst ws)) = upd (off c.G H) p (.lst ws) := off_mut hH
  refine ⟨fun a o h => ?_, fun a o h => ?_, r.f0, r.n0, gst_mut r.st hH, fun j s' h => ?_, fun j k q xs ys h1 h2 e1 e2 => ?_, by rw [List.length_set]; exact r.len⟩
  · rw [ho, upd_ne (ne_of_none h hF)]; exact r.sub a o h
  · rw [ho, upd_ne (ne_of_none h hB)]; exact r.bsub a o h
  · rcases get_set h with ⟨rfl, rfl⟩ | ⟨ne, h⟩
    · exact ⟨p, ws, hx, hF, hB, by rw [ho, upd_same], rw'⟩
    · have q := r.sl j s' h
      cases s' with
      | no => trivial
      | val d => exact q
      | own es =>
        obtain ⟨p', vs', hx', h1, h2, h3, rr⟩ := q
        refine ⟨p', vs', hx', h1, h2, ?_, rr⟩
        rw [ho, upd_ne (fun z => by subst z; exact ne (r.ds i j p' ds es hi h hx hx'))]
        exact h3
      | bb es => exact q
      | st => exact q
      | bo p C kds => exact q
  · have f : ∀ {m : Nat} {zs : List D}, (A.set i (.own es))[m]? = some (.own zs) → ∃ zs', A[m]? = some (.own zs') := fun {m zs} z => by
      rcases get_set z with ⟨rfl, _⟩ | ⟨_, z⟩
      · exact ⟨_, hi⟩
      · exact ⟨_, z⟩
    obtain ⟨xs', q1⟩ := f h1
    obtain ⟨ys', q2⟩ := f h2
    exact r.ds j k q xs' ys' q1 q2 e1 e2
/-- an own list becomes a datum that stays -/
theorem R.frz {c : Dc} {F H : Hp} {σ : L2.St} {A : List Sl} {b : Nat} {i : Nat} {ds : List D} (r : R c F σ H A b) (hi : A[i]? = some (.own ds)) : ∃ F', (∀ a o, F a = some o → F' a = some o) ∧ R c F' σ H (A.set i (.val (.lst ds))) b := by
  obtain ⟨p, vs, hx, h1, h2, h3, rr⟩ := r.sl i _ hi
  have r1 : R c F σ H (A.set i .no) b := r.say (fun _ _ => trivial) (fun xs z => by cases z)
  have m : ∀ a u, F a = some u → upd F p (.lst vs) a = some u := fun a u h => by rw [upd_ne (ne_of_none h h1)]; exact h
  have r2 := r1.stay h1 h2 h3 (fun j xs h e => by
    rcases get_set h with ⟨_, z⟩ | ⟨ne, h⟩
    · cases z
    · exact ne (r.ds i j p ds xs hi h hx e))
  refine ⟨_, m, ?_⟩
  have r3 := r2.say (i := i) (s := .val (.lst ds)) (fun _ _ => ⟨_, hx, .lst upd_same (rr.mono m)⟩) (fun xs z => by cases z)
  rw [List.set_set] at r3
  exact r3
/-- what an expression's value is -/
def RsOk (c : Dc) (F H : Hp) (σ : L2.St) (A : List Sl) (v : V) : Rs → Prop
  | .s d => Rp c.K F v d
  | .b ds => ∃ p vs, v = .ref p ∧ off c.G H p = some (.lst vs) ∧ RpA c.K F vs ds
  | .p ds => ∃ p vs, v = .ref p ∧ c.B p = some (.lst vs) ∧ RpA c.K F vs ds
  | .o ds => ∃ p vs, v = .ref p ∧ F p = none ∧ c.B p = none ∧ off c.G H p = some (.lst vs) ∧ RpA c.K F vs ds ∧ ∀ (i : Nat) (xs : List D), A[i]? = some (.own xs) → σ[i]? ≠ some (some (.ref p))
  | .g => ∃ d k, c.G.dc = some (d, k) ∧ v = .ref d
theorem RsOk.ext {c : Dc} {F H F' H' : Hp} {σ : L2.St} {A : List Sl} {v : V} {r : Rs} (e : Ext c F H F' H') (h : RsOk c F H σ A v r) : RsOk c F' H' σ A v r := by
  cases r with
  | s d => exact h.mono e.f
  | b ds => obtain ⟨p, vs, hv, h1, rr⟩ := h; exact ⟨p, vs, hv, e.h _ _ h1, rr.mono e.f⟩
  | p ds => obtain ⟨p, vs, hv, h1, rr⟩ := h; exact ⟨p, vs, hv, h1, rr.mono e.f⟩
  | o ds => obtain ⟨p, vs, hv, h1, h2, h3, rr, n⟩ := h; exact ⟨p, vs, hv, e.keep h1 h3, h2, e.h _ _ h3, rr.mono e.f, n⟩
  | g => exact h
/-- behind a fresh one -/
theorem RsOk.fresh {c : Dc} {F H : Hp} {σ : L2.St} {A : List Sl} {b : Nat} {p : Addr} {vs : List V} {ds : List D} (r : R c F σ H A b) (hp : H p = none) (h : RpA c.K F vs ds) : RsOk c F (upd H p (.lst vs)) σ A (.ref p) (.o ds) := by
  have nf : ∀ o, off c.G H p ≠ some o := fun o z => by rw [off_none hp] at z; cases z
  refine ⟨p, vs, rfl, ?_, ?_, by rw [off_new r.st hp, upd_same], h, fun i xs hi e => ?_⟩
  · cases q : F p with
    | none => rfl
    | some u => exact absurd (r.sub p u q) (nf u)
  · cases q : c.B p with
    | none => rfl
    | some u => exact absurd (r.bsub p u q) (nf u)
  · obtain ⟨p', vs', hx, _, _, h3, _⟩ := r.sl i _ hi
    rw [hx] at e
    cases e
    exact nf _ h3
/-- an expression has come to a value -/
structure Got (c : Dc) (F H : Hp) (σ : L2.St) (A : List Sl) (F' H' : Hp) (b' : Nat) (v : V) (r : Rs) : Prop where
  rr : R c F' σ H' A b'
  e : Ext c F H F' H'
  ok : RsOk c F' H' σ A v r
  nw : ∀ ds p, r = .o ds → v = .ref p → off c.G H p = none
theorem Ext.none {c : Dc} {F H F' H' : Hp} (e : Ext c F H F' H') {p : Addr} (h : off c.G H' p = none) : off c.G H p = none := by
  cases q : off c.G H p with
  | none => rfl
  | some u => rw [e.h p u q] at h; cases h
/-- nothing was made -/
theorem Got.still {c : Dc} {F H : Hp} {σ : L2.St} {A : List Sl} {b : Nat} {v : V} {d : D} (r : R c F σ H A b) (h : Rp c.K F v d) : Got c F H σ A F H b v (.s d) := ⟨r, .refl, h, fun _ _ z => by cases z⟩
/-- one behind the other -/
theorem Got.pre {c : Dc} {F H F1 H1 F2 H2 : Hp} {σ : L2.St} {A : List Sl} {b2 : Nat} {v : V} {r : Rs} (e : Ext c F H F1 H1) (g : Got c F1 H1 σ A F2 H2 b2 v r) : Got c F H σ A F2 H2 b2 v r :=
  ⟨g.rr, e.trans g.e, g.ok, fun ds p h1 h2 => e.none (g.nw ds p h1 h2)⟩
/-- a new list -/
theorem Got.list {c : Dc} {F H : Hp} {σ : L2.St} {A : List Sl} {b : Nat} {p : Addr} {vs : List V} {ds : List D} (r : R c F σ H A b) (hp : H p = none) (h : RpA c.K F vs ds) : Got c F H σ A F (upd H p (.lst vs)) b (.ref p) (.o ds) :=
  ⟨(r.alloc hp).2, (r.alloc hp).1, .fresh r hp h, fun _ _ _ z => by cases z; exact off_none hp⟩
/-- a new tuple -/
theorem Got.tuple {c : Dc} {F H : Hp} {σ : L2.St} {A : List Sl} {b : Nat} {p : Addr} {vs : List V} {ds : List D} (r : R c F σ H A b) (hp : H p = none) (h : RpA c.K F vs ds) : Got c F H σ A (upd F p (.tup vs)) (upd H p (.tup vs)) b (.ref p) (.s (.tup ds)) :=
  ⟨(r.allocF hp).2, (r.allocF hp).1, .tup upd_same (h.mono (r.allocF (o := .tup vs) hp).1.f), fun _ _ z => by cases z⟩
/-- what may be kept -/
def Rs.kp : Rs → Prop
  | .b _ => False
  | .p _ => False
  | .g => False
  | _ => True
theorem Got.keep {c : Dc} {F H F' H' : Hp} {σ : L2.St} {A : List Sl} {b' : Nat} {v : V} {r : Rs} (gg : Got c F H σ A F' H' b' v r) (k : r.kp) : ∃ F2, (∀ a o, F' a = some o → F2 a = some o) ∧ Got c F H σ A F2 H' b' v (.s r.d) := by
  cases r with
  | s d => exact ⟨F', fun _ _ z => z, gg⟩
  | b ds => exact False.elim k
  | p ds => exact False.elim k
  | g => exact False.elim k
  | o ds =>
    obtain ⟨p, vs, rfl, h1, h2, h3, rr, n⟩ := gg.ok
    have m : ∀ a u, F' a = some u → upd F' p (.lst vs) a = some u := fun a u z => by rw [upd_ne (ne_of_none z h1)]; exact z
    refine ⟨_, m, gg.rr.stay h1 h2 h3 n, ⟨fun a u h => m a u (gg.e.f a u h), gg.e.h, fun a u h => ?_⟩, .lst upd_same (rr.mono m), fun _ _ z => by cases z⟩
    by_cases z : a = p
    · subst z; exact .inr (gg.nw ds a rfl rfl)
    · rw [upd_ne z] at h; exact gg.e.n a u h
theorem Got.fz {c : Dc} {F H F' H' : Hp} {σ : L2.St} {A : List Sl} {b' : Nat} {v : V} {r : Rs} (gg : Got c F H σ A F' H' b' v r) : ∃ F2, Got c F H σ A F2 H' b' v (match r with | .o ds => .s (.lst ds) | r => r) := by
  cases r with
  | s d => exact ⟨F', gg⟩
  | b ds => exact ⟨F', gg⟩
  | p ds => exact ⟨F', gg⟩
  | g => exact ⟨F', gg⟩
  | o ds =>
    obtain ⟨F2, _, g2⟩ := gg.keep trivial
    exact ⟨F2, g2⟩
/-! ### readings over data -/
abbrev DK := Rs → Nat → Prop
abbrev DE := List Sl → Nat → DK → Prop
abbrev DT := List Sl → Nat → (Bool → Nat → Prop) → Prop
abbrev DA := List Sl → Nat → (List Rs → Nat → Prop) → Prop
structure DEnds where
  nx : List Sl → Nat → Prop
  rt : DK
  bk : List Sl → Nat → Prop := fun _ _ => False
  ct : List Sl → Nat → Prop := fun _ _ => False
abbrev DS := DEnds → List Sl → Nat → Prop
/-- a reading over the heap is served by one over data -/
def Lk (c : Dc) (te : TE) (de : DE) : Prop := ∀ F σ H A b Q k, R c F σ H A b → de A b k → (∀ r b' v F' H', k r b' → Got c F H σ A F' H' b' v r → Q v H') → te σ H Q
def LkT (c : Dc) (te : TT) (de : DT) : Prop := ∀ F σ H A b Q k, R c F σ H A b → de A b k → (∀ t b' F' H', k t b' → R c F' σ H' A b' → Ext c F H F' H' → Q t H') → te σ H Q
/-- arguments: a new list becomes one that stays -/
def Rs.fz : Rs → Rs
  | .o ds => .s (.lst ds)
  | r => r
inductive AOk (c : Dc) (F H : Hp) (σ : L2.St) (A : List Sl) : List V → List Rs → Prop
  | nil : AOk c F H σ A [] []
  | cons {v : V} {vs : List V} {r : Rs} {rs : List Rs} : RsOk c F H σ A v r → AOk c F H σ A vs rs → AOk c F H σ A (v :: vs) (r :: rs)
theorem AOk.ext {c : Dc} {F H F' H' : Hp} {σ : L2.St} {A : List Sl} (e : Ext c F H F' H') : ∀ {vs : List V} {rs : List Rs}, AOk c F H σ A vs rs → AOk c F' H' σ A vs rs
  | _, _, .nil => .nil
  | _, _, .cons h t => .cons (h.ext e) (t.ext e)
def LkA (c : Dc) (ta : TA) (da : DA) : Prop := ∀ F σ H A b Q k, R c F σ H A b → da A b k → (∀ rs b' vs F' H', k rs b' → R c F' σ H' A b' → Ext c F H F' H' → AOk c F' H' σ A vs rs → Q vs H') → ta σ H Q
/-- a def's or a block's end -/
def RtOk (c : Dc) (F H : Hp) (v : V) : Rs → Prop
  | .s d => Rp c.K F v d
  | .b _ => False
  | .p _ => False
  | .g => False
  | .o ds => ∃ p vs, v = .ref p ∧ F p = none ∧ c.B p = none ∧ off c.G H p = some (.lst vs) ∧ RpA c.K F vs ds
structure EOk (c : Dc) (F : Hp) (D : Ends) (E : DEnds) : Prop where
  nx : ∀ F' σ H A b, (∀ a o, F a = some o → F' a = some o) → R c F' σ H A b → E.nx A b → D.nx σ H
  rt : ∀ F' σ H A b v r, (∀ a o, F a = some o → F' a = some o) → R c F' σ H A b → RtOk c F' H v r → E.rt r b → D.rt v H
  bk : ∀ F' σ H A b, (∀ a o, F a = some o → F' a = some o) → R c F' σ H A b → E.bk A b → D.bk σ H
  ct : ∀ F' σ H A b, (∀ a o, F a = some o → F' a = some o) → R c F' σ H A b → E.ct A b → D.ct σ H
theorem EOk.up {c : Dc} {F F1 : Hp} {D : Ends} {E : DEnds} (e : EOk c F D E) (h : ∀ a o, F a = some o → F1 a = some o) : EOk c F1 D E :=
  ⟨fun F' σ H A b m => e.nx F' σ H A b fun a o z => m a o (h a o z), fun F' σ H A b v r m => e.rt F' σ H A b v r fun a o z => m a o (h a o z),
   fun F' σ H A b m => e.bk F' σ H A b fun a o z => m a o (h a o z), fun F' σ H A b m => e.ct F' σ H A b fun a o z => m a o (h a o z)⟩
def LkS (c : Dc) (ts : TS) (ds : DS) : Prop := ∀ F σ H A b D E, R c F σ H A b → EOk c F D E → ds E A b → ts D σ H
inductive PEd (X : Cx) (c : Dc) (e : Expr) (de : DE) : Prop
  | mk (te : TE) (h : PE X e te) (l : Lk c te de)
inductive PTd (X : Cx) (c : Dc) (e : Expr) (de : DT) : Prop
  | mk (te : TT) (h : PT X e te) (l : LkT c te de)
inductive PWd (X : Cx) (c : Dc) (e : Expr) (de : DT) : Prop
  | mk (te : TT) (h : PW X e te) (l : LkT c te de)
inductive PAd (X : Cx) (c : Dc) (es : List Expr) (de : DA) : Prop
  | mk (te : TA) (h : PA X es te) (l : LkA c te de)
inductive PSd (X : Cx) (c : Dc) (st : Stmt) (de : DS) : Prop
  | mk (te : TS) (h : PS X st te) (l : LkS c te de)
inductive PSsd (X : Cx) (c : Dc) (st : List Stmt) (de : DS) : Prop
  | mk (te : TS) (h : PSs X st te) (l : LkS c te de)
end Dd

namespace Dd
open PySem L2 Pk
section
variable {X : Cx} {c : Dc}
/-! ### what a value is, by its datum -/
variable {F H : Hp} {σ : L2.St} {A : List Sl} {b : Nat} {v : V} {r : Rs}
theorem RsOk.int {i : Int} (h : RsOk c F H σ A v r) (e : r.d = .int i) : v = .int i := by
  cases r with
  | s d => cases e; cases h; rfl
  | b ds => cases e
  | p ds => cases e
  | o ds => cases e
  | g => cases e
theorem RsOk.str {i : Str} (h : RsOk c F H σ A v r) (e : r.d = .str i) : v = .str i := by
  cases r with
  | s d => cases e; cases h; rfl
  | b ds => cases e
  | p ds => cases e
  | o ds => cases e
  | g => cases e
theorem RsOk.bl {i : Bool} (h : RsOk c F H σ A v r) (e : r.d = .bl i) : v = .bl i := by
  cases r with
  | s d => cases e; cases h; rfl
  | b ds => cases e
  | p ds => cases e
  | o ds => cases e
  | g => cases e
theorem RsOk.non (h : RsOk c F H σ A v r) (e : r.d = .non) : v = .non := by
  cases r with
  | s d => cases e; cases h; rfl
  | b ds => cases e
  | p ds => cases e
  | o ds => cases e
  | g => cases e
theorem RsOk.lst {ds : List D} (rr : R c F σ H A b) (h : RsOk c F H σ A v r) (e : r.d = .lst ds) : ∃ p vs, v = .ref p ∧ H p = some (.lst vs) ∧ RpA c.K F vs ds := by
  cases r with
  | s d =>
    cases e
    cases h with
    | lst h q => exact ⟨_, _, rfl, off_sub (rr.sub _ _ h), q⟩
  | b es => cases e; obtain ⟨p, vs, rfl, h1, q⟩ := h; exact ⟨p, vs, rfl, off_sub h1, q⟩
  | p es => cases e; obtain ⟨p, vs, rfl, h1, q⟩ := h; exact ⟨p, vs, rfl, off_sub (rr.bsub _ _ h1), q⟩
  | o es => cases e; obtain ⟨p, vs, rfl, _, _, h1, q, _⟩ := h; exact ⟨p, vs, rfl, off_sub h1, q⟩
  | g => cases e
theorem RsOk.tup {ds : List D} (rr : R c F σ H A b) (h : RsOk c F H σ A v r) (e : r.d = .tup ds) : ∃ p vs, v = .ref p ∧ SqT c.K H p vs ∧ RpA c.K F vs ds := by
  cases r with
  | s d =>
    cases e
    cases h with
    | tup h q => exact ⟨_, _, rfl, SqT.of (off_sub (rr.sub _ _ h)), q⟩
  | b es => cases e
  | p es => cases e
  | o es => cases e
  | g => cases e
/-- the datum as a whole, in the heap at hand -/
theorem RsOk.rp (rr : R c F σ H A b) (h : RsOk c F H σ A v r) (hg : r ≠ .g) : Rp c.K H v r.d := by
  have m : ∀ a o, F a = some o → H a = some o := fun a o z => off_sub (rr.sub a o z)
  cases r with
  | s d => exact h.mono m
  | b ds => obtain ⟨p, vs, rfl, h1, rr⟩ := h; exact .lst (off_sub h1) (rr.mono m)
  | p ds => obtain ⟨p, vs, rfl, h1, q⟩ := h; exact .lst (off_sub (rr.bsub _ _ h1)) (q.mono m)
  | o ds => obtain ⟨p, vs, rfl, h1, h2, h3, rr, n⟩ := h; exact .lst (off_sub h3) (rr.mono m)
  | g => exact absurd rfl hg
end
section
variable {X : Cx} {c : Dc}
/-! ### names, constants -/
def dVar (i : Nat) : DE := fun A b k => match A[i]? with
  | some (.val d) => k (.s d) b
  | some (.own ds) => k (.b ds) b
  | some (.bb ds) => k (.p ds) b
  | some .st => k .g b
  | _ => False
theorem lk_var {i : Nat} : Lk c (tVar i) (dVar i) := by
  intro F σ H A b Q k rr h hk
  unfold dVar at h
  split at h
  · rename_i d e
    obtain ⟨v, hv, q⟩ := rr.sl i _ e
    exact ⟨v, hv, hk _ _ v F H h (.still rr q)⟩
  · rename_i ds e
    obtain ⟨p, vs, hx, h1, h2, h3, q⟩ := rr.sl i _ e
    exact ⟨_, hx, hk _ _ _ F H h ⟨rr, .refl, ⟨p, vs, rfl, h3, q⟩, fun _ _ z => by cases z⟩⟩
  · rename_i ds e
    obtain ⟨p, vs, hx, h1, q⟩ := rr.sl i _ e
    exact ⟨_, hx, hk _ _ _ F H h ⟨rr, .refl, ⟨p, vs, rfl, h1, q⟩, fun _ _ z => by cases z⟩⟩
  · rename_i e
    obtain ⟨d, kk, hG, hx⟩ := rr.sl i _ e
    exact ⟨_, hx, hk _ _ _ F H h ⟨rr, .refl, ⟨d, kk, hG, rfl⟩, fun _ _ z => by cases z⟩⟩
  · exact h.elim
theorem d_var {i : Nat} {x : Str} {pos : Pos} (h : PE X (.Name x pos) (tVar i)) : PEd X c (.Name x pos) (dVar i) := ⟨_, h, lk_var⟩
def dC (d : D) : DE := fun _ b k => k (.s d) b
theorem lk_c {w : V} {d : D} (h : ∀ F, Rp c.K F w d) : Lk c (tC w) (dC d) := fun F σ H A b Q k rr h' hk => hk _ _ w F H h' (.still rr (h F))
theorem d_int {i j pos} : PEd X c (.Constant (.int i) j pos) (dC (.int i)) := ⟨_, pe_int, lk_c fun _ => .int i⟩
theorem d_bl {i j pos} : PEd X c (.Constant (.bool i) j pos) (dC (.bl i)) := ⟨_, pe_bl, lk_c fun _ => .bl i⟩
theorem d_non {j pos} : PEd X c (.Constant .none j pos) (dC .non) := ⟨_, pe_non, lk_c fun _ => .non⟩
theorem d_str {i j pos} : PEd X c (.Constant (.str i) j pos) (dC (.str i)) := ⟨_, pe_str, lk_c fun _ => .str i⟩
theorem d_glob {x : Str} {w : V} {d : D} {u : Value} {pos : Pos} (hg : Gl X x) (hm : X.mg x = some u) (r : RelV w u) (h : ∀ F, Rp c.K F w d) (hd : (x == ("__debug__" : Str)) = false := by decide) : PEd X c (.Name x pos) (dC d) := ⟨_, pe_glob hg hm r hd, lk_c h⟩
/-! ### two places -/
abbrev D2 := Rs → Rs → (Rs → Prop) → Prop
def dOp (f : D2) (da db : DE) : DE := fun A b k => da A b fun x b1 => db A b1 fun y b2 => f x y fun z => k z b2
/-- an operation over the heap is served by one over data -/
def Ln (c : Dc) (r : R2) (f : D2) : Prop := ∀ F σ H A b x y rx ry Q k, R c F σ H A b → RsOk c F H σ A x rx → RsOk c F H σ A y ry → f rx ry k → (∀ z v F' H', k z → Got c F H σ A F' H' b v z → Q v H') → r x y H Q
theorem lk_op {r : R2} {f : D2} {ta tb : TE} {da db : DE} (l : Ln c r f) (la : Lk c ta da) (lb : Lk c tb db) : Lk c (tOp r ta tb) (dOp f da db) := by
  intro F σ H A b Q k rr h hk
  refine la F σ H A b _ _ rr h fun x b1 vx F1 H1 h1 g1 => ?_
  refine lb F1 σ H1 A b1 _ _ g1.rr h1 fun y b2 vy F2 H2 h2 g2 => ?_
  exact l F2 σ H2 A b2 vx vy x y _ _ g2.rr (g1.ok.ext g2.e) g2.ok h2 fun z v F3 H3 h3 g3 => hk z b2 v F3 H3 h3 ((g3.pre g2.e).pre g1.e)
theorem d_op {a e : Expr} {op : Operator} {pos : Pos} {r : R2} {f : D2} {da db : DE} (ho : OpR X (binaryOp op) r) (l : Ln c r f) (ha : PEd X c a da) (hb : PEd X c e db) : PEd X c (.BinOp a op e pos) (dOp f da db) :=
  let ⟨_, h1, l1⟩ := ha
  let ⟨_, h2, l2⟩ := hb
  ⟨_, pe_op ho h1 h2, lk_op l l1 l2⟩
theorem d_cmp {a e : Expr} {op : CmpOp} {pos : Pos} {r : R2} {f : D2} {da db : DE} (ho : OpR X (compareOp op) r) (l : Ln c r f) (ha : PEd X c a da) (hb : PEd X c e db) (hm : behindInMarks op e = false) : PEd X c (.Compare a [op] [e] pos) (dOp f da db) :=
  let ⟨_, h1, l1⟩ := ha
  let ⟨_, h2, l2⟩ := hb
  ⟨_, pe_cmpR ho h1 h2 hm, lk_op l l1 l2⟩
def dTest (de : DE) : DT := fun A b k => de A b fun r b1 => match r with
  | .s (.bl t) => k t b1
  | _ => False
theorem lk_test {te : TE} {de : DE} (l : Lk c te de) : LkT c (tTest te) (dTest de) := by
  intro F σ H A b Q k rr h hk
  refine l F σ H A b _ _ rr h fun r b1 v F1 H1 h1 g1 => ?_
  split at h1
  · exact ⟨_, g1.ok.bl rfl, hk _ _ _ _ h1 g1.rr g1.e⟩
  · exact h1.elim
theorem t_cmp {a e : Expr} {op : CmpOp} {pos : Pos} {r : R2} {f : D2} {da db : DE} (ho : OpR X (compareOp op) r) (l : Ln c r f) (ha : PEd X c a da) (hb : PEd X c e db) (hm : behindInMarks op e = false) : PTd X c (.Compare a [op] [e] pos) (dTest (dOp f da db)) :=
  let ⟨_, h1, l1⟩ := ha
  let ⟨_, h2, l2⟩ := hb
  ⟨_, pt_cmpR ho h1 h2 hm, lk_test (lk_op l l1 l2)⟩
theorem t_val {a : Expr} {da : DE} (ha : PEd X c a da) (he : ∀ whole, isTrue a X.env whole = (do let v ← whole; standAt a.pos; holding [v] (truthy v)) := by intro _; rfl) : PTd X c a (dTest da) :=
  let ⟨_, h1, l1⟩ := ha
  ⟨_, pt_val h1 he, lk_test l1⟩
/-! ### the operations -/
def fI (C : Int → Int → Prop) (g : Int → Int → D) : D2 := fun x y k => match x, y with
  | .s (.int i), .s (.int j) => C i j ∧ k (.s (g i j))
  | _, _ => False
def fI0 (g : Int → Int → D) : D2 := fun x y k => match x, y with
  | .s (.int i), .s (.int j) => k (.s (g i j))
  | _, _ => False
theorem ln_I0 {g : Int → Int → D} {g' : Int → Int → V} (h : ∀ F i j, Rp c.K F (g' i j) (g i j)) : Ln c (rI0 g') (fI0 g) := by
  intro F σ H A b x y rx ry Q k rr hx hy hf hk
  unfold fI0 at hf
  split at hf
  · rename_i i j
    exact ⟨i, j, hx.int rfl, hy.int rfl, hk _ _ _ _ hf (.still rr (h F i j))⟩
  · exact hf.elim
theorem Ln.or {r r' : R2} {f f' : D2} (h : Ln c r f) (h' : Ln c r' f') : Ln c (fun x y H Q => r x y H Q ∨ r' x y H Q) (fun x y k => f x y k ∨ f' x y k) := by
  intro F σ H A b x y rx ry Q k rr hx hy hf hk
  rcases hf with hf | hf
  · exact .inl (h F σ H A b x y rx ry Q k rr hx hy hf hk)
  · exact .inr (h' F σ H A b x y rx ry Q k rr hx hy hf hk)
theorem Ln.imp {r : R2} {f f' : D2} (h : Ln c r f) (i : ∀ x y k, f' x y k → f x y k) : Ln c r f' := fun F σ H A b x y rx ry Q k rr hx hy hf hk => h F σ H A b x y rx ry Q k rr hx hy (i _ _ _ hf) hk
def fCat : D2 := fun x y k => ∃ xs ys, x.d = .lst xs ∧ y.d = .lst ys ∧ xs.length + ys.length ≤ sizeLine ∧ k (.o (xs ++ ys))
theorem ln_cat : Ln c rCat fCat := by
  rintro F σ H A b x y rx ry Q k rr hx hy ⟨xs, ys, e1, e2, hl, hf⟩ hk
  obtain ⟨p, vs, rfl, h1, q1⟩ := hx.lst rr e1
  obtain ⟨p', ws, rfl, h2, q2⟩ := hy.lst rr e2
  exact ⟨p, p', vs, ws, rfl, rfl, h1, h2, by rw [q1.length, q2.length]; exact hl, fun q hq => hk _ _ _ _ hf (.list rr hq (q1.append q2))⟩
def fCatS : D2 := fun x y k => ∃ s t, x = .s (.str s) ∧ y = .s (.str t) ∧ s.length + t.length ≤ sizeLine ∧ k (.s (.str (s ++ t)))
theorem ln_catS : Ln c (fun x y H Q => ∃ i j, x = .str i ∧ y = .str j ∧ i.length + j.length ≤ sizeLine ∧ Q (.str (i ++ j)) H) fCatS := by
  rintro F σ H A b x y rx ry Q k rr hx hy ⟨s, t, rfl, rfl, hl, hf⟩ hk
  exact ⟨s, t, hx.str rfl, hy.str rfl, hl, hk _ _ _ _ hf (.still rr (.str _))⟩
def fRep : D2 := fun x y k => ∃ xs n, x.d = .lst xs ∧ y = .s (.int n) ∧ -(2 ^ 63) ≤ n ∧ n < 2 ^ 63 ∧ xs.length * n.toNat ≤ sizeLine ∧ k (.o (List.replicate n.toNat xs).flatten)
/-- + : ints, texts, lists -/
def aAdd : D2 := fun x y k => fI0 (fun i j => .int (i + j)) x y k ∨ fCatS x y k ∨ fCat x y k
theorem d_add {a e : Expr} {pos : Pos} {da db : DE} (ha : PEd X c a da) (hb : PEd X c e db) : PEd X c (.BinOp a .Add e pos) (dOp aAdd da db) :=
  d_op (op_add.or (op_add_str.or op_cat)) ((ln_I0 fun _ _ _ => .int _).or (ln_catS.or ln_cat)) ha hb
@[reducible] def aSub : D2 := fI0 fun i j => .int (i - j)
theorem d_sub {a e : Expr} {pos : Pos} {da db : DE} (ha : PEd X c a da) (hb : PEd X c e db) : PEd X c (.BinOp a .Sub e pos) (dOp aSub da db) := d_op op_sub (ln_I0 fun _ _ _ => .int _) ha hb
@[reducible] def aMul : D2 := fI CMul fun i j => .int (i * j)
@[reducible] def aFdiv : D2 := fI CDivW fun i j => .int (i / j)
@[reducible] def aMod : D2 := fI (fun _ j => 0 < j) fun i j => .int (i % j)
@[reducible] def aPow : D2 := fI CPow fun i j => .int (i ^ j.toNat)
@[reducible] def aShl : D2 := fI CPow fun i j => .int (i * 2 ^ j.toNat)
@[reducible] def aShr : D2 := fI (fun _ j => 0 ≤ j) fun i j => .int (i / 2 ^ j.toNat)
@[reducible] def aBand : D2 := fI0 fun i j => .int (Builtin.bitAnd i j)
/-! ### comparisons -/
/-- < and its like: ints, texts -/
def fO (g : Int → Int → Bool) (h : Str → Str → Bool) : D2 := fun x y k => match x, y with
  | .s (.int i), .s (.int j) => k (.s (.bl (g i j)))
  | .s (.str i), .s (.str j) => k (.s (.bl (h i j)))
  | _, _ => False
theorem ln_O {g : Int → Int → Bool} {h : Str → Str → Bool} : Ln c (fun x y H Q => rI0 (fun i j => .bl (g i j)) x y H Q ∨ ∃ i j, x = .str i ∧ y = .str j ∧ Q (.bl (h i j)) H) (fO g h) := by
  intro F σ H A b x y rx ry Q k rr hx hy hf hk
  unfold fO at hf
  split at hf
  · exact .inl ⟨_, _, hx.int rfl, hy.int rfl, hk _ _ _ _ hf (.still rr (.bl _))⟩
  · exact .inr ⟨_, _, hx.str rfl, hy.str rfl, hk _ _ _ _ hf (.still rr (.bl _))⟩
  · exact hf.elim
def ltS (i j : Str) : Bool := decide (i.cps.toList < j.cps.toList)
@[reducible] def aLt : D2 := fO (fun i j => decide (i < j)) ltS
@[reducible] def aLe : D2 := fO (fun i j => decide (i ≤ j)) fun i j => !ltS j i
@[reducible] def aGt : D2 := fO (fun i j => decide (j < i)) fun i j => ltS j i
@[reducible] def aGe : D2 := fO (fun i j => decide (j ≤ i)) fun i j => !ltS i j
theorem o_gt : OpR X (compareOp .Gt) (fun x y H Q => rI0 (fun i j => .bl (decide (j < i))) x y H Q ∨ ∃ i j, x = .str i ∧ y = .str j ∧ Q (.bl (ltS j i)) H) := op_gt.or op_gt_str
/-! ### the same, not the same -/
mutual
def py : D → PyData
  | .non => .none
  | .bl b => .bool b
  | .int i => .int i
  | .str s => .str s
  | .lst xs => .list (pys xs)
  | .tup xs => .tuple (pys xs)
  | .fn _ => .none
  | .dk _ => .none
  | .dl _ => .none
  | .er _ _ => .none
  | .ob _ _ => .none
  | .om _ _ => .none
  | .se _ => .none
def pys : List D → List PyData
  | [] => []
  | x :: xs => py x :: pys xs
end
mutual
/-- without functions and dicts -/
def pl : D → Bool
  | .lst xs => pls xs
  | .tup xs => pls xs
  | .fn _ => false
  | .dk _ => false
  | .dl _ => false
  | .er _ _ => false
  | .ob _ _ => false
  | .om _ _ => false
  | .se _ => false
  | _ => true
def pls : List D → Bool
  | [] => true
  | x :: xs => pl x && pls xs
end
mutual
theorem Rp.dp {K : PySem.W.Frag} {H : Hp} : ∀ {d : D} {v : V}, Rp K H v d → pl d = true → Dp K H v (py d)
  | .non, _, .non, _ => .non
  | .bl _, _, .bl b, _ => .bl b
  | .int _, _, .int i, _ => .int i
  | .str _, _, .str x, _ => .str x
  | .lst ds, _, .lst e q, h => .lst (SqL.of e) (RpA.dp (ds := ds) q (by unfold pl at h; exact h))
  | .tup ds, _, .tup e q, h => .tup (SqT.of e) (RpA.dp (ds := ds) q (by unfold pl at h; exact h))
  | .fn _, _, .fn a, h => by unfold pl at h; cases h
  | .dk _, _, .dk e q, h => by unfold pl at h; cases h
  | .dl _, _, .dl e q, h => by unfold pl at h; cases h
  | .er _ _, _, .er0 e, h => by unfold pl at h; cases h
  | .er _ _, _, .er e e' q, h => by unfold pl at h; cases h
  | .ob _ _, _, .ob e e' q, h => by unfold pl at h; cases h
  | .om _ _, _, .om e q, h => by unfold pl at h; cases h
  | .se _, _, .se e q, h => by unfold pl at h; cases h
theorem RpA.dp {K : PySem.W.Frag} {H : Hp} : ∀ {ds : List D} {vs : List V}, RpA K H vs ds → pls ds = true → DpAll K H vs (pys ds)
  | [], _, .nil, _ => .nil
  | d :: ds, _, .cons a r, h => by
    unfold pls at h
    rw [Bool.and_eq_true] at h
    exact .cons (Rp.dp a h.1) (RpA.dp r h.2)
end
def Shp (d : D) : Prop := pl d = true ∧ SeqAt.shaped (py d) = true
def eqd (x y : D) : Bool := PyData.eqv (py x) (py y)
/-- == and != over data -/
def fEq (neg : Bool) : D2 := fun x y k => x ≠ .g ∧ y ≠ .g ∧ Shp x.d ∧ Shp y.d ∧ k (.s (.bl (if neg then !eqd x.d y.d else eqd x.d y.d)))
theorem ln_eq : Ln c (rEqD c.K) (fEq false) := by
  rintro F σ H A b x y rx ry Q k rr hx hy ⟨g1, g2, s1, s2, hf⟩ hk
  exact ⟨_, _, (hx.rp rr g1).dp s1.1, (hy.rp rr g2).dp s2.1, s1.2, s2.2, hk _ _ _ _ hf (.still rr (.bl _))⟩
theorem ln_ne : Ln c (rNeD c.K) (fEq true) := by
  rintro F σ H A b x y rx ry Q k rr hx hy ⟨g1, g2, s1, s2, hf⟩ hk
  exact ⟨_, _, (hx.rp rr g1).dp s1.1, (hy.rp rr g2).dp s2.1, s1.2, s2.2, hk _ _ _ _ hf (.still rr (.bl _))⟩
def isN : D → Bool
  | .non => true
  | _ => false
theorem isN_v {F : Hp} {v : V} {d : D} {K : PySem.W.Frag} (h : Rp K F v d) : decide (v = .non) = isN d := by
  cases h <;> simp [isN]
def fIs (neg : Bool) : D2 := fun x y k => x ≠ .g ∧ y = .s .non ∧ k (.s (.bl (if neg then !isN x.d else isN x.d)))
theorem ln_is : Ln c (fun x y H Q => y = .non ∧ Q (.bl (decide (x = .non))) H) (fIs false) := by
  rintro F σ H A b x y rx ry Q k rr hx hy ⟨g1, rfl, hf⟩ hk
  refine ⟨hy.non rfl, ?_⟩
  rw [isN_v (hx.rp rr g1)]
  exact hk _ _ _ _ hf (.still rr (.bl _))
/-! ### in, not in: flat items -/
def flt : D → Bool
  | .non => true
  | .bl _ => true
  | .int _ => true
  | .str _ => true
  | _ => false
def toV : D → V
  | .bl b => .bl b
  | .int i => .int i
  | .str s => .str s
  | _ => .non
theorem flt_v {K : PySem.W.Frag} {F : Hp} {v : V} {d : D} (h : Rp K F v d) (f : flt d = true) : v = toV d ∧ flatV v = true := by
  cases h <;> first | exact ⟨rfl, rfl⟩ | (unfold flt at f; cases f)
def ind (x : D) (xs : List D) : Bool := inV (toV x) (xs.map toV)
def fIn (neg : Bool) : D2 := fun x y k => ∃ xs, (y.d = .lst xs ∨ y.d = .tup xs) ∧ x ≠ .g ∧ flt x.d = true ∧ xs.all flt = true ∧ k (.s (.bl (if neg then !ind x.d xs else ind x.d xs)))
/-! ### an item -/
def fIx : D2 := fun x y k => ∃ i, y = .s (.int i) ∧ ((∃ xs d, (x.d = .lst xs ∨ x.d = .tup xs) ∧ atI xs i = some d ∧ k (.s d)) ∨ ∃ z n, x = .s (.str z) ∧ z.length ≤ sizeLine ∧ atI z.cps.toList i = some n ∧ k (.s (.str ⟨#[n]⟩)))
theorem atI_rp {K : PySem.W.Frag} {F : Hp} {vs : List V} {ds : List D} {i : Int} {d : D} (h : RpA K F vs ds) (e : atI ds i = some d) : ∃ v, atI vs i = some v ∧ Rp K F v d := by
  unfold atI at e ⊢
  rw [h.length]
  cases q : ixN ds.length i with
  | none => rw [q] at e; cases e
  | some j => rw [q] at e; exact h.get e
theorem ln_ix : Ln c (rIx c.K) fIx := by
  rintro F σ H A b x y rx ry Q k rr hx hy ⟨i, rfl, hf⟩ hk
  rcases hf with ⟨xs, d, hd, ha, hf⟩ | ⟨z, n, rfl, hz, ha, hf⟩
  · rcases hd with hd | hd
    · obtain ⟨p, vs, ey, h1, q⟩ := hx.lst rr hd
      obtain ⟨v, e, rv⟩ := atI_rp q ha
      exact .inl ⟨p, vs, i, v, ey, hy.int rfl, SqL.of h1, e, hk _ _ _ _ hf (.still rr rv)⟩
    · obtain ⟨p, vs, ey, h1, q⟩ := hx.tup rr hd
      obtain ⟨v, e, rv⟩ := atI_rp q ha
      exact .inr (.inl ⟨p, vs, i, v, ey, hy.int rfl, h1, e, hk _ _ _ _ hf (.still rr rv)⟩)
  · exact .inr (.inr ⟨z, i, n, hx.str rfl, hy.int rfl, hz, ha, hk _ _ _ _ hf (.still rr (.str _))⟩)
theorem d_ix {a e : Expr} {pos : Pos} {da db : DE} (hK : c.K = X.K) (ha : PEd X c a da) (hb : PEd X c e db) (hs : PlainIx e) : PEd X c (.Subscript a e pos) (dOp fIx da db) :=
  let ⟨_, h1, l1⟩ := ha
  let ⟨_, h2, l2⟩ := hb
  ⟨_, pe_ix ix_seq h1 h2 hs, lk_op (hK ▸ ln_ix) l1 l2⟩
end
end Dd

namespace Dd
open PySem L2 Pk
section
variable {X : Cx} {c : Dc}
/-! ### tests -/
def dNotT (da : DT) : DT := fun A b k => da A b fun t b1 => k (!t) b1
def dAndT (da db : DT) : DT := fun A b k => da A b fun t b1 => if t = true then db A b1 k else k false b1
def dOrT (da db : DT) : DT := fun A b k => da A b fun t b1 => if t = true then k true b1 else db A b1 k
theorem t_not {a : Expr} {pos : Pos} {da : DT} (ha : PTd X c a da) : PTd X c (.UnaryOp .Not a pos) (dNotT da) :=
  let ⟨_, h1, l1⟩ := ha
  ⟨_, pt_not h1, fun F σ H A b Q k rr h hk => l1 F σ H A b _ _ rr h fun t b1 F1 H1 h1 r1 e1 => hk _ _ _ _ h1 r1 e1⟩
theorem w_or1 {a : Expr} {pos : Pos} {da : DT} (ha : PTd X c a da) : PWd X c (.BoolOp .Or [a] pos) da :=
  let ⟨_, h1, l1⟩ := ha
  ⟨_, pw_or1 h1, l1⟩
theorem w_or {a e : Expr} {rest : List Expr} {pos : Pos} {da db : DT} (ha : PTd X c a da) (hb : PWd X c (.BoolOp .Or (e :: rest) pos) db) : PWd X c (.BoolOp .Or (a :: e :: rest) pos) (dOrT da db) :=
  let ⟨_, h1, l1⟩ := ha
  let ⟨_, h2, l2⟩ := hb
  ⟨_, pw_or h1 h2, fun F σ H A b Q k rr h hk => l1 F σ H A b _ _ rr h fun t b1 F1 H1 h1 r1 e1 => by
    cases t with
    | true => exact hk _ _ _ _ h1 r1 e1
    | false => exact l2 F1 σ H1 A b1 _ _ r1 h1 fun t2 b2 F2 H2 h2 r2 e2 => hk _ _ _ _ h2 r2 (e1.trans e2)⟩
theorem PWd.pt {a : Expr} {da : DT} (h : PWd X c a da) : PTd X c a da :=
  let ⟨_, h1, l1⟩ := h
  ⟨_, h1.pt, l1⟩
/-- a value's truth -/
def tru : D → Option Bool
  | .non => some false
  | .bl b => some b
  | .int i => some (i != 0)
  | .str y => if y.length ≤ sizeLine then some ((y.length : Int) != 0) else none
  | .lst xs => some (!xs.isEmpty)
  | .tup xs => some (!xs.isEmpty)
  | _ => none
def dTru (de : DE) : DT := fun A b k => de A b fun r b1 => r ≠ .g ∧ ∃ t, tru r.d = some t ∧ k t b1
/-! ### and, or, not as values; a if t else b -/
def dNot (da : DE) : DE := fun A b k => da A b fun r b1 => match r with
  | .s (.bl t) => k (.s (.bl (!t))) b1
  | _ => False
def dAnd (da db : DE) : DE := fun A b k => da A b fun r b1 => match r with
  | .s (.bl t) => if t = true then db A b1 k else k (.s (.bl false)) b1
  | _ => False
def dOr (da db : DE) : DE := fun A b k => da A b fun r b1 => match r with
  | .s (.bl t) => if t = true then k (.s (.bl true)) b1 else db A b1 k
  | _ => False
def dIf (dt : DT) (da db : DE) : DE := fun A b k => dt A b fun t b1 => if t = true then da A b1 k else db A b1 k
def dNeg (da : DE) : DE := fun A b k => da A b fun r b1 => match r with | .s (.int i) => k (.s (.int (-i))) b1 | _ => False
theorem d_neg {a : Expr} {pos : Pos} {da : DE} (ha : PEd X c a da) : PEd X c (.UnaryOp .USub a pos) (dNeg da) :=
  let ⟨_, h1, l1⟩ := ha
  ⟨_, pe_un un_neg h1, fun F σ H A b Q k rr h hk => l1 F σ H A b _ _ rr h fun r b1 v F1 H1 h1 g1 => by
    split at h1
    · exact ⟨_, g1.ok.int rfl, hk _ _ _ _ _ h1 ((Got.still g1.rr (.int _)).pre g1.e)⟩
    · exact h1.elim⟩
/-- a < b < c -/
def dChain (f g : D2) (da db dc : DE) : DE := fun A b k => da A b fun x b1 => db A b1 fun y b2 => f x y fun z => match z with
  | .s (.bl t) => if t = true then dc A b2 fun w b3 => g y w fun z => k z b3 else k (.s (.bl false)) b2
  | _ => False
/-! ### arguments, displays -/
def dNil : DA := fun _ b k => k [] b
def dCons (de : DE) (da : DA) : DA := fun A b k => de A b fun r b1 => da A b1 fun rs b2 => k (r.fz :: rs) b2
theorem a_nil : PAd X c [] dNil := ⟨_, pa_nil, fun F σ H A b Q k rr h hk => hk _ _ _ _ _ h rr .refl .nil⟩
theorem fz_ok {F H F' H' : Hp} {σ : L2.St} {A : List Sl} {b' : Nat} {v : V} {r : Rs} (g : Got c F H σ A F' H' b' v r) : ∃ F2, Got c F H σ A F2 H' b' v r.fz := by
  obtain ⟨F2, q⟩ := g.fz
  exact ⟨F2, by cases r <;> exact q⟩
theorem a_cons {e : Expr} {es : List Expr} {de : DE} {da : DA} (ha : PEd X c e de) (hr : PAd X c es da) (hs : starEach (e :: es) X.env = (false, eval e X.env) :: starEach es X.env) : PAd X c (e :: es) (dCons de da) :=
  let ⟨_, h1, l1⟩ := ha
  let ⟨_, h2, l2⟩ := hr
  ⟨_, pa_cons h1 h2 hs, fun F σ H A b Q k rr h hk => l1 F σ H A b _ _ rr h fun r b1 v F1 H1 h1 g1 => by
    obtain ⟨F1', g1⟩ := fz_ok g1
    exact l2 F1' σ H1 A b1 _ _ g1.rr h1 fun rs b2 vs F2 H2 h2 r2 e2 a2 => hk _ _ _ _ _ h2 r2 (g1.e.trans e2) (.cons (g1.ok.ext e2) a2)⟩
/-- what may stand in a list -/
def kps : List Rs → Option (List D)
  | [] => some []
  | .s d :: rs => (kps rs).map (d :: ·)
  | _ => none
theorem AOk.rpa {F H : Hp} {σ : L2.St} {A : List Sl} : ∀ {vs : List V} {rs : List Rs} {ds : List D}, AOk c F H σ A vs rs → kps rs = some ds → RpA c.K F vs ds
  | _, _, _, .nil, e => by cases e; exact .nil
  | _, .s d :: rs, _, .cons h t, e => by
    unfold kps at e
    cases q : kps rs with
    | none => rw [q] at e; cases e
    | some es => rw [q] at e; cases e; exact .cons h (t.rpa q)
  | _, .b _ :: rs, _, .cons h t, e => by cases e
  | _, .p _ :: rs, _, .cons h t, e => by cases e
  | _, .o _ :: rs, _, .cons h t, e => by cases e
  | _, .g :: rs, _, .cons h t, e => by cases e
theorem AOk.length {F H : Hp} {σ : L2.St} {A : List Sl} : ∀ {vs : List V} {rs : List Rs}, AOk c F H σ A vs rs → vs.length = rs.length
  | _, _, .nil => rfl
  | _, _, .cons _ t => by rw [List.length_cons, List.length_cons, t.length]
def dLst (da : DA) : DE := fun A b k => da A b fun rs b1 => ∃ ds, kps rs = some ds ∧ rs.length ≤ sizeLine ∧ k (.o ds) b1
def dTup (da : DA) : DE := fun A b k => da A b fun rs b1 => ∃ ds, kps rs = some ds ∧ rs.length ≤ sizeLine ∧ k (.s (.tup ds)) b1
theorem d_lst {es : List Expr} {pos : Pos} {da : DA} (ha : PAd X c es da) : PEd X c (.List es pos) (dLst da) :=
  let ⟨_, h1, l1⟩ := ha
  ⟨_, pe_lst h1, fun F σ H A b Q k rr h hk => l1 F σ H A b _ _ rr h fun rs b1 vs F1 H1 ⟨ds, e, hl, h1⟩ r1 e1 a1 => ⟨by rw [a1.length]; exact hl, fun p hp => hk _ _ _ _ _ h1 ((Got.list r1 hp (a1.rpa e)).pre e1)⟩⟩
theorem d_tup {es : List Expr} {x1 : Nat} {pos : Pos} {da : DA} (ha : PAd X c es da) : PEd X c (.Tuple es x1 pos) (dTup da) :=
  let ⟨_, h1, l1⟩ := ha
  ⟨_, pe_tup h1, fun F σ H A b Q k rr h hk => l1 F σ H A b _ _ rr h fun rs b1 vs F1 H1 ⟨ds, e, hl, h1⟩ r1 e1 a1 => ⟨by rw [a1.length]; exact hl, fun p hp => hk _ _ _ _ _ h1 ((Got.tuple r1 hp (a1.rpa e)).pre e1)⟩⟩
/-! ### slices -/
abbrev DOp := List Sl → Nat → (Option Int → Nat → Prop) → Prop
def LkO (c : Dc) (te : TO) (de : DOp) : Prop := ∀ F σ H A b Q k, R c F σ H A b → de A b k → (∀ t b' F' H', k t b' → R c F' σ H' A b' → Ext c F H F' H' → Q t H') → te σ H Q
inductive POd (X : Cx) (c : Dc) (e : Option Expr) (de : DOp) : Prop
  | mk (te : TO) (h : PO X e te) (l : LkO c te de)
def dNoP : DOp := fun _ b k => k none b
def dP (de : DE) : DOp := fun A b k => de A b fun r b1 => match r with
  | .s (.int i) => k (some i) b1
  | _ => False
def cutD (xs : List D) (lo hi : Option Int) : List D := (xs.drop (HT.sIx xs.length 0 lo)).take (HT.sIx xs.length xs.length hi - HT.sIx xs.length 0 lo)
theorem RpA.cut {K : PySem.W.Frag} {F : Hp} {vs : List V} {ds : List D} (h : RpA K F vs ds) (lo hi : Option Int) : RpA K F (cutV vs lo hi) (cutD ds lo hi) := by
  unfold cutV cutD
  rw [h.length]
  exact (h.drop _).take _
def fSl (x : Rs) (lo hi : Option Int) (k : Rs → Prop) : Prop := (∃ xs, x.d = .lst xs ∧ k (.o (cutD xs lo hi))) ∨ ∃ z, x = .s (.str z) ∧ z.length ≤ sizeLine ∧ k (.s (.str (cutS z lo hi)))
def dSl (de : DE) (dl dh : DOp) : DE := fun A b k => de A b fun x b1 => dl A b1 fun lo b2 => dh A b2 fun hi b3 => fSl x lo hi fun z => k z b3
/-! ### built-in calls -/
abbrev DC := List Rs → (Rs → Prop) → Prop
def dCB (f : DC) (da : DA) : DE := fun A b k => da A b fun rs b1 => f rs fun z => k z b1
def Lc (c : Dc) (r : List V → Hp → VK → Prop) (f : DC) : Prop := ∀ F σ H A b vs rs Q k, R c F σ H A b → AOk c F H σ A vs rs → f rs k → (∀ z v F' H', k z → Got c F H σ A F' H' b v z → Q v H') → r vs H Q
theorem lk_cb {r : List V → Hp → VK → Prop} {f : DC} {ta : TA} {da : DA} (l : Lc c r f) (la : LkA c ta da) : Lk c (tCB r ta) (dCB f da) := fun F σ H A b Q k rr h hk =>
  la F σ H A b _ _ rr h fun rs b1 vs F1 H1 h1 r1 e1 a1 => l F1 σ H1 A b1 vs rs _ _ r1 a1 h1 fun z v F2 H2 h2 g2 => hk _ _ _ _ _ h2 (g2.pre e1)
theorem d_cb {r : List V → Hp → VK → Prop} {f : DC} {id : String} {x : Str} {e : Expr} {es : List Expr} {p pos : Pos} {da : DA} (hc : CallR X (.builtin id) r) (l : Lc c r f) (hg : Gl X x) (hm : X.mg x = none) (hv : bootBuiltins x = some (.builtin id)) (ha : PAd X c (e :: es) da)
    (hn : x ≠ "__name__" := by decide) (hdb : (x == ("__debug__" : Str)) = false := by decide)
    (he : starEach (e :: es) X.env = (false, eval e X.env) :: starEach es X.env := by rfl) (hpl : (backTo pos (starEach es X.env)).any (·.1) = false := by rfl) : PEd X c (.Call (.Name x p) (e :: es) [] pos) (dCB f da) :=
  let ⟨_, h1, l1⟩ := ha
  ⟨_, pe_callB hc hg hm hv h1 hn hdb he hpl, lk_cb l l1⟩
theorem d_cty {r : List V → Hp → VK → Prop} {f : DC} {T : String} {x : Str} {e : Expr} {es : List Expr} {p pos : Pos} {da : DA} (hc : CallR X (.type T) r) (l : Lc c r f) (hg : Gl X x) (hm : X.mg x = none) (hv : bootBuiltins x = some (.type T)) (ha : PAd X c (e :: es) da)
    (hn : x ≠ "__name__" := by decide) (hdb : (x == ("__debug__" : Str)) = false := by decide)
    (he : starEach (e :: es) X.env = (false, eval e X.env) :: starEach es X.env := by rfl) (hpl : (backTo pos (starEach es X.env)).any (·.1) = false := by rfl) : PEd X c (.Call (.Name x p) (e :: es) [] pos) (dCB f da) :=
  let ⟨_, h1, l1⟩ := ha
  ⟨_, pe_callTy hc hg hm hv h1 hn hdb he hpl, lk_cb l l1⟩
theorem AOk.one {F H : Hp} {σ : L2.St} {A : List Sl} {vs : List V} {r : Rs} (h : AOk c F H σ A vs [r]) : ∃ v, vs = [v] ∧ RsOk c F H σ A v r := by
  cases h with
  | cons h t => cases t; exact ⟨_, rfl, h⟩
theorem AOk.two {F H : Hp} {σ : L2.St} {A : List Sl} {vs : List V} {r r' : Rs} (h : AOk c F H σ A vs [r, r']) : ∃ v v', vs = [v, v'] ∧ RsOk c F H σ A v r ∧ RsOk c F H σ A v' r' := by
  cases h with
  | cons h t =>
    obtain ⟨v', rfl, h'⟩ := t.one
    exact ⟨_, _, rfl, h, h'⟩
/-- len -/
def fLen : DC := fun rs k => ∃ r n, rs = [r] ∧ (match r.d with | .str y => y.length ≤ sizeLine ∧ n = y.length | .lst xs => n = xs.length | .tup xs => n = xs.length | _ => False) ∧ k (.s (.int (n : Nat)))
theorem lc_len : Lc c (fun xs H Q => ∃ x n, xs = [x] ∧ LenV c.K x H n ∧ Q (.int n) H) fLen := by
  rintro F σ H A b vs rs Q k rr ha ⟨r, n, rfl, hn, hf⟩ hk
  obtain ⟨v, rfl, hv⟩ := ha.one
  refine ⟨v, n, rfl, ?_, hk _ _ _ _ hf (.still rr (.int _))⟩
  split at hn
  · rename_i y e; rw [hv.str e]; exact hn
  · rename_i xs e
    obtain ⟨p, vs, rfl, h1, q⟩ := hv.lst rr e
    exact .inl ⟨vs, SqL.of h1, by rw [q.length]; exact hn⟩
  · rename_i xs e
    obtain ⟨p, vs, rfl, h1, q⟩ := hv.tup rr e
    exact .inr ⟨vs, h1, by rw [q.length]; exact hn⟩
  · exact hn.elim
/-- list(x) -/
def fListOf : DC := fun rs k => ∃ r xs, rs = [r] ∧ (r.d = .lst xs ∨ r.d = .tup xs) ∧ k (.o xs)
/-- tuple(x) -/
def fTupOf : DC := fun rs k => ∃ r xs, rs = [r] ∧ (r.d = .lst xs ∨ r = .s (.tup xs)) ∧ k (.s (.tup xs))
/-- int(n), int(flag) -/
def fInt1 : DC := fun rs k => (∃ i, rs = [.s (.int i)] ∧ k (.s (.int i))) ∨ ∃ t, rs = [.s (.bl t)] ∧ k (.s (.int (if t then 1 else 0)))
theorem lc_int1 : Lc c (fun xs H Q => (∃ i, xs = [.int i] ∧ Q (.int i) H) ∨ ∃ k, xs = [.bl k] ∧ Q (.int (if k then 1 else 0)) H) fInt1 := by
  rintro F σ H A b vs rs Q k rr ha hf hk
  rcases hf with ⟨i, rfl, hf⟩ | ⟨i, rfl, hf⟩
  · obtain ⟨v, rfl, hv⟩ := ha.one
    exact .inl ⟨i, by rw [hv.int rfl], hk _ _ _ _ hf (.still rr (.int _))⟩
  · obtain ⟨v, rfl, hv⟩ := ha.one
    exact .inr ⟨i, by rw [hv.bl rfl], hk _ _ _ _ hf (.still rr (.int _))⟩
def fI1 (g : Int → D) : DC := fun rs k => ∃ i, rs = [.s (.int i)] ∧ k (.s (g i))
def fI2 (g : Int → Int → D) : DC := fun rs k => ∃ i j, rs = [.s (.int i), .s (.int j)] ∧ k (.s (g i j))
theorem lc_max2 : Lc c (fun xs H Q => ∃ i j, xs = [.int i, .int j] ∧ Q (.int (if j > i then j else i)) H) (fI2 fun i j => .int (if j > i then j else i)) := by
  rintro F σ H A b vs rs Q k rr ha ⟨i, j, rfl, hf⟩ hk
  obtain ⟨v, v', rfl, hv, hv'⟩ := ha.two
  exact ⟨i, j, by rw [hv.int rfl, hv'.int rfl], hk _ _ _ _ hf (.still rr (.int _))⟩
theorem rpa_bls {K : PySem.W.Frag} {F : Hp} : ∀ {vs : List V} {ns : List Bool}, RpA K F vs (ns.map D.bl) → vs = ns.map V.bl
  | _, [], .nil => rfl
  | _, n :: ns, .cons a r => by cases a; rw [rpa_bls r]; rfl
def fInts (g : List Int → (Rs → Prop) → Prop) : DC := fun rs k => ∃ r ns, rs = [r] ∧ r.d = .lst (ns.map D.int) ∧ g ns k
def fBls (g : List Bool → Bool) : DC := fun rs k => ∃ r ns, rs = [r] ∧ r.d = .lst (ns.map D.bl) ∧ k (.s (.bl (g ns)))
theorem lc_all : Lc c (rAll c.K) (fBls fun bs => bs.all id) := by
  rintro F σ H A b vs rs Q k rr ha ⟨r, ns, rfl, hd, hf⟩ hk
  obtain ⟨v, rfl, hv⟩ := ha.one
  obtain ⟨p, vs, rfl, h1, q⟩ := hv.lst rr hd
  rw [rpa_bls q] at h1
  exact ⟨p, ns, rfl, SqL.of h1, hk _ _ _ _ hf (.still rr (.bl _))⟩
end
end Dd

namespace Dd
open PySem L2 Pk
abbrev Sub (F F' : Hp) : Prop := ∀ a o, F a = some o → F' a = some o
section
variable {X : Cx} {c : Dc}
/-! ### what is walked -/
/-- a walk yields the data ds, while F and W stay -/
def JX (c : Dc) (J : It) (F W : Hp) (ds : List D) : Prop := ∀ F' H' b', Sub F F' → Sub F' (off c.G H') → Sub W (off c.G H') → gst c.K c.G F' H' b' → ∀ i : Nat,
  (∀ d, ds[i]? = some d → J.go i H' ∧ ∀ x H2, J.yld i H' x H2 → ∃ F2, Ext c F' H' F2 H2 ∧ Sub F2 (off c.G H2) ∧ gst c.K c.G F2 H2 b' ∧ Rp c.K F2 x d) ∧ (i = ds.length → J.stop i H')
theorem JX.up {J : It} {F W W' : Hp} {ds : List D} (h : JX c J F W ds) (s : Sub W W') : JX c J F W' ds := fun F' H' b' h1 h2 h3 => h F' H' b' h1 h2 fun a o z => h3 a o (s a o z)
def upto (lo : Int) (n : Nat) : List D := (List.range n).map fun (i : Nat) => .int (lo + (i : Int))
theorem upto_get {lo : Int} {n i : Nat} {d : D} (h : (upto lo n)[i]? = some d) : i < n ∧ d = .int (lo + i) := by
  unfold upto at h
  rw [List.getElem?_map] at h
  cases q : (List.range n)[i]? with
  | none => rw [q] at h; cases h
  | some j =>
    rw [q] at h
    obtain ⟨h1, h2⟩ := List.getElem?_eq_some_iff.mp q
    rw [List.getElem_range] at h2
    subst h2
    cases h
    exact ⟨by simpa using h1, rfl⟩
theorem jx_range {F W : Hp} {lo : Int} {n : Nat} : JX c (Itr lo n) F W (upto lo n) := by
  intro F' H' b' h1 h2 h3 h4 i
  refine ⟨fun d hd => ?_, fun hi => ?_⟩
  · obtain ⟨hi, rfl⟩ := upto_get hd
    refine ⟨hi, fun x H2 ⟨e2, y⟩ => ?_⟩
    subst e2 y
    exact ⟨F', .refl, h2, h4, .int _⟩
  · show n ≤ i
    rw [hi]
    unfold upto
    simp
def signs (z : Str) : List D := z.cps.toList.map fun n => .str ⟨#[n]⟩
/-- a new pair each turn -/
theorem pair_new {F' H' : Hp} {b' : Nat} {T : Addr} {x y : V} {d e : D} (h2 : Sub F' (off c.G H')) (h4 : gst c.K c.G F' H' b') (hT : H' T = none) (rx : Rp c.K F' x d) (ry : Rp c.K F' y e) :
    ∃ F2, Ext c F' H' F2 (upd H' T (.tup [x, y])) ∧ Sub F2 (off c.G (upd H' T (.tup [x, y]))) ∧ gst c.K c.G F2 (upd H' T (.tup [x, y])) b' ∧ Rp c.K F2 (.ref T) (.tup [d, e]) := by
  have hF : F' T = none := by
    cases q : F' T with
    | none => rfl
    | some u => have := off_sub (h2 T u q); rw [hT] at this; cases this
  have ho := off_new (o := .tup [x, y]) h4 hT
  have m : Sub F' (upd F' T (.tup [x, y])) := fun a u h => by rw [upd_ne (ne_of_none h hF)]; exact h
  refine ⟨upd F' T (.tup [x, y]), ⟨m, fun a u h => by rw [ho, upd_ne (ne_of_none (off_sub h) hT)]; exact h, fun a u h => ?_⟩, fun a u h => ?_, gst_mono (gst_new h4 hT) m, .tup upd_same (.cons (rx.mono m) (.one (ry.mono m)))⟩
  · by_cases z : a = T
    · subst z; exact .inr (off_none hT)
    · rw [upd_ne z] at h; exact .inl h
  · rw [ho]
    by_cases z : a = T
    · subst z; rw [upd_same] at h ⊢; exact h
    · rw [upd_ne z] at h ⊢; exact h2 a u h
def numbered (ds : List D) : List D := ds.mapIdx fun i d => .tup [.int i, d]
def zipped (ds es : List D) : List D := ds.zipWith (fun d e => .tup [d, e]) es
theorem zipped_get {ds es : List D} {i : Nat} {d : D} (h : (zipped ds es)[i]? = some d) : ∃ x y, ds[i]? = some x ∧ es[i]? = some y ∧ d = .tup [x, y] := by
  unfold zipped at h
  rw [List.getElem?_zipWith] at h
  cases q : ds[i]? with
  | none => rw [q] at h; cases h
  | some x =>
    cases q' : es[i]? with
    | none => rw [q, q'] at h; cases h
    | some y => rw [q, q'] at h; cases h; exact ⟨x, y, rfl, rfl, rfl⟩
theorem jx_zip {K : PySem.W.Frag} {F W : Hp} {p p' : Addr} {vs ws : List V} {ds es : List D} (hK : c.K = K) (h : ∀ F' H', Sub F F' → Sub F' (off c.G H') → Sub W (off c.G H') → H' p = some (.lst vs) ∧ H' p' = some (.lst ws)) (q : RpA c.K F vs ds) (q' : RpA c.K F ws es) : JX c (Itz K p p') F W (zipped ds es) := by
  subst hK
  intro F' H' b' h1 h2 h3 h4 i
  obtain ⟨e, e'⟩ := h F' H' h1 h2 h3
  have el : (zipped ds es).length = min ds.length es.length := by unfold zipped; simp
  refine ⟨fun d hd => ?_, fun hi => ⟨vs, ws, SqL.of e, SqL.of e', by rw [q.length, q'.length]; omega⟩⟩
  obtain ⟨d1, d2, hd1, hd2, rfl⟩ := zipped_get hd
  obtain ⟨v, hv, rv⟩ := q.get hd1
  obtain ⟨w, hw, rw'⟩ := q'.get hd2
  refine ⟨⟨vs, ws, v, w, SqL.of e, SqL.of e', hv, hw⟩, fun x H2 ⟨T, y, z, e1, hT, e2, hy, hz⟩ => ?_⟩
  subst e1 e2
  rw [hy vs (SqL.of e)] at hv
  cases hv
  rw [hz ws (SqL.of e')] at hw
  cases hw
  exact pair_new h2 h4 hT (rv.mono h1) (rw'.mono h1)
/-! ### judgements for walks -/
abbrev DI := List Sl → Nat → (List D → Nat → Prop) → Prop
def LkI (c : Dc) (wi : TI) (di : DI) : Prop := ∀ F σ H A b Q k, R c F σ H A b → di A b k → (∀ ds b' F' H' J, k ds b' → R c F' σ H' A b' → Ext c F H F' H' → JX c J F' (off c.G H') ds → Q J H') → wi σ H Q
def LkF (c : Dc) (wi : TI) (di : DI) : Prop := ∀ F σ H A b Q k, R c F σ H A b → di A b k → (∀ ds b' F' H' J, k ds b' → R c F' σ H' A b' → Ext c F H F' H' → JX c J F' c.B ds → Q J H') → wi σ H Q
inductive PId (X : Cx) (c : Dc) (tg e : Expr) (di : DI) : Prop
  | mk (wi : TI) (h : PI X tg e wi) (l : LkI c wi di)
inductive PFd (X : Cx) (c : Dc) (tg e : Expr) (di : DI) : Prop
  | mk (wi : TI) (h : PI X tg e wi) (l : LkF c wi di)
theorem PFd.i {tg e : Expr} {di : DI} (h : PFd X c tg e di) : PId X c tg e di :=
  let ⟨_, h1, l1⟩ := h
  ⟨_, h1, fun F σ H A b Q k rr h hk => l1 F σ H A b Q k rr h fun ds b' F' H' J h1 r1 e1 j => hk ds b' F' H' J h1 r1 e1 (j.up r1.bsub)⟩
end
end Dd

namespace Dd
open PySem L2 Pk
section
variable {X : Cx} {c : Dc}
def lsF : Rs → Option (List D)
  | .s (.lst xs) => some xs
  | .p xs => some xs
  | _ => none
def lsC : Rs → Option (List D)
  | .s (.lst xs) => some xs
  | .p xs => some xs
  | .b xs => some xs
  | _ => none
theorem RsOk.lsF {F H : Hp} {σ : L2.St} {A : List Sl} {b : Nat} {v : V} {r : Rs} {xs : List D} (rr : R c F σ H A b) (h : RsOk c F H σ A v r) (e : lsF r = some xs) :
    ∃ p vs, v = .ref p ∧ SqL c.K H p vs ∧ RpA c.K F vs xs ∧ ∀ F' H', Sub F F' → Sub F' (off c.G H') → Sub c.B (off c.G H') → H' p = some (.lst vs) := by
  cases r with
  | s d =>
    cases d with
    | lst ys =>
      cases e
      cases h with
      | lst h q => exact ⟨_, _, rfl, SqL.of (off_sub (rr.sub _ _ h)), q, fun F' H' h1 h2 h3 => off_sub (h2 _ _ (h1 _ _ h))⟩
    | _ => cases e
  | p ys => cases e; obtain ⟨p, vs, rfl, h1, q⟩ := h; exact ⟨p, vs, rfl, SqL.of (off_sub (rr.bsub _ _ h1)), q, fun F' H' _ _ h3 => off_sub (h3 _ _ h1)⟩
  | _ => cases e
theorem RsOk.lsC {F H : Hp} {σ : L2.St} {A : List Sl} {b : Nat} {v : V} {r : Rs} {xs : List D} (rr : R c F σ H A b) (h : RsOk c F H σ A v r) (e : lsC r = some xs) :
    ∃ p vs, v = .ref p ∧ SqL c.K H p vs ∧ RpA c.K F vs xs ∧ ∀ F' H', Sub F F' → Sub F' (off c.G H') → Sub (off c.G H) (off c.G H') → H' p = some (.lst vs) := by
  have hd : r.d = .lst xs := by
    cases r with
    | s d => cases d <;> cases e; rfl
    | b ys => cases e; rfl
    | p ys => cases e; rfl
    | o ys => cases e
    | g => cases e
  cases r with
  | s d =>
    cases d with
    | lst ys =>
      cases e
      cases h with
      | lst h q => exact ⟨_, _, rfl, SqL.of (off_sub (rr.sub _ _ h)), q, fun F' H' h1 h2 h3 => off_sub (h2 _ _ (h1 _ _ h))⟩
    | _ => cases e
  | p ys => cases e; obtain ⟨p, vs, rfl, h1, q⟩ := h; exact ⟨p, vs, rfl, SqL.of (off_sub (rr.bsub _ _ h1)), q, fun F' H' _ _ h3 => off_sub (h3 _ _ (rr.bsub _ _ h1))⟩
  | b ys => cases e; obtain ⟨p, vs, rfl, h1, q⟩ := h; exact ⟨p, vs, rfl, SqL.of (off_sub h1), q, fun F' H' _ _ h3 => off_sub (h3 _ _ h1)⟩
  | o ys => cases e
  | g => cases e
/-! ### an expression that is walked -/
def itF : Rs → Option (List D)
  | .s (.lst xs) => some xs
  | .s (.tup xs) => some xs
  | .s (.str z) => some (signs z)
  | .p xs => some xs
  | .o xs => some xs
  | _ => none
def itC : Rs → Option (List D)
  | .s (.lst xs) => some xs
  | .s (.tup xs) => some xs
  | .s (.str z) => some (signs z)
  | .p xs => some xs
  | .o xs => some xs
  | .b xs => some xs
  | .g => none
  | _ => none
def dIt (f : Rs → Option (List D)) (de : DE) : DI := fun A b k => de A b fun r b1 => ∃ ds, f r = some ds ∧ k ds b1
/-! ### ranges -/
def dR1 (da : DA) : DI := fun A b k => da A b fun rs b1 => ∃ j : Int, rs = [.s (.int j)] ∧ -(2 ^ 62) ≤ j ∧ j < 2 ^ 62 ∧ k (upto 0 j.toNat) b1
def dR2 (da : DA) : DI := fun A b k => da A b fun rs b1 => ∃ i j : Int, rs = [.s (.int i), .s (.int j)] ∧ (-(2 ^ 62) ≤ i ∧ i < 2 ^ 62 ∧ -(2 ^ 62) ≤ j ∧ j < 2 ^ 62) ∧ k (upto i (j - i).toNat) b1
theorem f_range1 {tg a : Expr} {p pos : Pos} {da : DA} (hg : Gl X "range") (hm : X.mg "range" = none) (ha : PAd X c [a] da) (hs : starEach [a] X.env = [(false, eval a X.env)] := by rfl) : PFd X c tg (.Call (.Name "range" p) [a] [] pos) (dR1 da) :=
  let ⟨_, h1, l1⟩ := ha
  ⟨_, pi_range1 hg hm h1 hs, fun F σ H A b Q k rr h hk => l1 F σ H A b _ _ rr h fun rs b1 vs F1 H1 ⟨j, e, h2, h3, h1⟩ r1 e1 a1 => by
    subst e
    obtain ⟨v, rfl, hv⟩ := a1.one
    exact ⟨j, by rw [hv.int rfl], h2, h3, hk _ _ _ _ _ h1 r1 e1 jx_range⟩⟩
/-! ### zip, enumerate, reversed -/
def dZip (f : Rs → Option (List D)) (da : DA) : DI := fun A b k => da A b fun rs b1 => ∃ r s xs ys, rs = [r, s] ∧ f r = some xs ∧ f s = some ys ∧ k (zipped xs ys) b1
def dEnum (f : Rs → Option (List D)) (da : DA) : DI := fun A b k => da A b fun rs b1 => ∃ r xs, rs = [r] ∧ f r = some xs ∧ k (numbered xs) b1
def dRev (f : Rs → Option (List D)) (da : DA) : DI := fun A b k => da A b fun rs b1 => ∃ r xs, rs = [r] ∧ f r = some xs ∧ k xs.reverse b1
theorem i_zip {a e : Expr} {p pos tpos : Pos} {elts : List Expr} {kk : Nat} {da : DA} (hK : c.K = X.K) (hg : Gl X "zip") (hm : X.mg "zip" = none) (ha : PAd X c [a, e] da)
    (hs : starEach [a, e] X.env = (false, eval a X.env) :: starEach [e] X.env := by rfl) (hpl : (backTo pos (starEach [e] X.env)).any (·.1) = false := by rfl) : PId X c (.Tuple elts kk tpos) (.Call (.Name "zip" p) [a, e] [] pos) (dZip lsC da) :=
  let ⟨_, h1, l1⟩ := ha
  ⟨_, pi_zip hg hm h1 hs hpl, fun F σ H A b Q k rr h hk => l1 F σ H A b _ _ rr h fun rs b1 vs F1 H1 ⟨r, s, xs, ys, e, ex, ey, h1⟩ r1 e1 a1 => by
    subst e
    obtain ⟨v, w, rfl, hv, hw⟩ := a1.two
    obtain ⟨p, vs, rfl, hq, q, st⟩ := hv.lsC r1 ex
    obtain ⟨p', ws, rfl, hq', q', st'⟩ := hw.lsC r1 ey
    exact ⟨p, p', vs, ws, rfl, hK ▸ hq, hK ▸ hq', hk _ _ _ _ _ h1 r1 e1 (jx_zip hK (fun F' H' z1 z2 z3 => ⟨st F' H' z1 z2 z3, st' F' H' z1 z2 z3⟩) q q')⟩⟩
/-! ### targets -/
abbrev DG := D → List Sl → (List Sl → Prop) → Prop
/-- only these places are written -/
def Wp (ts : List Nat) (σ σ' : L2.St) : Prop := ∀ vs : List Nat, (∀ i ∈ ts, i ∈ vs) → wipe σ' vs = wipe σ vs
def LkG (c : Dc) (g : TG) (dg : DG) (ts : List Nat) : Prop := ∀ F σ H A b v d Q k, R c F σ H A b → Rp c.K F v d → dg d A k → (∀ A' σ', k A' → R c F σ' H A' b → Wp ts σ σ' → Q σ' H) → g v σ H Q
inductive PGd (X : Cx) (c : Dc) (tg : Expr) (dg : DG) (ts : List Nat) : Prop
  | mk (g : TG) (h : PG X tg g) (l : LkG c g dg ts)
def gN (i : Nat) : DG := fun d A k => k (A.set i (.val d))
theorem set_wipe {σ : L2.St} {i : Nat} {x : Option V} : ∀ {vs : List Nat}, i ∈ vs → wipe (σ.set i x) vs = wipe σ vs
  | [], h => by cases h
  | v :: vs, h => by
    show (wipe (σ.set i x) vs).set v none = (wipe σ vs).set v none
    by_cases e : i ∈ vs
    · rw [set_wipe e]
    · have hv : i = v := by
        rcases List.mem_cons.mp h with z | z
        · exact z
        · exact absurd z e
      subst hv
      have cm : ∀ ws : List Nat, i ∉ ws → wipe (σ.set i x) ws = (wipe σ ws).set i x := by
        intro ws
        induction ws with
        | nil => intro _; rfl
        | cons w ws ih =>
          intro hn
          rw [List.mem_cons, not_or] at hn
          show (wipe (σ.set i x) ws).set w none = ((wipe σ ws).set w none).set i x
          rw [ih hn.2, List.set_comm _ _ hn.1]
      rw [cm vs e, List.set_set]
theorem g_name {i : Nat} {x : Str} {pos : Pos} (h : PG X (.Name x pos) (gName i)) : PGd X c (.Name x pos) (gN i) [i] :=
  ⟨_, h, fun F σ H A b v d Q k rr rv hd hk => hk _ _ hd (rr.put (s := .val d) ⟨v, rfl, rv⟩ fun xs z => by cases z) fun vs h => set_wipe (h i (by simp))⟩
abbrev DGs := List D → List Sl → (List Sl → Prop) → Prop
def LkGs (c : Dc) (g : TGs) (dg : DGs) (ts : List Nat) : Prop := ∀ F σ H A b vs ds Q k, R c F σ H A b → RpA c.K F vs ds → dg ds A k → (∀ A' σ', k A' → R c F σ' H A' b → Wp ts σ σ' → Q σ' H) → g vs σ H Q
inductive PGsd (X : Cx) (c : Dc) (es : List Expr) (dg : DGs) (ts : List Nat) : Prop
  | mk (g : TGs) (h : PGs X es g) (l : LkGs c g dg ts)
def gsNil : DGs := fun ds A k => ds = [] ∧ k A
def gsCons (dg : DG) (dr : DGs) : DGs := fun ds A k => match ds with
  | d :: ds => dg d A fun A' => dr ds A' k
  | [] => False
theorem gs_nil : PGsd X c [] gsNil [] := ⟨_, pgs_nil, fun F σ H A b vs ds Q k rr rv ⟨e, hd⟩ hk => by subst e; cases rv; exact ⟨rfl, hk _ _ hd rr fun _ _ => rfl⟩⟩
theorem gs_cons {e : Expr} {es : List Expr} {dg : DG} {dr : DGs} {ts us : List Nat} (h : PGd X c e dg ts) (hr : PGsd X c es dr us) (hs : (assignEach (e :: es) X.env).map (·.2) = assign e X.env :: (assignEach es X.env).map (·.2) := by rfl) : PGsd X c (e :: es) (gsCons dg dr) (ts ++ us) :=
  let ⟨_, h1, l1⟩ := h
  let ⟨_, h2, l2⟩ := hr
  ⟨_, pgs_cons h1 h2 hs, fun F σ H A b vs ds Q k rr rv hd hk => by
    cases ds with
    | nil => exact hd.elim
    | cons d ds =>
      cases rv with
      | cons a r =>
        exact ⟨_, _, rfl, l1 F σ H A b _ d _ _ rr a hd fun A' σ' h1 r1 w1 => l2 F σ' H A' b _ ds _ _ r1 r h1 fun A2 σ2 h2 r2 w2 => hk _ _ h2 r2 fun vs hv => by
          rw [w2 vs fun i hi => hv i (List.mem_append.mpr (.inr hi)), w1 vs fun i hi => hv i (List.mem_append.mpr (.inl hi))]⟩⟩
def gTupD (n : Nat) (dr : DGs) : DG := fun d A k => match d with
  | .tup ds => ds.length = n ∧ dr ds A k
  | _ => False
theorem g_tup {es : List Expr} {kk n : Nat} {pos : Pos} {dr : DGs} {ts : List Nat} (hK : c.K = X.K) (hc : X.calm = true) (h : PGsd X c es dr ts) (hn : (assignEach es X.env).length = n := by rfl) (hst : (assignEach es X.env).findIdx? (·.1) = none := by rfl) : PGd X c (.Tuple es kk pos) (gTupD n dr) ts :=
  let ⟨_, h1, l1⟩ := h
  ⟨_, pg_tup hc h1 hn hst, fun F σ H A b v d Q k rr rv hd hk => by
    cases d with
    | tup ds =>
      cases rv with
      | tup hq q => exact ⟨_, _, rfl, SqT.of (off_sub (rr.sub _ _ hq)), by rw [q.length]; exact hd.1, l1 F σ H A b _ ds _ _ rr q hd.2 hk⟩
    | _ => exact hd.elim⟩
end
end Dd

namespace Dd
open PySem L2 Pk
section
variable {X : Cx} {c : Dc}
/-! ### blocks -/
def dNx : DS := fun E A b => E.nx A b
def dSeq (t u : DS) : DS := fun E A b => t { E with nx := u E } A b
def dBk : DS := fun E A b => E.bk A b
def dCt : DS := fun E A b => E.ct A b
def dNever : DS := fun _ _ _ => False
theorem s_nil : PSsd X c [] dNx := ⟨_, pss_nil, fun F σ H A b D E rr eo h => eo.nx F σ H A b (fun _ _ z => z) rr h⟩
theorem s_cons {st : Stmt} {rest : List Stmt} {t u : DS} (h : PSd X c st t) (hr : PSsd X c rest u) : PSsd X c (st :: rest) (dSeq t u) :=
  let ⟨_, h1, l1⟩ := h
  let ⟨_, h2, l2⟩ := hr
  ⟨_, pss_cons h1 h2, fun F σ H A b D E rr eo h => l1 F σ H A b _ { E with nx := u E } rr ⟨fun F' σ' H' A' b' m r' q => l2 F' σ' H' A' b' D E r' (eo.up m) q, eo.rt, eo.bk, eo.ct⟩ h⟩
theorem s_one {st : Stmt} {t : DS} (h : PSd X c st t) : PSsd X c [st] t :=
  let ⟨_, h1, l1⟩ := h
  ⟨_, pss_one h1, l1⟩
/-! ### return -/
def dRet (de : DE) : DS := fun E A b => de A b fun r b1 => r.kp ∧ E.rt r b1
theorem s_ret {e : Expr} {de : DE} {pos : Pos} (h : PEd X c e de) : PSd X c (.Return (some e) pos) (dRet de) :=
  let ⟨_, h1, l1⟩ := h
  ⟨_, ps_ret h1, fun F σ H A b D E rr eo h => l1 F σ H A b _ _ rr h fun r b1 v F1 H1 ⟨hk, h1⟩ g1 => eo.rt F1 σ H1 A b1 v r g1.e.f g1.rr (by
    cases r with
    | s d => exact g1.ok
    | o ds => obtain ⟨p, vs, e, z1, z2, z3, z4, _⟩ := g1.ok; exact ⟨p, vs, e, z1, z2, z3, z4⟩
    | b ds => exact hk.elim
    | p ds => exact hk.elim
    | g => exact hk.elim) h1⟩
/-- return of a name: its own list goes out -/
def dRetV (i : Nat) : DS := fun E A b => match A[i]? with
  | some (.own ds) => E.rt (.o ds) b
  | some (.val d) => E.rt (.s d) b
  | _ => False
def dRetN : DS := fun E _ b => E.rt (.s .non) b
/-! ### a name is set -/
def putR (i : Nat) (A : List Sl) (r : Rs) (k : List Sl → Prop) : Prop := match r with
  | .s d => k (A.set i (.val d))
  | .o ds => k (A.set i (.own ds))
  | _ => False
theorem put_ok {F H F1 H1 : Hp} {σ : L2.St} {A : List Sl} {b1 : Nat} {v : V} {r : Rs} {i : Nat} {k : List Sl → Prop} (g : Got c F H σ A F1 H1 b1 v r) (h : putR i A r k) : ∃ A', k A' ∧ R c F1 (σ.set i (some v)) H1 A' b1 := by
  cases r with
  | s d => exact ⟨_, h, g.rr.put (s := .val d) ⟨v, rfl, g.ok⟩ fun xs z => by cases z⟩
  | o ds =>
    obtain ⟨p, vs, rfl, h1, h2, h3, q, n⟩ := g.ok
    exact ⟨_, h, g.rr.put (s := .own ds) ⟨p, vs, rfl, h1, h2, h3, q⟩ fun xs z j ys ne hj => n j ys hj⟩
  | b ds => exact h.elim
  | p ds => exact h.elim
  | g => exact h.elim
def dSet (i : Nat) (de : DE) : DS := fun E A b => de A b fun r b1 => putR i A r fun A' => E.nx A' b1
theorem lk_set {i : Nat} {te : TE} {de : DE} (l : Lk c te de) : LkS c (tAsg te (gName i)) (dSet i de) := fun F σ H A b D E rr eo h =>
  l F σ H A b _ _ rr h fun r b1 v F1 H1 h1 g1 => by
    obtain ⟨A', h2, r2⟩ := put_ok g1 h1
    exact eo.nx F1 _ H1 A' b1 g1.e.f r2 h2
theorem s_set {i : Nat} {x : Str} {e : Expr} {de : DE} {pos pos' : Pos} (hN : X.N.Nodup) (hi : X.N[i]? = some x) (hx : Loc X.env.scope x) (he : PEd X c e de) (hs : swapsWith e (some (.Name x pos')) pos.line X.env = pure false := by rfl) (hf : X.fn x = true ∨ X.env.scope.names.lookup x = some .local := by first | exact .inl rfl | exact .inr rfl | assumption) :
    PSd X c (.Assign [.Name x pos'] e pos) (dSet i de) :=
  let ⟨_, h1, l1⟩ := he
  ⟨_, ps_set hN hi hx h1 hs hf, lk_set l1⟩
/-- targets of any form -/
def dAsg (de : DE) (dg : DG) : DS := fun E A b => de A b fun r b1 => r.kp ∧ dg r.d A fun A' => E.nx A' b1
theorem s_asg {tg e : Expr} {de : DE} {dg : DG} {ts : List Nat} {pos : Pos} (he : PEd X c e de) (hg : PGd X c tg dg ts) (hs : swapsWithSole [tg] e pos.line X.env = pure false := by rfl) (hw : swappedStores [tg] e X.env = pure none := by rfl)
    (h1 : (assignEach [tg] X.env).map (·.2) = [assign tg X.env] := by rfl) : PSd X c (.Assign [tg] e pos) (dAsg de dg) :=
  let ⟨_, h2, l2⟩ := he
  let ⟨_, h3, l3⟩ := hg
  ⟨_, ps_asg h2 h3 hs hw h1, fun F σ H A b D E rr eo h => l2 F σ H A b _ _ rr h fun r b1 v F1 H1 ⟨hk, h1⟩ g1 => by
    obtain ⟨F2, m, g2⟩ := g1.keep hk
    exact l3 F2 σ H1 A b1 v r.d _ _ g2.rr g2.ok h1 fun A' σ' h2 r2 _ => eo.nx F2 σ' H1 A' b1 g2.e.f r2 h2⟩
/-- x op= e -/
def dAug (i : Nat) (de : DE) (f : D2) : DS := fun E A b => dVar i A b fun x b0 => de A b0 fun y b1 => f x y fun z => putR i A z fun A' => E.nx A' b1
theorem pip_add : PIp X .Add (rI0 fun i j => .int (i + j)) := ip_add
theorem pip_sub : PIp X .Sub (rI0 fun i j => .int (i - j)) := ip_sub
/-! ### a list of a name's own is changed -/
def own (A : List Sl) (j : Nat) (k : List D → Prop) : Prop := match A[j]? with
  | some (.own ds) => k ds
  | _ => False
theorem own_ok {F H : Hp} {σ : L2.St} {A : List Sl} {b : Nat} {j : Nat} {k : List D → Prop} (rr : R c F σ H A b) (h : own A j k) : ∃ ds p vs, A[j]? = some (.own ds) ∧ k ds ∧ σ[j]? = some (some (.ref p)) ∧ F p = none ∧ c.B p = none ∧ off c.G H p = some (.lst vs) ∧ RpA c.K F vs ds := by
  unfold own at h
  split at h
  · rename_i ds e
    obtain ⟨p, vs, hx, h1, h2, h3, q⟩ := rr.sl j _ e
    exact ⟨ds, p, vs, e, h, hx, h1, h2, h3, q⟩
  · exact h.elim
def dApp (j : Nat) (de : DE) : DS := fun E A b => own A j fun ds => de A b fun r b1 => r.kp ∧ ds.length < sizeLine ∧ E.nx (A.set j (.own (ds ++ [r.d]))) b1
theorem lk_app {K : PySem.W.Frag} {j : Nat} {te : TE} {de : DE} (l : Lk c te de) : LkS c (tDrop (tBM K "list" rAppend (tVar j) (tCons te tNil))) (dApp j de) := fun F σ H A b D E rr eo h => by
  obtain ⟨ds, p, vs, hj, h, hx, h1, h2, h3, q⟩ := own_ok rr h
  refine ⟨_, hx, .inl ⟨rfl, _, SqL.of (off_sub h3)⟩, l F σ H A b _ _ rr h fun r b1 v F1 H1 ⟨hk, hl, h'⟩ g1 => ?_⟩
  obtain ⟨F2, m, g2⟩ := g1.keep hk
  refine ⟨p, vs, v, rfl, rfl, off_sub (g2.e.h _ _ h3), by rw [q.length]; exact hl, ?_⟩
  exact eo.nx F2 σ _ _ b1 g2.e.f (g2.rr.mut hj hx (g2.e.keep h1 h3) h2 (g2.e.h _ _ h3) ((q.mono g2.e.f).append (.one g2.ok))) h'
theorem s_app {j : Nat} {x : Str} {e : Expr} {de : DE} {p1 p2 p3 p4 : Pos} (hv : PE X (.Name x p1) (tVar j)) (he : PEd X c e de) (hst : starEach [e] X.env = (false, eval e X.env) :: starEach [] X.env)
    (hbase : attributeBase (.Name x p1) "append" X.env (eval (.Name x p1) X.env) = eval (.Name x p1) X.env := by rfl)
    (hfew : ((backTo p3 (starEach [e] X.env)).all (fun x => !x.1) && (backToKw p3 (keywordEach [] X.env)).all (fun x => x.1.isSome) && decide ([e].length + ([] : List Keyword).length + (if ([] : List Keyword).isEmpty then 0 else 1) < 30)) = true := by rfl)
    (hline : (p2.endLine == p3.line) = true := by rfl) (hplain : (backTo p3 (starEach [] X.env)).any (·.1) = false := by rfl) (hs : swapsWith (.Call (.Attribute (.Name x p1) "append" p2) [e] [] p3) none p4.line X.env = pure false := by rfl) :
    PSd X c (.Expr (.Call (.Attribute (.Name x p1) "append" p2) [e] [] p3) p4) (dApp j de) :=
  let ⟨_, h1, l1⟩ := he
  ⟨_, ps_expr (pe_bm PySem.F.plainAttrs_list PySem.F.slot_list_append PySem.F.type_list_append mt_append hv (pa_cons h1 pa_nil hst) hbase hfew hline hst hplain) hs, lk_app l1⟩
def dExt (j : Nat) (de : DE) : DS := fun E A b => own A j fun ds => de A b fun r b1 => ∃ es, r.d = .lst es ∧ ds.length + es.length ≤ sizeLine ∧ E.nx (A.set j (.own (ds ++ es))) b1
/-- x[i] = e -/
def dSetIx (j : Nat) (di de : DE) : DS := fun E A b => de A b fun r b1 => r.kp ∧ own A j fun ds => di A b1 fun i b2 => ∃ n m, i = .s (.int n) ∧ ixN ds.length n = some m ∧ E.nx (A.set j (.own (ds.set m r.d))) b2
theorem s_setIx {j : Nat} {x : Str} {i e : Expr} {di de : DE} {p1 p2 pos : Pos} (hv : PE X (.Name x p1) (tVar j)) (hi : PEd X c i di) (he : PEd X c e de)
    (ha : ∀ v, assign (.Subscript (.Name x p1) i p2) X.env v = (do
      let ov ← holding [v] (eval (.Name x p1) X.env)
      let iv ← holding [v, ov] (eval i X.env)
      standAt p2
      holding [v, ov, iv] (setItem ov iv v)
      release [v, ov, iv] []) := by intro _; rfl)
    (hs : swapsWithSole [.Subscript (.Name x p1) i p2] e pos.line X.env = pure false := by rfl) (hw : swappedStores [.Subscript (.Name x p1) i p2] e X.env = pure none := by rfl)
    (h1 : (assignEach [.Subscript (.Name x p1) i p2] X.env).map (·.2) = [assign (.Subscript (.Name x p1) i p2) X.env] := by rfl) : PSd X c (.Assign [.Subscript (.Name x p1) i p2] e pos) (dSetIx j di de) :=
  let ⟨_, h2, l2⟩ := hi
  let ⟨_, h3, l3⟩ := he
  ⟨_, ps_asg h3 (pg_sub hv h2 set_list ha) hs hw h1, fun F σ H A b D E rr eo h => l3 F σ H A b _ _ rr h fun r b1 v F1 H1 ⟨hk, h1⟩ g1 => by
    obtain ⟨F2, m, g2⟩ := g1.keep hk
    obtain ⟨ds, p, vs, hj, h1, hx, z1, z2, z3, q⟩ := own_ok g2.rr h1
    refine ⟨_, hx, l2 F2 σ H1 A b1 _ _ g2.rr h1 fun iv b2 w F3 H3 ⟨n, k, ei, hix, h'⟩ g3 => ?_⟩
    subst ei
    refine ⟨p, vs, n, k, rfl, g3.ok.int rfl, off_sub (g3.e.h _ _ z3), by rw [q.length]; exact hix, ?_⟩
    exact eo.nx F3 σ _ _ b2 (fun a o z => g3.e.f a o (g2.e.f a o z)) (g3.rr.mut hj hx (g3.e.keep z1 z3) z2 (g3.e.h _ _ z3) ((q.mono g3.e.f).set (g2.ok.mono g3.e.f) k)) h'⟩
/-- a value is dropped -/
def dDrop (de : DE) : DS := fun E A b => de A b fun _ b1 => E.nx A b1
theorem s_expr {e : Expr} {de : DE} {pos : Pos} (h : PEd X c e de) (hs : swapsWith e none pos.line X.env = pure false := by rfl) : PSd X c (.Expr e pos) (dDrop de) :=
  let ⟨_, h1, l1⟩ := h
  ⟨_, ps_expr h1 hs, fun F σ H A b D E rr eo h => l1 F σ H A b _ _ rr h fun r b1 v F1 H1 h1 g1 => eo.nx F1 σ H1 A b1 g1.e.f g1.rr h1⟩
/-! ### if, while, for -/
def dIfS (dt : DT) (t u : DS) : DS := fun E A b => dt A b fun k b1 => if k = true then t E A b1 else u E A b1
theorem s_if {e : Expr} {x y : List Stmt} {dt : DT} {t u : DS} {pos : Pos} (h : PTd X c e dt) (hx : PSsd X c x t) (hy : PSsd X c y u) : PSd X c (.If e x y pos) (dIfS dt t u) :=
  let ⟨_, h1, l1⟩ := h
  let ⟨_, h2, l2⟩ := hx
  let ⟨_, h3, l3⟩ := hy
  ⟨_, ps_if h1 h2 h3, fun F σ H A b D E rr eo h => l1 F σ H A b _ _ rr h fun k b1 F1 H1 h1 r1 e1 => by
    cases k with
    | true => exact l2 F1 σ H1 A b1 D E r1 (eo.up e1.f) h1
    | false => exact l3 F1 σ H1 A b1 D E r1 (eo.up e1.f) h1⟩
def dWhile (dt : DT) (t : DS) : DS := fun E A b => ∃ W : Nat → List Sl → Nat → Prop, (∃ m, W m A b) ∧ ∀ m A b, W m A b →
  dt A b fun k b1 => if k = true then t { E with nx := fun A' b' => ∃ m', m' < m ∧ W m' A' b', ct := fun A' b' => ∃ m', m' < m ∧ W m' A' b', bk := E.nx } A b1 else E.nx A b1
def dFor (di : DI) (dg : DG) (t : DS) : DS := fun E A b => di A b fun ds b1 => ∃ I : Nat → List Sl → Nat → Prop, I 0 A b1 ∧
  (∀ i d A b, ds[i]? = some d → I i A b → dg d A fun A' => t { E with nx := I (i + 1), ct := I (i + 1), bk := E.nx } A' b) ∧ ∀ A b, I ds.length A b → E.nx A b
theorem s_for {tg e : Expr} {x : List Stmt} {di : DI} {dg : DG} {ts : List Nat} {t : DS} {pos : Pos} (hp : PassesOwn (model X.prog X.w) X.A X.env X.xe) (hc : X.calm = true) (hi : PFd X c tg e di) (hg : PGd X c tg dg ts) (hx : PSsd X c x t) (hs : ∀ x, foldedSetIterable e X.env x = pure x := by intro _; rfl) : PSd X c (.For tg e x [] pos) (dFor di dg t) :=
  let ⟨_, h1, l1⟩ := hi
  let ⟨_, h2, l2⟩ := hg
  let ⟨_, h3, l3⟩ := hx
  ⟨_, ps_for hp hc h1 h2 h3 hs, fun F σ H A b D E rr eo h => l1 F σ H A b _ _ rr h fun ds b1 F1 H1 J ⟨I, i0, turn, fin⟩ r1 e1 jx => by
    refine ⟨fun i m σ' H' => m + i = ds.length ∧ ∃ F' A' b', Sub F1 F' ∧ R c F' σ' H' A' b' ∧ I i A' b', ⟨ds.length, rfl, F1, A, b1, fun _ _ z => z, r1, i0⟩, ?_⟩
    rintro i m σ' H' ⟨em, F', A', b', s', r', w'⟩
    have j := jx F' H' b' s' r'.sub r'.bsub r'.st i
    have sF : Sub F F' := fun a o z => s' a o (e1.f a o z)
    rcases Nat.lt_or_ge i ds.length with hl | hl
    · right
      obtain ⟨d, hd⟩ : ∃ d, ds[i]? = some d := ⟨_, List.getElem?_eq_getElem hl⟩
      obtain ⟨go, yl⟩ := j.1 d hd
      refine ⟨go, fun σ2 H2 => ∃ F' A' b', Sub F1 F' ∧ R c F' σ2 H2 A' b' ∧ I (i + 1) A' b', fun σ2 H2 z => ⟨m - 1, by omega, by omega, z⟩, fun x H2 hy => ?_⟩
      obtain ⟨F2, e2, sb, g2, rv⟩ := yl x H2 hy
      have r2 := r'.ext e2 sb g2
      refine l2 F2 σ' H2 A' b' x d _ _ r2 rv (turn i d A' b' hd w') fun A3 σ3 h3 r3 _ => ?_
      have s2 : Sub F F2 := fun a o z => e2.f a o (sF a o z)
      have s3 : Sub F1 F2 := fun a o z => e2.f a o (s' a o z)
      refine l3 F2 σ3 H2 A3 b' _ { E with nx := I (i + 1), ct := I (i + 1), bk := E.nx } r3 ⟨?_, (eo.up s2).rt, (eo.up s2).nx, ?_⟩ h3
      · exact fun F4 σ4 H4 A4 b4 m4 r4 w4 => ⟨F4, A4, b4, fun a o z => m4 a o (s3 a o z), r4, w4⟩
      · exact fun F4 σ4 H4 A4 b4 m4 r4 w4 => ⟨F4, A4, b4, fun a o z => m4 a o (s3 a o z), r4, w4⟩
    · left
      have e : i = ds.length := by omega
      subst e
      exact ⟨j.2 rfl, eo.nx F' σ' H' A' b' sF r' (fin A' b' w')⟩⟩
/-! ### an own list is said to stay -/
def dFrz (i : Nat) (t : DS) : DS := fun E A b => match A[i]? with
  | some (.own ds) => t E (A.set i (.val (.lst ds))) b
  | _ => t E A b
end
end Dd

namespace Dd
open PySem L2 Pk
section
variable {X : Cx} {c : Dc}
/-! ### comprehensions -/
def wipeS (A : List Sl) : List Nat → List Sl
  | [] => A
  | v :: vs => (wipeS A vs).set v .no
theorem R.wipes {F H : Hp} {σ : L2.St} {A : List Sl} {b : Nat} (r : R c F σ H A b) : ∀ vs : List Nat, R c F (wipe σ vs) H (wipeS A vs) b
  | [] => r
  | v :: vs => (r.wipes vs).wiped
theorem wipe_wipe {σ : L2.St} : ∀ {us vs : List Nat}, (∀ i ∈ us, i ∈ vs) → wipe (wipe σ us) vs = wipe σ vs
  | [], vs, _ => rfl
  | u :: us, vs, h => by
    show wipe ((wipe σ us).set u none) vs = wipe σ vs
    rw [set_wipe (h u (by simp)), wipe_wipe fun i hi => h i (List.mem_cons_of_mem _ hi)]
/-- a list that is nobody's is changed -/
theorem R.tmp {F H : Hp} {σ : L2.St} {A : List Sl} {b : Nat} {p : Addr} {o o' : HO} (r : R c F σ H A b) (hF : F p = none) (hB : c.B p = none) (hH : off c.G H p = some o) (hn : ∀ (i : Nat) (xs : List D), A[i]? = some (.own xs) → σ[i]? ≠ some (some (.ref p))) (no : ∀ q, o ≠ .own q := by intro q z; cases z) (nm : NM o' := by trivial) : R c F σ (upd H p o') A b := by
  have ho : off c.G (upd H p o') = upd (off c.G H) p o' := off_mut hH nm
  refine ⟨fun a u h => ?_, fun a u h => ?_, r.f0, r.n0, gst_mut r.st hH no, fun i s h => ?_, r.ds, r.len⟩
  · rw [ho, upd_ne (ne_of_none h hF)]; exact r.sub a u h
  · rw [ho, upd_ne (ne_of_none h hB)]; exact r.bsub a u h
  · have q := r.sl i s h
    cases s with
    | no => trivial
    | val d => exact q
    | own ds =>
      obtain ⟨p', vs, hx, h1, h2, h3, rr⟩ := q
      refine ⟨p', vs, hx, h1, h2, ?_, rr⟩
      rw [ho, upd_ne (fun z => by subst z; exact hn i ds h hx)]
      exact h3
    | bb ds => exact q
    | st => exact q
    | bo p C kds => exact q
inductive PTsd (X : Cx) (c : Dc) (ifs : List Expr) (dt : DT) : Prop
  | mk (te : TT) (h : PTs X ifs te) (l : LkT c te dt)
def dYes : DT := fun _ b k => k true b
theorem ts_nil : PTsd X c [] dYes := ⟨_, pts_nil, fun F σ H A b Q k rr h hk => hk _ _ _ _ h rr .refl⟩
def dLc (di : DI) (dg : DG) (dt : DT) (de : DE) (ws : List Nat) : DE := fun A b k => di A b fun ds b1 => ∃ I : Nat → List D → Nat → Prop, I 0 [] b1 ∧
  (∀ i d acc b, ds[i]? = some d → I i acc b → dg d (wipeS A ws) fun A' => dt A' b fun t b2 => if t = true then de A' b2 fun r b3 => r.kp ∧ acc.length < sizeLine ∧ I (i + 1) (acc ++ [r.d]) b3 else I (i + 1) acc b2) ∧ ∀ acc b, I ds.length acc b → k (.o acc) b
theorem lk_lc {wi : TI} {g : TG} {tt : TT} {te : TE} {di : DI} {dg : DG} {dt : DT} {de : DE} {ws ts : List Nat} (li : LkI c wi di) (lg : LkG c g dg ts) (hts : ∀ i ∈ ts, i ∈ ws) (lt : LkT c tt dt) (le : Lk c te de) : Lk c (tLc wi g tt te ws) (dLc di dg dt de ws) := by
  intro F σ H A b Q k rr h hk
  refine li F σ H A b _ _ rr h fun ds b1 F1 H1 J ⟨I, i0, turn, fin⟩ r1 e1 jx => fun p hp => ?_
  have hoff : off c.G H1 p = none := off_none hp
  have hB : c.B p = none := by
    cases q : c.B p with
    | none => rfl
    | some u => rw [r1.bsub p u q] at hoff; cases hoff
  have hF1 : F1 p = none := by
    cases q : F1 p with
    | none => rfl
    | some u => rw [r1.sub p u q] at hoff; cases hoff
  have hn : ∀ (i : Nat) (xs : List D), A[i]? = some (.own xs) → σ[i]? ≠ some (some (.ref p)) := fun i xs hi z => by
    obtain ⟨p', vs, hx, _, _, h3, _⟩ := r1.sl i _ hi
    rw [hx] at z
    cases z
    rw [h3] at hoff
    cases hoff
  refine ⟨fun i m H' => m + i = ds.length ∧ ∃ F' vs acc b', R c F' σ H' A b' ∧ Ext c F1 H1 F' H' ∧ F' p = none ∧ off c.G H' p = some (.lst vs) ∧ RpA c.K F' vs acc ∧ I i acc b', ⟨ds.length, rfl, F1, [], [], b1, (r1.alloc hp).2, (r1.alloc hp).1, hF1, by rw [off_new r1.st hp, upd_same], .nil, i0⟩, ?_⟩
  rintro i m H' ⟨em, F', vs, acc, b', r', e', f', o', q', w'⟩
  have j := jx F' H' b' e'.f r'.sub e'.h r'.st i
  rcases Nat.lt_or_ge i ds.length with hl | hl
  · right
    obtain ⟨d, hd⟩ : ∃ d, ds[i]? = some d := ⟨_, List.getElem?_eq_getElem hl⟩
    obtain ⟨go, yl⟩ := j.1 d hd
    refine ⟨go, fun H2 => ∃ F' vs acc b', R c F' σ H2 A b' ∧ Ext c F1 H1 F' H2 ∧ F' p = none ∧ off c.G H2 p = some (.lst vs) ∧ RpA c.K F' vs acc ∧ I (i + 1) acc b', fun H2 z => ⟨m - 1, by omega, by omega, z⟩, fun x H2 hy => ?_⟩
    obtain ⟨F2, e2, sb, g2, rv⟩ := yl x H2 hy
    have r2 := r'.ext e2 sb g2
    refine lg F2 (wipe σ ws) H2 (wipeS A ws) b' x d _ _ (r2.wipes ws) rv (turn i d acc b' hd w') fun A3 σ3 h3 r3 w3 => ⟨?_, ?_⟩
    · rw [w3 ws hts, wipe_wipe fun i hi => hi]
    refine lt F2 σ3 H2 A3 b' _ _ r3 h3 fun t b3 F3 H3 h4 r4 e4 => ?_
    cases t with
    | false =>
      have e := e2.trans e4
      exact ⟨F3, vs, acc, b3, r'.ext e r4.sub r4.st, e'.trans e, e.keep f' o', e.h _ _ o', q'.mono e.f, h4⟩
    | true =>
      refine le F3 σ3 H3 A3 b3 _ _ r4 h4 fun r b5 v F5 H5 ⟨kp, hlen, h5⟩ g5 => ?_
      obtain ⟨F6, m6, g6⟩ := g5.keep kp
      have e := (e2.trans e4).trans g6.e
      have o6 := e.h _ _ o'
      have f6 := e.keep f' o'
      refine ⟨vs, off_sub o6, by rw [q'.length]; exact hlen, F6, vs ++ [v], acc ++ [r.d], b5, ((r'.ext e g6.rr.sub g6.rr.st).tmp f6 hB o6 hn), ?_, f6, by rw [off_mut o6, upd_same], (q'.mono e.f).append (.one g6.ok), h5⟩
      have et := e'.trans e
      exact ⟨et.f, fun a u z => by rw [off_mut o6, upd_ne (fun y => by subst y; rw [hoff] at z; cases z)]; exact et.h a u z, et.n⟩
  · left
    have e : i = ds.length := by omega
    subst e
    exact ⟨j.2 rfl, hk _ _ _ F' H' (fin acc b' w') ⟨r', e1.trans e', ⟨p, vs, rfl, f', hB, o', q', hn⟩, fun _ _ _ z => by cases z; exact e1.none hoff⟩⟩
/-! ### one reading for all blocks -/
def up (c : Dc) (de : DE) : TE := fun σ H Q => ∃ F A b k, R c F σ H A b ∧ de A b k ∧ ∀ r b' v F' H', k r b' → Got c F H σ A F' H' b' v r → Q v H'
theorem lk_up {de : DE} : Lk c (up c de) de := fun F σ H A b Q k rr h hk => ⟨F, A, b, k, rr, h, hk⟩
theorem PEd.up {e : Expr} {de : DE} (h : PEd X c e de) : PE X e (up c de) := by
  obtain ⟨te, h1, l1⟩ := h
  rintro pins s σ H Q I ⟨F, A, b, k, rr, h, hk⟩
  exact h1 pins s σ H Q I (l1 F σ H A b Q k rr h hk)
def upT (c : Dc) (de : DT) : TT := fun σ H Q => ∃ F A b k, R c F σ H A b ∧ de A b k ∧ ∀ t b' F' H', k t b' → R c F' σ H' A b' → Ext c F H F' H' → Q t H'
theorem lk_upT {de : DT} : LkT c (upT c de) de := fun F σ H A b Q k rr h hk => ⟨F, A, b, k, rr, h, hk⟩
theorem PTsd.up {ifs : List Expr} {de : DT} (h : PTsd X c ifs de) : PTs X ifs (upT c de) := by
  obtain ⟨te, h1, l1⟩ := h
  rintro pins s σ H Q I ⟨F, A, b, k, rr, h, hk⟩
  exact h1 pins s σ H Q I (l1 F σ H A b Q k rr h hk)
def upG (c : Dc) (dg : DG) (ts : List Nat) : TG := fun v σ H Q => ∃ F A b d k, R c F σ H A b ∧ Rp c.K F v d ∧ dg d A k ∧ ∀ A' σ', k A' → R c F σ' H A' b → Wp ts σ σ' → Q σ' H
theorem lk_upG {dg : DG} {ts : List Nat} : LkG c (upG c dg ts) dg ts := fun F σ H A b v d Q k rr rv h hk => ⟨F, A, b, d, k, rr, rv, h, hk⟩
theorem PGd.up {tg : Expr} {dg : DG} {ts : List Nat} (h : PGd X c tg dg ts) : PG X tg (upG c dg ts) := by
  obtain ⟨g, h1, l1⟩ := h
  rintro pins s σ H v u Q I r ⟨F, A, b, d, k, rr, rv, h, hk⟩
  exact h1 pins s σ H v u Q I r (l1 F σ H A b v d Q k rr rv h hk)
def all_in (ts ws : List Nat) : Bool := ts.all fun i => ws.contains i
theorem all_in_of {ts ws : List Nat} (h : all_in ts ws = true) : ∀ i ∈ ts, i ∈ ws := fun i hi => by
  have := List.all_eq_true.mp h i hi
  simpa using this
theorem d_lc {elt tg iter : Expr} {ifs : List Expr} {scope : Scope} {own : List (Str × Nat)} {pos : Pos} {di : DI} {dg : DG} {dt : DT} {de : DE} {ts : List Nat} (hc : X.calm = true) (hN : X.N.Nodup) (hi : PId X c tg iter di) (ok : BlkOk X.N X.env.scope scope own)
    (hg : ∀ (s : Shared) (H : Hp) (C : Addr) (cl : List (Str × Addr)) (fp : List Addr), PGd (X.blk s H scope (compEnvC scope cl C X.env) fp) c tg dg ts) (hts : all_in ts (own.map (·.2)) = true)
    (ht : ∀ (s : Shared) (H : Hp) (C : Addr) (cl : List (Str × Addr)) (fp : List Addr), PTsd (X.blk s H scope (compEnvC scope cl C X.env) fp) c ifs dt)
    (he : ∀ (s : Shared) (H : Hp) (C : Addr) (cl : List (Str × Addr)) (fp : List Addr), PEd (X.blk s H scope (compEnvC scope cl C X.env) fp) c elt de) (hs : ∀ x, foldedSetIterable iter X.env x = pure x := by intro _; rfl) :
    PEd X c (.ListComp elt [⟨tg, iter, ifs, 0⟩] scope pos) (dLc di dg dt de (own.map (·.2))) :=
  let ⟨_, h1, l1⟩ := hi
  ⟨_, pe_lc hc hN h1 ok (fun s H C cl fp => (hg s H C cl fp).up) (fun s H C cl fp => (ht s H C cl fp).up) (fun s H C cl fp => (he s H C cl fp).up) hs, lk_lc l1 lk_upG (all_in_of hts) lk_upT lk_up⟩
/-! ### what a def promises -/
/-- an exception: its class, its fields -/
structure Ex where
  cls : Addr
  fs : List (Key × D)
abbrev DX := Ex → Nat → Prop
abbrev DSp := List Sl → Nat → DK → DX → Prop
inductive ArOk (c : Dc) (F H : Hp) : List V → List Sl → Prop
  | nil : ArOk c F H [] []
  | cons {v : V} {vs : List V} {s : Sl} {ss : List Sl} : SlOk c F H (some (some v)) s → (∀ xs, s ≠ .own xs) → ArOk c F H vs ss → ArOk c F H (v :: vs) (s :: ss)
theorem ArOk.length {F H : Hp} : ∀ {vs : List V} {ss : List Sl}, ArOk c F H vs ss → vs.length = ss.length
  | _, _, .nil => rfl
  | _, _, .cons _ _ t => by rw [List.length_cons, List.length_cons, t.length]
/-- at a call: the frozen part F of the caller, all else a base that stays -/
@[reducible] def atCall (K : PySem.W.Frag) (G : Gh) (F H : Hp) : Dc := ⟨K, G, F, off G H⟩
def spD (K : PySem.W.Frag) (ds : DSp) : Sp := fun vs H Q E => ∃ G F args b k kx, ArOk (atCall K G F H) F H vs args ∧ Sub F (off G H) ∧ gst K G F H b ∧ ds args b k kx ∧
  ∀ r b' v F' H', k r b' → Ext (atCall K G F H) F H F' H' → gst K G F' H' b' → Sub F' (off G H') → RtOk (atCall K G F H) F' H' v r → Q v H'
/-! ### a def is called -/
def toSl : Rs → Sl
  | .s d => .val d
  | .b ds => .bb ds
  | .p ds => .bb ds
  | .o ds => .val (.lst ds)
  | .g => .st
theorem AOk.ar {F H : Hp} {σ : L2.St} {A : List Sl} {b : Nat} (rr : R c F σ H A b) (no : ∀ ds, Rs.o ds ∉ ([] : List Rs)) : ∀ {vs : List V} {rs : List Rs}, AOk c F H σ A vs rs → (∀ ds, Rs.o ds ∉ rs) → ArOk (atCall c.K c.G F H) F H vs (rs.map toSl)
  | _, _, .nil, _ => .nil
  | _, .s d :: rs, .cons h t, n => .cons ⟨_, rfl, h⟩ (fun xs z => by cases z) (t.ar rr no fun ds z => n ds (List.mem_cons_of_mem _ z))
  | _, .b es :: rs, .cons h t, n => .cons (let ⟨p, vs, e, h1, q⟩ := h; ⟨p, vs, by rw [e], h1, q⟩) (fun xs z => by cases z) (t.ar rr no fun ds z => n ds (List.mem_cons_of_mem _ z))
  | _, .p es :: rs, .cons h t, n => .cons (let ⟨p, vs, e, h1, q⟩ := h; ⟨p, vs, by rw [e], rr.bsub _ _ h1, q⟩) (fun xs z => by cases z) (t.ar rr no fun ds z => n ds (List.mem_cons_of_mem _ z))
  | _, .o es :: rs, .cons h t, n => absurd (List.mem_cons_self) (n es)
  | _, .g :: rs, .cons h t, n => .cons (let ⟨d, k, e, h1⟩ := h; ⟨d, k, e, by rw [h1]⟩) (fun xs z => by cases z) (t.ar rr no fun ds z => n ds (List.mem_cons_of_mem _ z))
def noO : List Rs → Bool
  | [] => true
  | .o _ :: _ => false
  | _ :: rs => noO rs
theorem noO_of : ∀ {rs : List Rs}, noO rs = true → ∀ ds, Rs.o ds ∉ rs
  | [], _, ds, h => by cases h
  | .o _ :: _, h, _, _ => by cases h
  | .s _ :: rs, h, ds, z => by rcases List.mem_cons.mp z with z | z; cases z; exact noO_of (rs := rs) h ds z
  | .b _ :: rs, h, ds, z => by rcases List.mem_cons.mp z with z | z; cases z; exact noO_of (rs := rs) h ds z
  | .p _ :: rs, h, ds, z => by rcases List.mem_cons.mp z with z | z; cases z; exact noO_of (rs := rs) h ds z
  | .g :: rs, h, ds, z => by rcases List.mem_cons.mp z with z | z; cases z; exact noO_of (rs := rs) h ds z
def dCall (ds : DSp) (kx : DX) (da : DA) : DE := fun A b k => da A b fun rs b1 => noO rs = true ∧ ds (rs.map toSl) b1 k kx
theorem lk_call {ds : DSp} {kx : DX} {ta : TA} {da : DA} {E : XK} (la : LkA c ta da) : Lk c (tCall (spD c.K ds) [] E ta) (dCall ds kx da) := fun F σ H A b Q k rr h hk =>
  la F σ H A b _ _ rr h fun rs b1 vs F1 H1 ⟨no, h1⟩ r1 e1 a1 => by
    rw [List.append_nil]
    refine ⟨c.G, F1, rs.map toSl, b1, k, kx, a1.ar r1 (fun ds z => by cases z) (noO_of no), r1.sub, r1.st, h1, fun r b' v F' H' hk' ex gs sb ok => ?_⟩
    have ex' : Ext c F1 H1 F' H' := ⟨ex.f, ex.h, ex.n⟩
    have r2 := r1.ext ex' sb gs
    cases r with
    | s d => exact hk _ _ _ _ _ hk' ⟨r2, e1.trans ex', ok, fun _ _ z => by cases z⟩
    | o es =>
      obtain ⟨p, ws, rfl, z1, z2, z3, q⟩ := ok
      have z2' : off c.G H1 p = none := z2
      refine hk _ _ _ _ _ hk' ⟨r2, e1.trans ex', ⟨p, ws, rfl, z1, ?_, z3, q, fun i xs hi z => ?_⟩, fun _ _ _ z => by cases z; exact e1.none z2'⟩
      · cases y : c.B p with
        | none => rfl
        | some u => rw [r1.bsub p u y] at z2'; cases z2'
      · obtain ⟨p', vs', hx, _, _, h3, _⟩ := r1.sl i _ hi
        rw [hx] at z
        cases z
        rw [h3] at z2'
        cases z2'
    | b es => exact ok.elim
    | p es => exact ok.elim
    | g => exact ok.elim
theorem d_call {CX : CXT} {j : Nat} {f : Addr} {fd : FuncData} {ps : List Str} {ds : DSp} {kx : DX} {E : XK} {x : Str} {p pos : Pos} {e : Expr} {es : List Expr} {da : DA} (hK : c.K = X.K) (Fn : FnOk X.prog X.w X.K X.mg X.base CX j f fd ps (spD X.K ds)) (hr : Room j X.A) (hg : Gl X x) (hm : X.mg x = some (.ref f)) (hk : PySem.W.keepIn X.K (.ref f) = true) (hb : Binds X.K fd ps []) (hx : Passes CX X E)
    (ha : PAd X c (e :: es) da) (hdb : (x == ("__debug__" : Str)) = false := by decide) (he : starEach (e :: es) X.env = (false, eval e X.env) :: starEach es X.env := by rfl) (hpl : (backTo pos (starEach es X.env)).any (·.1) = false := by rfl) :
    PEd X c (.Call (.Name x p) (e :: es) [] pos) (dCall ds kx da) :=
  let ⟨_, h1, l1⟩ := ha
  ⟨_, pe_call Fn hr hg hm hk hb .nil hx h1 hdb he hpl, hK ▸ lk_call (E := E) l1⟩
/-! ### a def's own proof -/
def startS (n : Nat) (args : List Sl) : List Sl := args ++ List.replicate (n - args.length) .no
theorem ArOk.get {F H : Hp} : ∀ {vs : List V} {ss : List Sl} {i : Nat} {s : Sl}, ArOk c F H vs ss → ss[i]? = some s → ∃ v, vs[i]? = some v ∧ SlOk c F H (some (some v)) s ∧ ∀ xs, s ≠ .own xs
  | _, _, i, _, .nil, e => by simp at e
  | _, _, 0, _, .cons h n t, e => by
    rw [List.getElem?_cons_zero] at e ⊢
    cases e
    exact ⟨_, rfl, h, n⟩
  | _, _, i + 1, _, .cons h n t, e => by
    rw [List.getElem?_cons_succ] at e ⊢
    exact t.get e
theorem start_ok {K : PySem.W.Frag} {G : Gh} {F H : Hp} {b : Nat} {N : List Str} {vs : List V} {args : List Sl} (ha : ArOk (atCall K G F H) F H vs args) (sb : Sub F (off G H)) (gs : gst K G F H b) : R (atCall K G F H) F (start N vs) H (startS N.length args) b := by
  have key : ∀ (i : Nat) (s : Sl), (startS N.length args)[i]? = some s → SlOk (atCall K G F H) F H (start N vs)[i]? s ∧ ∀ xs, s ≠ .own xs := fun i s h => by
    unfold startS at h
    unfold L2.start
    rcases Nat.lt_or_ge i args.length with q | q
    · rw [List.getElem?_append_left q] at h
      obtain ⟨v, hv, ok, n⟩ := ha.get h
      rw [List.getElem?_append_left (by rw [List.length_map, ha.length]; exact q), List.getElem?_map, hv]
      exact ⟨ok, n⟩
    · rw [List.getElem?_append_right q] at h
      have : s = .no := by
        obtain ⟨_, e⟩ := List.getElem?_eq_some_iff.mp h
        rw [List.getElem_replicate] at e
        exact e.symm
      subst this
      exact ⟨trivial, fun xs z => by cases z⟩
  refine ⟨sb, fun _ _ h => h, fun _ _ h => h, fun _ _ h => .inl h, gs, fun i s h => (key i s h).1, fun i j p xs ys h1 => absurd rfl ((key i _ h1).2 xs), ?_⟩
  unfold L2.start startS
  rw [List.length_append, List.length_append, List.length_map, List.length_replicate, List.length_replicate, ha.length]
theorem fnD {P : Program} {w : World} {K : PySem.W.Frag} {mg : Str → Option Value} {base : Heap} {x qual : Str} {st : Stmt} {f : Addr} {fd : FuncData} {N ps : List Str} {k : Nat} {ds : DSp} (Fn : Fun K x qual st f fd) (S : FnScope N ps (defScope st)) (len : ∀ args b k kx, ds args b k kx → args.length = ps.length)
    (hbody : ∀ (cdv : Value) (A : Around) (outer : List Env) (s : Shared) (H : Hp) (E : XK) (c : Dc), c.K = K → Room k (A.deeper (PyProof.Rows.envOfC qual (defScope st) s.heap.objs.size f cdv)) →
      ∃ dS, PSsd (cxOf CX0 P w K mg base N qual (defScope st) f cdv A outer s H E).nox c (defBody st) dS ∧ ∀ args b k kx, ds args b k kx → dS { nx := fun _ b' => k (.s .non) b', rt := k } (startS N.length args) b) : FnOk P w K mg base CX0 (k + 1) f fd ps (spD K ds) := by
  refine Fn.ok S (fun vs H Q E h => ?_) fun cdv A outer s H vs Q E hr h => ?_
  · obtain ⟨G, F, args, b, k, kx, ha, _, _, hd, _⟩ := h
    rw [ha.length]
    exact len _ _ _ _ hd
  · obtain ⟨G, F, args, b, k, kx, ha, sb, gs, hd, hq⟩ := h
    obtain ⟨dS, ⟨t, h1, l1⟩, h2⟩ := hbody cdv A outer s H E (atCall K G F H) rfl hr
    refine ⟨t, h1, l1 F _ H _ b _ { nx := fun _ b' => k (.s .non) b', rt := k } (start_ok ha sb gs) ⟨?_, ?_, fun _ _ _ _ _ _ _ z => z.elim, fun _ _ _ _ _ _ _ z => z.elim⟩ (h2 args b k kx hd)⟩
    · exact fun F' σ' H' A' b' m r' hk => hq _ _ _ _ _ hk ⟨m, r'.bsub, r'.n0⟩ r'.st r'.sub Rp.non
    · exact fun F' σ' H' A' b' v r m r' ok hk => hq _ _ _ _ _ hk ⟨m, r'.bsub, r'.n0⟩ r'.st r'.sub ok
end
end Dd

namespace Dd
open PySem L2 Pk
/-! ### from promises over the heap -/
section
variable {K : PySem.W.Frag} {G : Gh} {F H H' : Hp} {b : Nat}
theorem off_same (gs : gst K G F H b) (s : Same H H') : Sub (off G H) (off G H') := fun a o h => off_of h (s a o (off_sub h))
theorem gst_same (gs : gst K G F H b) (s : Same H H') : gst K G F H' b := gst_of gs s
/-- a flat value, the heap grown -/
theorem end_flat {k : DK} {Q : VK} {r : D} {v : V} (sb : Sub F (off G H)) (gs : gst K G F H b)
    (hq : ∀ r b' v F' H', k r b' → Ext (atCall K G F H) F H F' H' → gst K G F' H' b' → Sub F' (off G H') → RtOk (atCall K G F H) F' H' v r → Q v H') (hk : k (.s r) b) (s : Same H H') (rv : Rp K F v r) : Q v H' :=
  hq _ _ v F H' hk ⟨fun _ _ z => z, off_same gs s, fun _ _ z => .inl z⟩ (gst_same gs s) (fun a o z => off_same gs s a o (sb a o z)) rv
theorem ArOk.nilI {c : Dc} {vs : List V} (h : ArOk c F H vs []) : vs = [] := by cases h; rfl
theorem ArOk.consI {c : Dc} {vs : List V} {s : Sl} {ss : List Sl} (h : ArOk c F H vs (s :: ss)) : ∃ v ws, vs = v :: ws ∧ SlOk c F H (some (some v)) s ∧ ArOk c F H ws ss := by
  cases h with
  | cons h _ t => exact ⟨_, _, rfl, h, t⟩
theorem val_int {c : Dc} {v : V} {i : Int} (h : SlOk c F H (some (some v)) (.val (.int i))) : v = .int i := by
  obtain ⟨w, e, r⟩ := h; cases e; cases r; rfl
theorem val_rp {c : Dc} {v : V} {d : D} (h : SlOk c F H (some (some v)) (.val d)) : Rp c.K F v d := by
  obtain ⟨w, e, r⟩ := h; cases e; exact r
theorem st_ref {c : Dc} {v : V} (h : SlOk c F H (some (some v)) .st) : ∃ d k, c.G.dc = some (d, k) ∧ v = .ref d := by
  obtain ⟨d, k, e, r⟩ := h; cases r; exact ⟨d, k, e, rfl⟩
theorem bb_ref {c : Dc} {v : V} {ds : List D} (h : SlOk c F H (some (some v)) (.bb ds)) : ∃ p vs, v = .ref p ∧ c.B p = some (.lst vs) ∧ RpA c.K F vs ds := by
  obtain ⟨p, vs, e, h1, q⟩ := h; cases e; exact ⟨p, vs, rfl, h1, q⟩
/-- a drawing def over the heap -/
theorem end_draw {gw : World} {k : DK} {Q : VK} {r : D} {v : V} {d c : Addr} {b' : Nat} (hb' : b' < MB) (sb : Sub F (off ⟨some (d, c), gw⟩ H))
    (hq : ∀ r b' v F' H', k r b' → Ext (atCall K ⟨some (d, c), gw⟩ F H) F H F' H' → gst K ⟨some (d, c), gw⟩ F' H' b' → Sub F' (off ⟨some (d, c), gw⟩ H') → RtOk (atCall K ⟨some (d, c), gw⟩ F H) F' H' v r → Q v H') (hk : k (.s r) b') (st : StA H' d c b') (fr : Fr d c H H') (rv : Rp K F v r) : Q v H' := by
  have o : Sub (off ⟨some (d, c), gw⟩ H) (off ⟨some (d, c), gw⟩ H') := fun a o h => off_of h (fr a o (off_sub h) (off_dc h rfl).1 (off_dc h rfl).2)
  exact hq _ _ v F H' hk ⟨fun _ _ z => z, o, fun _ _ z => .inl z⟩ (gst_small st hb') (fun a u z => o a u (sb a u z)) rv
end
/-! ### the draws -/
def dsTake : DSp := fun args b k _ => ∃ m, args = [.st, .val (.int m)] ∧ 0 < m ∧ m < 18446744073709551616 ∧ b < 100000000 ∧ ∀ r : Int, 0 ≤ r → r < m → k (.s (.int r)) (b + 1)
theorem br_take {K : PySem.W.Frag} {vs : List V} {H : Hp} {Q : VK} {E : XK} (h : spD K dsTake vs H Q E) : spTake vs H Q E := by
  obtain ⟨G, F, args, b, k, kx, ha, sb, gs, ⟨m, rfl, m0, m1, hb, hk⟩, hq⟩ := h
  obtain ⟨v, ws, rfl, h1, ha⟩ := ha.consI
  obtain ⟨v2, ws, rfl, h2, ha⟩ := ha.consI
  cases ha.nilI
  obtain ⟨d, c, e, rfl⟩ := st_ref h1
  cases val_int h2
  obtain ⟨dc, gw⟩ := G
  have e' : dc = some (d, c) := e
  subst e'
  exact ⟨d, c, b, m, rfl, gs.draws, m0, m1, hb, fun r H' r0 r1 st fr => end_draw (by unfold MB; omega) sb hq (hk r r0 r1) st fr (.int r)⟩
/-! ### what is the same: data without bools -/
def sam : Nat → D → Prop
  | 0, _ => False
  | _ + 1, .non => True
  | _ + 1, .int _ => True
  | _ + 1, .str _ => True
  | n + 1, .lst xs => xs.length < 100000 ∧ ∀ x ∈ xs, sam n x
  | n + 1, .tup xs => xs.length < 100000 ∧ ∀ x ∈ xs, sam n x
  | _ + 1, _ => False
theorem sam_eq {K : PySem.W.Frag} {H : Hp} : ∀ {n : Nat} {d : D} {v w : V}, sam n d → Rp K H v d → Rp K H w d → EqA n H v w := by
  intro n
  induction n with
  | zero => intro d v w h; exact h.elim
  | succ n ih =>
    have all : ∀ {xs : List D} {vs ws : List V}, (∀ x ∈ xs, sam n x) → RpA K H vs xs → RpA K H ws xs → ∀ (i : Nat) (x y : V), vs[i]? = some x → ws[i]? = some y → EqA n H x y := fun {xs vs ws} hx q q' i x y e1 e2 => by
      obtain ⟨d, hd, r⟩ := q.getV e1
      obtain ⟨d', hd', r'⟩ := q'.getV e2
      rw [hd] at hd'
      cases hd'
      exact ih (hx d (List.mem_of_getElem? hd)) r r'
    intro d v w h rv rw'
    cases d with
    | non => cases rv; cases rw'; exact .n
    | int i => cases rv; cases rw'; exact .i
    | str x => cases rv; cases rw'; exact .s
    | bl b => exact h.elim
    | fn a => exact h.elim
    | dk k => exact h.elim
    | dl k => exact h.elim
    | er _ _ => exact h.elim
    | ob _ _ => exact h.elim
    | om _ _ => exact h.elim
    | se _ => exact h.elim
    | lst xs =>
      cases rv with
      | lst h1 q1 =>
        cases rw' with
        | lst h2 q2 => exact .inr (.inr (.inr ⟨_, _, _, _, rfl, rfl, .inl ⟨h1, h2⟩, by rw [q1.length, q2.length], by rw [q1.length]; exact h.1, all h.2 q1 q2⟩))
    | tup xs =>
      cases rv with
      | tup h1 q1 =>
        cases rw' with
        | tup h2 q2 => exact .inr (.inr (.inr ⟨_, _, _, _, rfl, rfl, .inr ⟨h1, h2⟩, by rw [q1.length, q2.length], by rw [q1.length]; exact h.1, all h.2 q1 q2⟩))
def slD : Sl → Option D
  | .val d => some d
  | .bb ds => some (.lst ds)
  | _ => none
theorem slD_rp {c : Dc} {F H : Hp} {v : V} {s : Sl} {d : D} (sb : Sub F (off c.G H)) (hB : c.B = off c.G H) (h : SlOk c F H (some (some v)) s) (e : slD s = some d) : Rp c.K H v d := by
  have m : Sub F H := fun a o z => off_sub (sb a o z)
  cases s with
  | val d' => cases e; exact (val_rp h).mono m
  | bb ds => cases e; obtain ⟨p, vs, rfl, h1, q⟩ := bb_ref h; rw [hB] at h1; exact .lst (off_sub h1) (q.mono m)
  | _ => cases e
/-- the law's own comparison, asked of like data -/
def dsSame (n : Nat) : DSp := fun args b k _ => ∃ x y d, args = [x, y] ∧ slD x = some d ∧ slD y = some d ∧ sam n d ∧ k (.s (.bl true)) b
theorem br_same {n : Nat} {K : PySem.W.Frag} {vs : List V} {H : Hp} {Q : VK} {E : XK} (h : spD K (dsSame n) vs H Q E) : spSame n vs H Q E := by
  obtain ⟨G, F, args, b, k, kx, ha, sb, gs, ⟨x, y, d, rfl, ex, ey, hs, hk⟩, hq⟩ := h
  obtain ⟨v, ws, rfl, h1, ha⟩ := ha.consI
  obtain ⟨v2, ws, rfl, h2, ha⟩ := ha.consI
  cases ha.nilI
  exact ⟨v, v2, rfl, sam_eq hs (slD_rp sb rfl h1 ex) (slD_rp sb rfl h2 ey), fun H' s => end_flat sb gs hq hk s (.bl true)⟩
/-! ### isinstance with a built-in class -/
def isiD (T : String) : D → Option Bool
  | .non => some false
  | .bl _ => some (T == "bool" || T == "int")
  | .int _ => some (T == "int")
  | .str _ => some (T == "str")
  | .lst _ => some (T == "list")
  | .tup _ => some (T == "tuple")
  | .dk _ => some (T == "dict")
  | _ => none
section
variable {X : Cx} {c : Dc}
def dIsi (T : String) (de : DE) : DE := fun A b k => de A b fun r b1 => r ≠ .g ∧ ∃ t, isiD T r.d = some t ∧ k (.s (.bl t)) b1
/-! ### texts: join -/
def dJoin (da db : DE) : DE := fun A b k => da A b fun x b1 => ∃ a, x = .s (.str a) ∧ db A b1 fun y b2 => ∃ ys, y.d = .lst (ys.map D.str) ∧ (ys.map (·.length)).sum + ys.length * a.length ≤ 16777216 ∧ k (.s (.str (Txt.join a ys))) b2
/-! ### comparisons, built-in calls, by what serves them -/
inductive CmpOk (X : Cx) (c : Dc) (op : CmpOp) (f : D2) : Prop
  | mk (r : R2) (h : OpR X (compareOp op) r) (l : Ln c r f)
theorem d_cmpK {a e : Expr} {op : CmpOp} {pos : Pos} {f : D2} {da db : DE} (h : CmpOk X c op f) (ha : PEd X c a da) (hb : PEd X c e db) (hm : behindInMarks op e = false) : PEd X c (.Compare a [op] [e] pos) (dOp f da db) := let ⟨_, h1, l1⟩ := h; d_cmp h1 l1 ha hb hm
theorem t_cmpK {a e : Expr} {op : CmpOp} {pos : Pos} {f : D2} {da db : DE} (h : CmpOk X c op f) (ha : PEd X c a da) (hb : PEd X c e db) (hm : behindInMarks op e = false) : PTd X c (.Compare a [op] [e] pos) (dTest (dOp f da db)) := let ⟨_, h1, l1⟩ := h; t_cmp h1 l1 ha hb hm
theorem c_gt : CmpOk X c .Gt aGt := ⟨_, o_gt, ln_O⟩
theorem c_is : CmpOk X c .Is (fIs false) := ⟨_, op_isN, ln_is⟩
/-- == of flat ones by themselves, else over data -/
def fEqF (neg : Bool) : D2 := fun x y k => match x, y with
  | .s a, .s e => scal (toV a) (toV e) = true ∧ k (.s (.bl (if neg then !decide (toV a = toV e) else decide (toV a = toV e))))
  | _, _ => False
def fEqA (neg : Bool) : D2 := fun x y k => if (flt x.d && flt y.d) = true then fEqF neg x y k else fEq neg x y k
theorem ln_eqA : Ln c (fun x y H Q => rEq x y H Q ∨ rEqD c.K x y H Q) (fEqA false) := by
  intro F σ H A b x y rx ry Q k rr hx hy hf hk
  unfold fEqA at hf
  by_cases e : (flt rx.d && flt ry.d) = true
  · rw [if_pos e] at hf
    rw [Bool.and_eq_true] at e
    unfold fEqF at hf
    split at hf
    · rename_i a e'
      have h1 := flt_v (show Rp c.K F x a from hx) e.1
      have h2 := flt_v (show Rp c.K F y e' from hy) e.2
      rw [h1.1, h2.1]
      exact .inl ⟨hf.1, hk _ _ _ _ hf.2 (.still rr (.bl _))⟩
    · exact hf.elim
  · rw [if_neg e] at hf
    exact .inr (ln_eq F σ H A b x y rx ry Q k rr hx hy hf hk)
theorem ln_neA : Ln c (fun x y H Q => rNe x y H Q ∨ rNeD c.K x y H Q) (fEqA true) := by
  intro F σ H A b x y rx ry Q k rr hx hy hf hk
  unfold fEqA at hf
  by_cases e : (flt rx.d && flt ry.d) = true
  · rw [if_pos e] at hf
    rw [Bool.and_eq_true] at e
    unfold fEqF at hf
    split at hf
    · rename_i a e'
      have h1 := flt_v (show Rp c.K F x a from hx) e.1
      have h2 := flt_v (show Rp c.K F y e' from hy) e.2
      rw [h1.1, h2.1]
      exact .inl ⟨hf.1, hk _ _ _ _ hf.2 (.still rr (.bl _))⟩
    · exact hf.elim
  · rw [if_neg e] at hf
    exact .inr (ln_ne F σ H A b x y rx ry Q k rr hx hy hf hk)
theorem c_eq (hK : c.K = X.K) (hu : X.A.units + 64 < cLine) : CmpOk X c .Eq (fEqA false) := ⟨fun x y H Q => rEq x y H Q ∨ rEqD c.K x y H Q, op_eq.or (hK ▸ op_eqD hu), ln_eqA⟩
theorem c_ne (hK : c.K = X.K) (hu : X.A.units + 64 < cLine) : CmpOk X c .NotEq (fEqA true) := ⟨fun x y H Q => rNe x y H Q ∨ rNeD c.K x y H Q, op_ne.or (hK ▸ op_neD hu), ln_neA⟩
inductive CbOk (X : Cx) (c : Dc) (id : Value) (f : DC) : Prop
  | mk (r : List V → Hp → VK → Prop) (h : CallR X id r) (l : Lc c r f)
theorem d_cbK {f : DC} {id : String} {x : Str} {e : Expr} {es : List Expr} {p pos : Pos} {da : DA} (h : CbOk X c (.builtin id) f) (hg : Gl X x) (hm : X.mg x = none) (hv : bootBuiltins x = some (.builtin id)) (ha : PAd X c (e :: es) da)
    (hn : x ≠ "__name__" := by decide) (hdb : (x == ("__debug__" : Str)) = false := by decide)
    (he : starEach (e :: es) X.env = (false, eval e X.env) :: starEach es X.env := by rfl) (hpl : (backTo pos (starEach es X.env)).any (·.1) = false := by rfl) : PEd X c (.Call (.Name x p) (e :: es) [] pos) (dCB f da) := let ⟨_, h1, l1⟩ := h; d_cb h1 l1 hg hm hv ha hn hdb he hpl
theorem d_ctK {f : DC} {T : String} {x : Str} {e : Expr} {es : List Expr} {p pos : Pos} {da : DA} (h : CbOk X c (.type T) f) (hg : Gl X x) (hm : X.mg x = none) (hv : bootBuiltins x = some (.type T)) (ha : PAd X c (e :: es) da)
    (hn : x ≠ "__name__" := by decide) (hdb : (x == ("__debug__" : Str)) = false := by decide)
    (he : starEach (e :: es) X.env = (false, eval e X.env) :: starEach es X.env := by rfl) (hpl : (backTo pos (starEach es X.env)).any (·.1) = false := by rfl) : PEd X c (.Call (.Name x p) (e :: es) [] pos) (dCB f da) := let ⟨_, h1, l1⟩ := h; d_cty h1 l1 hg hm hv ha hn hdb he hpl
theorem k_len (hK : c.K = X.K) : CbOk X c (.builtin "len") fLen := ⟨_, call_len, hK ▸ lc_len⟩
theorem k_int : CbOk X c (.type "int") fInt1 := ⟨_, call_int1, lc_int1⟩
theorem k_max2 (hc : X.calm = true) : CbOk X c (.builtin "max") (fI2 fun i j => .int (if j > i then j else i)) := ⟨_, call_max2 hc, lc_max2⟩
theorem k_all (hc : X.calm = true) (hK : c.K = X.K) : CbOk X c (.builtin "all") (fBls fun bs => bs.all id) := ⟨_, cr_all hc, hK ▸ lc_all⟩
/-! ### a law: its first row makes the draws -/
theorem law_start {gw : World} {K : PySem.W.Frag} {d k : Addr} {H : Hp} {n : Nat} {σ : L2.St} (st : StA H d k 0) (hσ : σ[1]? = some (some (.ref d))) (hl : σ.length = n + 2) : R ⟨K, ⟨some (d, k), gw⟩, fun _ => none, off ⟨some (d, k), gw⟩ H⟩ (fun _ => none) σ H (.no :: .st :: List.replicate n .no) 0 where
  sub := fun _ _ h => by cases h
  bsub := fun _ _ h => h
  f0 := fun _ _ h => h
  n0 := fun _ _ h => by cases h
  st := gst_small st (by decide)
  sl := fun i s h => by
    match i with
    | 0 => cases h; trivial
    | 1 => cases h; exact ⟨d, k, rfl, hσ⟩
    | i + 2 =>
      rw [List.getElem?_cons_succ, List.getElem?_cons_succ] at h
      have : s = .no := by
        obtain ⟨_, e⟩ := List.getElem?_eq_some_iff.mp h
        rw [List.getElem_replicate] at e
        exact e.symm
      subst this
      trivial
  ds := fun i j p xs ys h1 => by
    exfalso
    match i with
    | 0 => cases h1
    | 1 => cases h1
    | i + 2 =>
      rw [List.getElem?_cons_succ, List.getElem?_cons_succ] at h1
      obtain ⟨_, e⟩ := List.getElem?_eq_some_iff.mp h1
      rw [List.getElem_replicate] at e
      cases e
  len := by rw [hl]; simp
def upS (K : PySem.W.Frag) (dS : DS) : TS := fun D σ H => ∃ (c : Dc) (F : Hp) (A : List Sl) (b : Nat) (E : DEnds), c.K = K ∧ R c F σ H A b ∧ EOk c F D E ∧ dS E A b
theorem pss_upS {X : Cx} {K : PySem.W.Frag} {st : List Stmt} {dS : DS} (h : ∀ c : Dc, c.K = K → PSsd X c st dS) : PSs X st (upS K dS) := by
  rintro pins s σ H D I ⟨c, F, A, b, E, hc, rr, eo, hd⟩
  obtain ⟨t, h1, l1⟩ := h c hc
  exact h1 pins s σ H D I (l1 F σ H A b D E rr eo hd)
def spLawD (K : PySem.W.Frag) : Sp := fun vs H Q _ => ∃ (a : Addr) (ns : List Int), vs = [.ref a] ∧ SqL K H a (ns.map V.int) ∧ ∀ H', Q (.bl true) H'
theorem lawD {P : Program} {w : World} {K : PySem.W.Frag} {mg : Str → Option Value} {base : Heap} {x qual : Str} {st : Stmt} {f : Addr} {fd : FuncData} {N : List Str} {y : Str} {k n : Nat} {s1 : Stmt} {rest : List Stmt} (Fn : Fun K x qual st f fd) (S : FnScope N [y] (defScope st)) (hN : N.length = n + 2) (hb : defBody st = s1 :: rest)
    (hbody : ∀ (cdv : Value) (A : Around) (outer : List Env) (s : Shared) (H : Hp) (E : XK), Room k (A.deeper (PyProof.Rows.envOfC qual (defScope st) s.heap.objs.size f cdv)) →
      PS (cxOf CX0 P w K mg base N qual (defScope st) f cdv A outer s H E).nox s1 (tAsg (tCall (spBegin K) [] E0 (tCons (tVar 0) tNil)) (gName 1)) ∧
      ∃ dS, (∀ c : Dc, c.K = K → PSsd (cxOf CX0 P w K mg base N qual (defScope st) f cdv A outer s H E).nox c rest dS) ∧ dS { nx := fun _ _ => False, rt := fun r _ => r = .s (.bl true) } (.no :: .st :: List.replicate n .no) 0) : FnOk P w K mg base CX0 (k + 1) f fd [y] (spLawD K) := by
  refine Fn.ok S (fun vs H Q E h => ?_) fun cdv A outer s H vs Q E hr h => ?_
  · obtain ⟨a, ns, rfl, _⟩ := h
    rfl
  · obtain ⟨a, ns, rfl, hq, hk⟩ := h
    obtain ⟨h1, dS, h2, hd⟩ := hbody cdv A outer s H E hr
    rw [hb]
    refine ⟨_, pss_cons h1 (pss_upS h2), _, by unfold L2.start; rfl, a, ns, rfl, hq, fun d c H' sm hd1 hc1 sta => ?_⟩
    refine ⟨⟨K, ⟨some (d, c), w⟩, fun _ => none, off ⟨some (d, c), w⟩ H'⟩, fun _ => none, _, 0, { nx := fun _ _ => False, rt := fun r _ => r = .s (.bl true) }, rfl, law_start (n := n) sta ?_ ?_, ⟨fun _ _ _ _ _ _ _ z => z.elim, fun F' σ' H2 A' b' v r m r' ok e => ?_, fun _ _ _ _ _ _ _ z => z.elim, fun _ _ _ _ _ _ _ z => z.elim⟩, hd⟩
    · rw [List.getElem?_set_self]
      unfold L2.start
      simp
      omega
    · unfold L2.start
      simp
      omega
    · subst e
      have ok' : Rp K F' v (.bl true) := ok
      cases ok'
      exact hk H2
end
end Dd

namespace Dd
open PySem L2 Pk
theorem g12 {α : Type} {a0 a1 a2 a3 a4 a5 a6 a7 a8 a9 a10 a11 a12 : α} {l : List α} : (a0 :: a1 :: a2 :: a3 :: a4 :: a5 :: a6 :: a7 :: a8 :: a9 :: a10 :: a11 :: a12 :: l)[12]? = some a12 := rfl
theorem s12 {α : Type} {a0 a1 a2 a3 a4 a5 a6 a7 a8 a9 a10 a11 a12 x : α} {l : List α} : (a0 :: a1 :: a2 :: a3 :: a4 :: a5 :: a6 :: a7 :: a8 :: a9 :: a10 :: a11 :: a12 :: l).set 12 x = a0 :: a1 :: a2 :: a3 :: a4 :: a5 :: a6 :: a7 :: a8 :: a9 :: a10 :: a11 :: x :: l := rfl
theorem g13 {α : Type} {a0 a1 a2 a3 a4 a5 a6 a7 a8 a9 a10 a11 a12 a13 : α} {l : List α} : (a0 :: a1 :: a2 :: a3 :: a4 :: a5 :: a6 :: a7 :: a8 :: a9 :: a10 :: a11 :: a12 :: a13 :: l)[13]? = some a13 := rfl
theorem s13 {α : Type} {a0 a1 a2 a3 a4 a5 a6 a7 a8 a9 a10 a11 a12 a13 x : α} {l : List α} : (a0 :: a1 :: a2 :: a3 :: a4 :: a5 :: a6 :: a7 :: a8 :: a9 :: a10 :: a11 :: a12 :: a13 :: l).set 13 x = a0 :: a1 :: a2 :: a3 :: a4 :: a5 :: a6 :: a7 :: a8 :: a9 :: a10 :: a11 :: a12 :: x :: l := rfl
theorem g14 {α : Type} {a0 a1 a2 a3 a4 a5 a6 a7 a8 a9 a10 a11 a12 a13 a14 : α} {l : List α} : (a0 :: a1 :: a2 :: a3 :: a4 :: a5 :: a6 :: a7 :: a8 :: a9 :: a10 :: a11 :: a12 :: a13 :: a14 :: l)[14]? = some a14 := rfl
theorem s14 {α : Type} {a0 a1 a2 a3 a4 a5 a6 a7 a8 a9 a10 a11 a12 a13 a14 x : α} {l : List α} : (a0 :: a1 :: a2 :: a3 :: a4 :: a5 :: a6 :: a7 :: a8 :: a9 :: a10 :: a11 :: a12 :: a13 :: a14 :: l).set 14 x = a0 :: a1 :: a2 :: a3 :: a4 :: a5 :: a6 :: a7 :: a8 :: a9 :: a10 :: a11 :: a12 :: a13 :: x :: l := rfl
theorem g15 {α : Type} {a0 a1 a2 a3 a4 a5 a6 a7 a8 a9 a10 a11 a12 a13 a14 a15 : α} {l : List α} : (a0 :: a1 :: a2 :: a3 :: a4 :: a5 :: a6 :: a7 :: a8 :: a9 :: a10 :: a11 :: a12 :: a13 :: a14 :: a15 :: l)[15]? = some a15 := rfl
theorem s15 {α : Type} {a0 a1 a2 a3 a4 a5 a6 a7 a8 a9 a10 a11 a12 a13 a14 a15 x : α} {l : List α} : (a0 :: a1 :: a2 :: a3 :: a4 :: a5 :: a6 :: a7 :: a8 :: a9 :: a10 :: a11 :: a12 :: a13 :: a14 :: a15 :: l).set 15 x = a0 :: a1 :: a2 :: a3 :: a4 :: a5 :: a6 :: a7 :: a8 :: a9 :: a10 :: a11 :: a12 :: a13 :: a14 :: x :: l := rfl
theorem g16 {α : Type} {a0 a1 a2 a3 a4 a5 a6 a7 a8 a9 a10 a11 a12 a13 a14 a15 a16 : α} {l : List α} : (a0 :: a1 :: a2 :: a3 :: a4 :: a5 :: a6 :: a7 :: a8 :: a9 :: a10 :: a11 :: a12 :: a13 :: a14 :: a15 :: a16 :: l)[16]? = some a16 := rfl
theorem s16 {α : Type} {a0 a1 a2 a3 a4 a5 a6 a7 a8 a9 a10 a11 a12 a13 a14 a15 a16 x : α} {l : List α} : (a0 :: a1 :: a2 :: a3 :: a4 :: a5 :: a6 :: a7 :: a8 :: a9 :: a10 :: a11 :: a12 :: a13 :: a14 :: a15 :: a16 :: l).set 16 x = a0 :: a1 :: a2 :: a3 :: a4 :: a5 :: a6 :: a7 :: a8 :: a9 :: a10 :: a11 :: a12 :: a13 :: a14 :: a15 :: x :: l := rfl
/-! ### readings, applied -/
/-! what follows, as closures that are opened only when a value has come -/
def kOp3 (k : DK) (b : Nat) : Rs → Prop := fun z => k z b
def kOp2 (f : D2) (x : Rs) (k : DK) : DK := fun y b => f x y (kOp3 k b)
def kOp1 (f : D2) (db : DE) (A : List Sl) (k : DK) : DK := fun x b => db A b (kOp2 f x k)
abbrev BK := Bool → Nat → Prop
def kTest (k : BK) : DK := fun r b => match r with | .s (.bl t) => k t b | _ => False
def kNotT (k : BK) : BK := fun t b => k (!t) b
def kAndT (du : DT) (A : List Sl) (k : BK) : BK := fun t b => if t = true then du A b k else k false b
def kOrT (du : DT) (A : List Sl) (k : BK) : BK := fun t b => if t = true then k true b else du A b k
def kTru (k : BK) : DK := fun r b => r ≠ .g ∧ ∃ t, tru r.d = some t ∧ k t b
def kNot (k : DK) : DK := fun r b => match r with | .s (.bl t) => k (.s (.bl (!t))) b | _ => False
def kAnd (db : DE) (A : List Sl) (k : DK) : DK := fun r b => match r with | .s (.bl t) => if t = true then db A b k else k (.s (.bl false)) b | _ => False
def kOr (db : DE) (A : List Sl) (k : DK) : DK := fun r b => match r with | .s (.bl t) => if t = true then k (.s (.bl true)) b else db A b k | _ => False
def kIf (da db : DE) (A : List Sl) (k : DK) : BK := fun t b => if t = true then da A b k else db A b k
def kNeg (k : DK) : DK := fun r b => match r with | .s (.int i) => k (.s (.int (-i))) b | _ => False
def kCh4 (k : DK) (g : D2) (y : Rs) : DK := fun w b => g y w (kOp3 k b)
def kCh3 (k : DK) (g : D2) (y : Rs) (dc : DE) (A : List Sl) (b : Nat) : Rs → Prop := fun z => match z with | .s (.bl t) => if t = true then dc A b (kCh4 k g y) else k (.s (.bl false)) b | _ => False
def kCh2 (f g : D2) (x : Rs) (dc : DE) (A : List Sl) (k : DK) : DK := fun y b => f x y (kCh3 k g y dc A b)
def kCh1 (f g : D2) (db dc : DE) (A : List Sl) (k : DK) : DK := fun x b => db A b (kCh2 f g x dc A k)
abbrev AK := List Rs → Nat → Prop
def kCons2 (r : Rs) (k : AK) : AK := fun rs b => k (r.fz :: rs) b
def kCons1 (as : DA) (A : List Sl) (k : AK) : DK := fun r b => as A b (kCons2 r k)
def kLst (k : DK) : AK := fun rs b => ∃ ds, kps rs = some ds ∧ rs.length ≤ sizeLine ∧ k (.o ds) b
def kTup (k : DK) : AK := fun rs b => ∃ ds, kps rs = some ds ∧ rs.length ≤ sizeLine ∧ k (.s (.tup ds)) b
abbrev OK := Option Int → Nat → Prop
def kP (k : OK) : DK := fun r b => match r with | .s (.int i) => k (some i) b | _ => False
def kSl3 (x : Rs) (lo : Option Int) (k : DK) : OK := fun hi b => fSl x lo hi (kOp3 k b)
def kSl2 (x : Rs) (dh : DOp) (A : List Sl) (k : DK) : OK := fun lo b => dh A b (kSl3 x lo k)
def kSl1 (dl dh : DOp) (A : List Sl) (k : DK) : DK := fun x b => dl A b (kSl2 x dh A k)
def kCB (f : DC) (k : DK) : AK := fun rs b => f rs (kOp3 k b)
def kIsi (T : String) (k : DK) : DK := fun r b => r ≠ .g ∧ ∃ t, isiD T r.d = some t ∧ k (.s (.bl t)) b
def kJ2 (a : Str) (k : DK) : DK := fun y b => ∃ ys, y.d = .lst (ys.map D.str) ∧ (ys.map (·.length)).sum + ys.length * a.length ≤ 16777216 ∧ k (.s (.str (Txt.join a ys))) b
def kJ1 (db : DE) (A : List Sl) (k : DK) : DK := fun x b => ∃ a, x = .s (.str a) ∧ db A b (kJ2 a k)
abbrev IK := List D → Nat → Prop
def kIt (f : Rs → Option (List D)) (k : IK) : DK := fun r b => ∃ ds, f r = some ds ∧ k ds b
def kR1 (k : IK) : AK := fun rs b => ∃ j : Int, rs = [.s (.int j)] ∧ -(2 ^ 62) ≤ j ∧ j < 2 ^ 62 ∧ k (upto 0 j.toNat) b
def kR2 (k : IK) : AK := fun rs b => ∃ i j : Int, rs = [.s (.int i), .s (.int j)] ∧ (-(2 ^ 62) ≤ i ∧ i < 2 ^ 62 ∧ -(2 ^ 62) ≤ j ∧ j < 2 ^ 62) ∧ k (upto i (j - i).toNat) b
def kZip (f : Rs → Option (List D)) (k : IK) : AK := fun rs b => ∃ r s xs ys, rs = [r, s] ∧ f r = some xs ∧ f s = some ys ∧ k (zipped xs ys) b
def kEnum (f : Rs → Option (List D)) (k : IK) : AK := fun rs b => ∃ r xs, rs = [r] ∧ f r = some xs ∧ k (numbered xs) b
def kRev (f : Rs → Option (List D)) (k : IK) : AK := fun rs b => ∃ r xs, rs = [r] ∧ f r = some xs ∧ k xs.reverse b
abbrev GK := List Sl → Prop
def kG (dr : DGs) (xs : List D) (k : GK) : GK := fun A' => dr xs A' k
def kRet (E : DEnds) : DK := fun r b => r.kp ∧ E.rt r b
def kNx (E : DEnds) (b : Nat) : GK := fun A' => E.nx A' b
def kSet (i : Nat) (A : List Sl) (E : DEnds) : DK := fun r b => putR i A r (kNx E b)
def kAsg (dg : DG) (A : List Sl) (E : DEnds) : DK := fun r b => r.kp ∧ dg r.d A (kNx E b)
def kAug3 (i : Nat) (A : List Sl) (E : DEnds) (b : Nat) : Rs → Prop := fun z => putR i A z (kNx E b)
def kAug2 (i : Nat) (f : D2) (x : Rs) (A : List Sl) (E : DEnds) : DK := fun y b => f x y (kAug3 i A E b)
def kAug1 (i : Nat) (de : DE) (f : D2) (A : List Sl) (E : DEnds) : DK := fun x b => de A b (kAug2 i f x A E)
def kApp2 (j : Nat) (ds : List D) (E : DEnds) (A : List Sl) : DK := fun r b => r.kp ∧ ds.length < sizeLine ∧ E.nx (A.set j (.own (ds ++ [r.d]))) b
def kApp (j : Nat) (de : DE) (E : DEnds) (A : List Sl) (b : Nat) : List D → Prop := fun ds => de A b (kApp2 j ds E A)
def kExt2 (j : Nat) (ds : List D) (E : DEnds) (A : List Sl) : DK := fun r b => ∃ es, r.d = .lst es ∧ ds.length + es.length ≤ sizeLine ∧ E.nx (A.set j (.own (ds ++ es))) b
def kExt (j : Nat) (de : DE) (E : DEnds) (A : List Sl) (b : Nat) : List D → Prop := fun ds => de A b (kExt2 j ds E A)
def kSx3 (j : Nat) (ds : List D) (d : D) (E : DEnds) (A : List Sl) : DK := fun i b => ∃ n m, i = .s (.int n) ∧ ixN ds.length n = some m ∧ E.nx (A.set j (.own (ds.set m d))) b
def kSx2 (j : Nat) (di : DE) (d : D) (E : DEnds) (A : List Sl) (b : Nat) : List D → Prop := fun ds => di A b (kSx3 j ds d E A)
def kSx1 (j : Nat) (di : DE) (E : DEnds) (A : List Sl) : DK := fun r b => r.kp ∧ own A j (kSx2 j di r.d E A b)
def kDrop (E : DEnds) (A : List Sl) : DK := fun _ b => E.nx A b
def kIfS (t u : DS) (E : DEnds) (A : List Sl) : BK := fun k b => if k = true then t E A b else u E A b
def kCall (ds : DSp) (kx : DX) (k : DK) : AK := fun rs b => noO rs = true ∧ ds (rs.map toSl) b k kx
def forD (ds : List D) (dg : DG) (t : DS) (E : DEnds) (A : List Sl) (b : Nat) : Prop := ∃ I : Nat → List Sl → Nat → Prop, I 0 A b ∧
  (∀ i d A b, ds[i]? = some d → I i A b → dg d A fun A' => t { E with nx := I (i + 1), ct := I (i + 1), bk := E.nx } A' b) ∧ ∀ A b, I ds.length A b → E.nx A b
def kFor (dg : DG) (t : DS) (E : DEnds) (A : List Sl) : IK := fun ds b => forD ds dg t E A b
def kBody (t : DS) (E : DEnds) (b : Nat) : GK := fun A' => t E A' b
def lcD (ds : List D) (dg : DG) (dt : DT) (de : DE) (ws : List Nat) (A : List Sl) (b : Nat) (k : DK) : Prop := ∃ I : Nat → List D → Nat → Prop, I 0 [] b ∧
  (∀ i d acc b, ds[i]? = some d → I i acc b → dg d (wipeS A ws) fun A' => dt A' b fun t b2 => if t = true then de A' b2 fun r b3 => r.kp ∧ acc.length < sizeLine ∧ I (i + 1) (acc ++ [r.d]) b3 else I (i + 1) acc b2) ∧ ∀ acc b, I ds.length acc b → k (.o acc) b
def kLc (dg : DG) (dt : DT) (de : DE) (ws : List Nat) (A : List Sl) (k : DK) : IK := fun ds b => lcD ds dg dt de ws A b k
abbrev LK := List D → Nat → Prop
def kLcR (acc : List D) (Q : LK) : DK := fun r b => r.kp ∧ acc.length < sizeLine ∧ Q (acc ++ [r.d]) b
def kLcE (de : DE) (A : List Sl) (acc : List D) (Q : LK) : BK := fun t b => if t = true then de A b (kLcR acc Q) else Q acc b
def kLcT (dt : DT) (de : DE) (acc : List D) (Q : LK) (b : Nat) : GK := fun A' => dt A' b (kLcE de A' acc Q)
section
variable {A : List Sl} {b n : Nat} {k : DK} {kb : BK} {ka : AK} {ko : OK} {ki : IK} {kg : GK} {kl : LK} {kx : DX} {E : DEnds} {da db dc de di : DE} {dt du : DT} {t' u : DS} {as : DA} {dl dh : DOp} {i j : Int} {x : D} {s : Str} {xs : List D} {r r1 : Rs} {rs : List Rs} {f g : D2} {fc : DC} {fo : Rs → Option (List D)} {dg : DG} {dr : DGs} {dsp : DSp} {ws : List Nat} {lo hi : Option Int} {T : String} {t : Bool}
theorem q_kOp3 : kOp3 k b r = k r b := rfl
theorem q_kOp2 : kOp2 f r k r1 b = f r r1 (kOp3 k b) := rfl
theorem q_kOp1 : kOp1 f db A k r b = db A b (kOp2 f r k) := rfl
theorem q_kTest : kTest kb (.s (.bl t)) b = kb t b := rfl
theorem q_kNotT : kNotT kb t b = kb (!t) b := rfl
theorem q_kAndT : kAndT du A kb t b = (if t = true then du A b kb else kb false b) := rfl
theorem q_kOrT : kOrT du A kb t b = (if t = true then kb true b else du A b kb) := rfl
theorem q_kTru : kTru kb r b = (r ≠ .g ∧ ∃ t, tru r.d = some t ∧ kb t b) := rfl
theorem q_kNot : kNot k (.s (.bl t)) b = k (.s (.bl (!t))) b := rfl
theorem q_kAnd : kAnd db A k (.s (.bl t)) b = (if t = true then db A b k else k (.s (.bl false)) b) := rfl
theorem q_kOr : kOr db A k (.s (.bl t)) b = (if t = true then k (.s (.bl true)) b else db A b k) := rfl
theorem q_kIf : kIf da db A k t b = (if t = true then da A b k else db A b k) := rfl
theorem q_kNeg : kNeg k (.s (.int i)) b = k (.s (.int (-i))) b := rfl
theorem q_kCh4 : kCh4 k g r r1 b = g r r1 (kOp3 k b) := rfl
theorem q_kCh3 : kCh3 k g r dc A b (.s (.bl t)) = (if t = true then dc A b (kCh4 k g r) else k (.s (.bl false)) b) := rfl
theorem q_kCh2 : kCh2 f g r dc A k r1 b = f r r1 (kCh3 k g r1 dc A b) := rfl
theorem q_kCh1 : kCh1 f g db dc A k r b = db A b (kCh2 f g r dc A k) := rfl
theorem q_kCons2 : kCons2 r ka rs b = ka (r.fz :: rs) b := rfl
theorem q_kCons1 : kCons1 as A ka r b = as A b (kCons2 r ka) := rfl
theorem q_kLst : kLst k rs b = (∃ ds, kps rs = some ds ∧ rs.length ≤ sizeLine ∧ k (.o ds) b) := rfl
theorem q_kTup : kTup k rs b = (∃ ds, kps rs = some ds ∧ rs.length ≤ sizeLine ∧ k (.s (.tup ds)) b) := rfl
theorem q_kP : kP ko (.s (.int i)) b = ko (some i) b := rfl
theorem q_kSl3 : kSl3 r lo k hi b = fSl r lo hi (kOp3 k b) := rfl
theorem q_kSl2 : kSl2 r dh A k lo b = dh A b (kSl3 r lo k) := rfl
theorem q_kSl1 : kSl1 dl dh A k r b = dl A b (kSl2 r dh A k) := rfl
theorem q_kCB : kCB fc k rs b = fc rs (kOp3 k b) := rfl
theorem q_kIsi : kIsi T k r b = (r ≠ .g ∧ ∃ t, isiD T r.d = some t ∧ k (.s (.bl t)) b) := rfl
theorem q_kJ2 : kJ2 s k r b = (∃ ys, r.d = .lst (ys.map D.str) ∧ (ys.map (·.length)).sum + ys.length * s.length ≤ 16777216 ∧ k (.s (.str (Txt.join s ys))) b) := rfl
theorem q_kJ1 : kJ1 db A k (.s (.str s)) b = db A b (kJ2 s k) := propext ⟨fun ⟨_, e, h⟩ => by cases e; exact h, fun h => ⟨s, rfl, h⟩⟩
theorem q_kIt : kIt fo ki r b = (∃ ds, fo r = some ds ∧ ki ds b) := rfl
theorem q_kR1 : kR1 ki [.s (.int i)] b = (-(2 ^ 62) ≤ i ∧ i < 2 ^ 62 ∧ ki (upto 0 i.toNat) b) := by simp [kR1]
theorem q_kR2 : kR2 ki [.s (.int i), .s (.int j)] b = (-(2 ^ 62) ≤ i ∧ i < 2 ^ 62 ∧ -(2 ^ 62) ≤ j ∧ j < 2 ^ 62 ∧ ki (upto i (j - i).toNat) b) := propext ⟨fun ⟨_, _, e, ⟨h1, h2, h3, h4⟩, h5⟩ => by cases e; exact ⟨h1, h2, h3, h4, h5⟩, fun ⟨h1, h2, h3, h4, h5⟩ => ⟨i, j, rfl, ⟨h1, h2, h3, h4⟩, h5⟩⟩
theorem q_kZip : kZip fo ki [r, r1] b = (∃ xs ys, fo r = some xs ∧ fo r1 = some ys ∧ ki (zipped xs ys) b) := propext ⟨fun ⟨_, _, xs, ys, e, h1, h2, h3⟩ => by cases e; exact ⟨xs, ys, h1, h2, h3⟩, fun ⟨xs, ys, h1, h2, h3⟩ => ⟨r, r1, xs, ys, rfl, h1, h2, h3⟩⟩
theorem q_kEnum : kEnum fo ki [r] b = (∃ xs, fo r = some xs ∧ ki (numbered xs) b) := propext ⟨fun ⟨_, xs, e, h1, h3⟩ => by cases e; exact ⟨xs, h1, h3⟩, fun ⟨xs, h1, h3⟩ => ⟨r, xs, rfl, h1, h3⟩⟩
theorem q_kRev : kRev fo ki [r] b = (∃ xs, fo r = some xs ∧ ki xs.reverse b) := propext ⟨fun ⟨_, xs, e, h1, h3⟩ => by cases e; exact ⟨xs, h1, h3⟩, fun ⟨xs, h1, h3⟩ => ⟨r, xs, rfl, h1, h3⟩⟩
theorem q_kG : kG dr xs kg A = dr xs A kg := rfl
theorem q_kRet : kRet E r b = (r.kp ∧ E.rt r b) := rfl
theorem q_kNx : kNx E b A = E.nx A b := rfl
theorem q_kSet : kSet n A E r b = putR n A r (kNx E b) := rfl
theorem q_kAsg : kAsg dg A E r b = (r.kp ∧ dg r.d A (kNx E b)) := rfl
theorem q_kAug3 : kAug3 n A E b r = putR n A r (kNx E b) := rfl
theorem q_kAug2 : kAug2 n f r A E r1 b = f r r1 (kAug3 n A E b) := rfl
theorem q_kAug1 : kAug1 n de f A E r b = de A b (kAug2 n f r A E) := rfl
theorem q_kApp2 : kApp2 n xs E A r b = (r.kp ∧ xs.length < sizeLine ∧ E.nx (A.set n (.own (xs ++ [r.d]))) b) := rfl
theorem q_kApp : kApp n de E A b xs = de A b (kApp2 n xs E A) := rfl
theorem q_kExt2 : kExt2 n xs E A r b = (∃ es, r.d = .lst es ∧ xs.length + es.length ≤ sizeLine ∧ E.nx (A.set n (.own (xs ++ es))) b) := rfl
theorem q_kExt : kExt n de E A b xs = de A b (kExt2 n xs E A) := rfl
theorem q_kSx3 : kSx3 n xs x E A (.s (.int i)) b = (∃ m, ixN xs.length i = some m ∧ E.nx (A.set n (.own (xs.set m x))) b) := propext ⟨fun ⟨_, m, e, h1, h2⟩ => by cases e; exact ⟨m, h1, h2⟩, fun ⟨m, h1, h2⟩ => ⟨i, m, rfl, h1, h2⟩⟩
theorem q_kSx2 : kSx2 n di x E A b xs = di A b (kSx3 n xs x E A) := rfl
theorem q_kSx1 : kSx1 n di E A r b = (r.kp ∧ own A n (kSx2 n di r.d E A b)) := rfl
theorem q_kDrop : kDrop E A r b = E.nx A b := rfl
theorem q_kIfS : kIfS t' u E A t b = (if t = true then t' E A b else u E A b) := rfl
theorem q_kCall : kCall dsp kx k rs b = (noO rs = true ∧ dsp (rs.map toSl) b k kx) := rfl
theorem q_kFor : kFor dg t' E A xs b = forD xs dg t' E A b := rfl
theorem q_kBody : kBody t' E b A = t' E A b := rfl
theorem q_kLc : kLc dg dt de ws A k xs b = lcD xs dg dt de ws A b k := rfl
theorem q_kLcR : kLcR xs kl r b = (r.kp ∧ xs.length < sizeLine ∧ kl (xs ++ [r.d]) b) := rfl
theorem q_kLcE : kLcE de A xs kl t b = (if t = true then de A b (kLcR xs kl) else kl xs b) := rfl
theorem q_kLcT : kLcT dt de xs kl b A = dt A b (kLcE de A xs kl) := rfl
variable {kd : List D → Prop} {dI : DI}
theorem q_var : dVar n A b k = (match A[n]? with | some (.val d) => k (.s d) b | some (.own ds) => k (.b ds) b | some (.bb ds) => k (.p ds) b | some .st => k .g b | _ => False) := rfl
theorem q_c : dC x A b k = k (.s x) b := rfl
theorem q_op : dOp f da db A b k = da A b (kOp1 f db A k) := rfl
theorem q_test : dTest de A b kb = de A b (kTest kb) := rfl
theorem q_notT : dNotT dt A b kb = dt A b (kNotT kb) := rfl
theorem q_andT : dAndT dt du A b kb = dt A b (kAndT du A kb) := rfl
theorem q_orT : dOrT dt du A b kb = dt A b (kOrT du A kb) := rfl
theorem q_tru : dTru de A b kb = de A b (kTru kb) := rfl
theorem q_not : dNot de A b k = de A b (kNot k) := rfl
theorem q_and : dAnd da db A b k = da A b (kAnd db A k) := rfl
theorem q_or : dOr da db A b k = da A b (kOr db A k) := rfl
theorem q_if : dIf dt da db A b k = dt A b (kIf da db A k) := rfl
theorem q_neg : dNeg de A b k = de A b (kNeg k) := rfl
theorem q_chain : dChain f g da db dc A b k = da A b (kCh1 f g db dc A k) := rfl
theorem q_nil : dNil A b ka = ka [] b := rfl
theorem q_cons : dCons de as A b ka = de A b (kCons1 as A ka) := rfl
theorem q_lst : dLst as A b k = as A b (kLst k) := rfl
theorem q_tup : dTup as A b k = as A b (kTup k) := rfl
theorem q_noP : dNoP A b ko = ko none b := rfl
theorem q_P : dP de A b ko = de A b (kP ko) := rfl
theorem q_sl : dSl de dl dh A b k = de A b (kSl1 dl dh A k) := rfl
theorem q_cb : dCB fc as A b k = as A b (kCB fc k) := rfl
theorem q_isi : dIsi T de A b k = de A b (kIsi T k) := rfl
theorem q_join : dJoin da db A b k = da A b (kJ1 db A k) := rfl
theorem q_it : dIt fo de A b ki = de A b (kIt fo ki) := rfl
theorem q_r1 : dR1 as A b ki = as A b (kR1 ki) := rfl
theorem q_r2 : dR2 as A b ki = as A b (kR2 ki) := rfl
theorem q_zip : dZip fo as A b ki = as A b (kZip fo ki) := rfl
theorem q_enum : dEnum fo as A b ki = as A b (kEnum fo ki) := rfl
theorem q_rev : dRev fo as A b ki = as A b (kRev fo ki) := rfl
theorem q_gN : gN n x A kg = kg (A.set n (.val x)) := rfl
theorem q_gsNil : gsNil [] A kg = kg A := by simp [gsNil]
theorem q_gsCons : gsCons dg dr (x :: xs) A kg = dg x A (kG dr xs kg) := rfl
theorem q_gTup : gTupD n dr (.tup xs) A kg = (xs.length = n ∧ dr xs A kg) := rfl
theorem q_nx : dNx E A b = E.nx A b := rfl
theorem q_seq : dSeq t' u E A b = t' { E with nx := u E } A b := rfl
theorem q_bk : dBk E A b = E.bk A b := rfl
theorem q_ct : dCt E A b = E.ct A b := rfl
theorem q_never : dNever E A b = False := rfl
theorem q_ret : dRet de E A b = de A b (kRet E) := rfl
theorem q_retv : dRetV n E A b = (match A[n]? with | some (.own ds) => E.rt (.o ds) b | some (.val d) => E.rt (.s d) b | _ => False) := rfl
theorem q_retN : dRetN E A b = E.rt (.s .non) b := rfl
theorem q_putS : putR n A (.s x) kg = kg (A.set n (.val x)) := rfl
theorem q_putO : putR n A (.o xs) kg = kg (A.set n (.own xs)) := rfl
theorem q_set : dSet n de E A b = de A b (kSet n A E) := rfl
theorem q_asg : dAsg de dg E A b = de A b (kAsg dg A E) := rfl
theorem q_aug : dAug n de f E A b = dVar n A b (kAug1 n de f A E) := rfl
theorem q_own : own A n kd = (match A[n]? with | some (.own ds) => kd ds | _ => False) := rfl
theorem q_app : dApp n de E A b = own A n (kApp n de E A b) := rfl
theorem q_ext : dExt n de E A b = own A n (kExt n de E A b) := rfl
theorem q_setIx : dSetIx n di de E A b = de A b (kSx1 n di E A) := rfl
theorem q_drop : dDrop de E A b = de A b (kDrop E A) := rfl
theorem q_ifS : dIfS dt t' u E A b = dt A b (kIfS t' u E A) := rfl
theorem q_frz : dFrz n t' E A b = (match A[n]? with | some (.own ds) => t' E (A.set n (.val (.lst ds))) b | _ => t' E A b) := rfl
theorem q_call : dCall dsp kx as A b k = as A b (kCall dsp kx k) := rfl
theorem q_for : dFor dI dg t' E A b = dI A b (kFor dg t' E A) := rfl
theorem q_lc : dLc dI dg dt de ws A b k = dI A b (kLc dg dt de ws A k) := rfl
theorem q_fzs : (Rs.s x).fz = .s x := rfl
theorem q_fzb : (Rs.b xs).fz = .b xs := rfl
theorem q_fzp : (Rs.p xs).fz = .p xs := rfl
theorem q_fzo : (Rs.o xs).fz = .s (.lst xs) := rfl
theorem q_fzg : Rs.g.fz = .g := rfl
theorem q_kps0 : kps [] = some [] := rfl
theorem q_kps1 : kps (.s x :: rs) = (kps rs).map (x :: ·) := rfl
theorem q_ds : (Rs.s x).d = x := rfl
theorem q_db : (Rs.b xs).d = .lst xs := rfl
theorem q_dp : (Rs.p xs).d = .lst xs := rfl
theorem q_do : (Rs.o xs).d = .lst xs := rfl
theorem q_kpS : (Rs.s x).kp = True := rfl
theorem q_kpO : (Rs.o xs).kp = True := rfl
theorem q_itF1 : itF (.s (.lst xs)) = some xs := rfl
theorem q_itF2 : itF (.s (.tup xs)) = some xs := rfl
theorem q_itF3 : itF (.s (.str s)) = some (signs s) := rfl
theorem q_itF4 : itF (.p xs) = some xs := rfl
theorem q_itF5 : itF (.o xs) = some xs := rfl
theorem q_itC1 : itC (.s (.lst xs)) = some xs := rfl
theorem q_itC2 : itC (.s (.tup xs)) = some xs := rfl
theorem q_itC3 : itC (.s (.str s)) = some (signs s) := rfl
theorem q_itC4 : itC (.p xs) = some xs := rfl
theorem q_itC5 : itC (.o xs) = some xs := rfl
theorem q_itC6 : itC (.b xs) = some xs := rfl
theorem q_lsF1 : lsF (.s (.lst xs)) = some xs := rfl
theorem q_lsF2 : lsF (.p xs) = some xs := rfl
theorem q_lsC1 : lsC (.s (.lst xs)) = some xs := rfl
theorem q_lsC2 : lsC (.p xs) = some xs := rfl
theorem q_lsC3 : lsC (.b xs) = some xs := rfl
theorem q_yes : dYes A b kb = kb true b := rfl
theorem q_mapS {α β : Type} {f : α → β} {a : α} : (some a).map f = some (f a) := rfl
end
section
variable {A : List Sl} {b : Nat} {k : DK} {E : DEnds} {da db dc de : DE} {dt du : DT} {t u : DS} {as : DA} {i j : Int} {x y z : D} {s s' : Str} {xs ys : List D} {dg : DG} {dr : DGs}
/-! operations -/
variable {kr : Rs → Prop}
theorem q_fI {C : Int → Int → Prop} {g : Int → Int → D} : fI C g (.s (.int i)) (.s (.int j)) kr = (C i j ∧ kr (.s (g i j))) := rfl
theorem q_fI0 {g : Int → Int → D} : fI0 g (.s (.int i)) (.s (.int j)) kr = kr (.s (g i j)) := rfl
theorem q_fOi {g : Int → Int → Bool} {h : Str → Str → Bool} : fO g h (.s (.int i)) (.s (.int j)) kr = kr (.s (.bl (g i j))) := rfl
theorem q_fOs {g : Int → Int → Bool} {h : Str → Str → Bool} : fO g h (.s (.str s)) (.s (.str s')) kr = kr (.s (.bl (h s s'))) := rfl
theorem q_addI : aAdd (.s (.int i)) (.s (.int j)) kr = kr (.s (.int (i + j))) := by simp [aAdd, fI0, fCatS, fCat, Rs.d]
theorem q_addS : aAdd (.s (.str s)) (.s (.str s')) kr = (s.length + s'.length ≤ sizeLine ∧ kr (.s (.str (s ++ s')))) := by simp [aAdd, fI0, fCatS, fCat, Rs.d]
theorem q_addL {r r' : Rs} (h : r.d = .lst xs) (h' : r'.d = .lst ys) : aAdd r r' kr = (xs.length + ys.length ≤ sizeLine ∧ kr (.o (xs ++ ys))) := by
  have e1 : ∀ g, fI0 g r r' kr = False := fun g => by unfold fI0; split <;> first | rfl | (cases h)
  simp only [aAdd, e1, fCatS, fCat, h, h', D.lst.injEq, false_or]
  refine propext ⟨?_, ?_⟩
  · rintro (⟨s, t, e, _⟩ | ⟨x, y, rfl, rfl, z⟩)
    · subst e; cases h
    · exact z
  · exact fun z => .inr ⟨_, _, rfl, rfl, z⟩
theorem q_addOO : aAdd (.o xs) (.o ys) kr = (xs.length + ys.length ≤ sizeLine ∧ kr (.o (xs ++ ys))) := q_addL rfl rfl
theorem q_addBO : aAdd (.b xs) (.o ys) kr = (xs.length + ys.length ≤ sizeLine ∧ kr (.o (xs ++ ys))) := q_addL rfl rfl
theorem q_addOB : aAdd (.o xs) (.b ys) kr = (xs.length + ys.length ≤ sizeLine ∧ kr (.o (xs ++ ys))) := q_addL rfl rfl
theorem q_addBB : aAdd (.b xs) (.b ys) kr = (xs.length + ys.length ≤ sizeLine ∧ kr (.o (xs ++ ys))) := q_addL rfl rfl
theorem q_addPO : aAdd (.p xs) (.o ys) kr = (xs.length + ys.length ≤ sizeLine ∧ kr (.o (xs ++ ys))) := q_addL rfl rfl
theorem q_addSO : aAdd (.s (.lst xs)) (.o ys) kr = (xs.length + ys.length ≤ sizeLine ∧ kr (.o (xs ++ ys))) := q_addL rfl rfl
theorem q_addSS : aAdd (.s (.lst xs)) (.s (.lst ys)) kr = (xs.length + ys.length ≤ sizeLine ∧ kr (.o (xs ++ ys))) := q_addL rfl rfl
theorem q_addOS : aAdd (.o xs) (.s (.lst ys)) kr = (xs.length + ys.length ≤ sizeLine ∧ kr (.o (xs ++ ys))) := q_addL rfl rfl
/-! calls -/
theorem q_no0 : noO [] = true := rfl
theorem q_noS {rs : List Rs} : noO (.s x :: rs) = noO rs := rfl
theorem q_noB {rs : List Rs} : noO (.b xs :: rs) = noO rs := rfl
theorem q_noP' {rs : List Rs} : noO (.p xs :: rs) = noO rs := rfl
theorem q_noG {rs : List Rs} : noO (.g :: rs) = noO rs := rfl
theorem q_toS : toSl (.s x) = .val x := rfl
theorem q_toB : toSl (.b xs) = .bb xs := rfl
theorem q_toP : toSl (.p xs) = .bb xs := rfl
theorem q_toG : toSl .g = .st := rfl
/-- so many may be drawn -/
def Tk (m : Int) (b : Nat) : Prop := 0 < m ∧ m < 18446744073709551616 ∧ b < 100000000
theorem q_take {m : Int} {kx : DX} : dsTake [.st, .val (.int m)] b k kx = (Tk m b ∧ ∀ r : Int, 0 ≤ r → r < m → k (.s (.int r)) (b + 1)) := by simp [dsTake, Tk, and_assoc]
/-! == : flat ones -/
theorem q_eqI : fEqA false (.s (.int i)) (.s (.int j)) kr = kr (.s (.bl (decide (i = j)))) := by simp [fEqA, fEqF, flt, toV, scal, Rs.d]
theorem q_neI : fEqA true (.s (.int i)) (.s (.int j)) kr = kr (.s (.bl (!decide (i = j)))) := by simp [fEqA, fEqF, flt, toV, scal, Rs.d]
theorem q_eqS : fEqA false (.s (.str s)) (.s (.str s')) kr = kr (.s (.bl (decide (s = s')))) := by simp [fEqA, fEqF, flt, toV, scal, Rs.d]
theorem q_neS : fEqA true (.s (.str s)) (.s (.str s')) kr = kr (.s (.bl (!decide (s = s')))) := by simp [fEqA, fEqF, flt, toV, scal, Rs.d]
theorem q_isF : fIs false (.s x) (.s .non) kr = kr (.s (.bl (isN x))) := by simp [fIs, Rs.d]
theorem q_isT : fIs true (.s x) (.s .non) kr = kr (.s (.bl (!isN x))) := by simp [fIs, Rs.d]
theorem q_isN0 : isN .non = true := rfl
theorem q_isN1 : isN (.int i) = false := rfl
theorem q_isN2 : isN (.str s) = false := rfl
theorem q_isN3 : isN (.lst xs) = false := rfl
theorem q_isN4 : isN (.tup xs) = false := rfl
/-! items -/
theorem q_ixL {r : Rs} (h : r.d = .lst xs) : fIx r (.s (.int i)) kr = ∃ d, atI xs i = some d ∧ kr (.s d) := by
  refine propext ⟨?_, fun ⟨d, h1, h2⟩ => ⟨i, rfl, .inl ⟨xs, d, .inl h, h1, h2⟩⟩⟩
  rintro ⟨i', e, h'⟩
  cases e
  rcases h' with ⟨ys, d, hd, h1, h2⟩ | ⟨z, n, e, _⟩
  · rcases hd with hd | hd
    · rw [h] at hd; cases hd; exact ⟨d, h1, h2⟩
    · rw [h] at hd; cases hd
  · subst e; cases h
theorem q_ixO : fIx (.o xs) (.s (.int i)) kr = ∃ d, atI xs i = some d ∧ kr (.s d) := q_ixL rfl
theorem q_ixB : fIx (.b xs) (.s (.int i)) kr = ∃ d, atI xs i = some d ∧ kr (.s d) := q_ixL rfl
theorem q_ixP : fIx (.p xs) (.s (.int i)) kr = ∃ d, atI xs i = some d ∧ kr (.s d) := q_ixL rfl
theorem q_ixS : fIx (.s (.lst xs)) (.s (.int i)) kr = ∃ d, atI xs i = some d ∧ kr (.s d) := q_ixL rfl
theorem q_ixT : fIx (.s (.tup xs)) (.s (.int i)) kr = ∃ d, atI xs i = some d ∧ kr (.s d) := by
  refine propext ⟨?_, fun ⟨d, h1, h2⟩ => ⟨i, rfl, .inl ⟨xs, d, .inr rfl, h1, h2⟩⟩⟩
  rintro ⟨i', e, h'⟩
  cases e
  rcases h' with ⟨ys, d, hd, h1, h2⟩ | ⟨z, n, e, _⟩
  · rcases hd with hd | hd
    · cases hd
    · cases hd; exact ⟨d, h1, h2⟩
  · cases e
theorem q_ixZ : fIx (.s (.str s)) (.s (.int i)) kr = (s.length ≤ sizeLine ∧ ∃ n, atI s.cps.toList i = some n ∧ kr (.s (.str ⟨#[n]⟩))) := by simp [fIx, Rs.d]
theorem at_any {p : D → Prop} (h0 : 0 ≤ i) (h1 : i < xs.length) (hk : ∀ d ∈ xs, p d) : ∃ d, atI xs i = some d ∧ p d := by
  obtain ⟨n, e, _⟩ := at_map (f := fun _ => V.non) h0 h1
  refine ⟨n, ?_, hk n (List.mem_of_getElem? e)⟩
  unfold atI
  rw [ix_ok h0 h1]
  exact e
/-! len -/
theorem q_lenL {r : Rs} (h : r.d = .lst xs) : fLen [r] kr = kr (.s (.int xs.length)) := by
  refine propext ⟨?_, fun z => ⟨r, _, rfl, by rw [h], z⟩⟩
  rintro ⟨r', n, e, hn, z⟩
  cases e
  rw [h] at hn
  have : n = xs.length := hn
  subst this
  exact z
theorem q_lenB : fLen [.b xs] kr = kr (.s (.int xs.length)) := q_lenL rfl
theorem q_lenP : fLen [.p xs] kr = kr (.s (.int xs.length)) := q_lenL rfl
theorem q_lenS : fLen [.s (.lst xs)] kr = kr (.s (.int xs.length)) := q_lenL rfl
theorem q_lenT : fLen [.s (.tup xs)] kr = kr (.s (.int xs.length)) := by
  refine propext ⟨?_, fun z => ⟨_, _, rfl, rfl, z⟩⟩
  rintro ⟨r', n, e, hn, z⟩
  cases e
  have : n = xs.length := hn
  subst this
  exact z
theorem q_lenZ : fLen [.s (.str s)] kr = (s.length ≤ sizeLine ∧ kr (.s (.int s.length))) := by
  refine propext ⟨?_, fun z => ⟨_, _, rfl, ⟨z.1, rfl⟩, z.2⟩⟩
  rintro ⟨r', n, e, hn, z⟩
  cases e
  obtain ⟨h1, h2⟩ : s.length ≤ sizeLine ∧ n = s.length := hn
  subst h2
  exact ⟨h1, z⟩
theorem q_listL {r : Rs} (h : r.d = .lst xs) : fListOf [r] kr = kr (.o xs) := by
  refine propext ⟨?_, fun z => ⟨r, _, rfl, .inl h, z⟩⟩
  rintro ⟨r', ys, e, hn, z⟩
  cases e
  rw [h] at hn
  rcases hn with hn | hn <;> cases hn
  exact z
theorem q_listB : fListOf [.b xs] kr = kr (.o xs) := q_listL rfl
theorem q_listP : fListOf [.p xs] kr = kr (.o xs) := q_listL rfl
theorem q_listS : fListOf [.s (.lst xs)] kr = kr (.o xs) := q_listL rfl
theorem q_listT : fListOf [.s (.tup xs)] kr = kr (.o xs) := by
  refine propext ⟨?_, fun z => ⟨_, _, rfl, .inr rfl, z⟩⟩
  rintro ⟨r', ys, e, hn, z⟩
  cases e
  rcases hn with hn | hn <;> cases hn
  exact z
theorem q_tupL {r : Rs} (h : r.d = .lst xs) : fTupOf [r] kr = kr (.s (.tup xs)) := by
  refine propext ⟨?_, fun z => ⟨r, _, rfl, .inl h, z⟩⟩
  rintro ⟨r', ys, e, hn, z⟩
  cases e
  rcases hn with hn | hn
  · rw [h] at hn; cases hn; exact z
  · subst hn; cases h
theorem q_tupB : fTupOf [.b xs] kr = kr (.s (.tup xs)) := q_tupL rfl
theorem q_tupP : fTupOf [.p xs] kr = kr (.s (.tup xs)) := q_tupL rfl
theorem q_tupS : fTupOf [.s (.lst xs)] kr = kr (.s (.tup xs)) := q_tupL rfl
theorem q_tupT : fTupOf [.s (.tup xs)] kr = kr (.s (.tup xs)) := by
  refine propext ⟨?_, fun z => ⟨_, _, rfl, .inr rfl, z⟩⟩
  rintro ⟨r', ys, e, hn, z⟩
  cases e
  rcases hn with hn | hn <;> cases hn
  exact z
theorem q_intB {t : Bool} : fInt1 [.s (.bl t)] kr = kr (.s (.int (if t then 1 else 0))) := by simp [fInt1]
theorem q_intI : fInt1 [.s (.int i)] kr = kr (.s (.int i)) := by simp [fInt1]
theorem q_fI1 {g : Int → D} : fI1 g [.s (.int i)] kr = kr (.s (g i)) := by simp [fI1]
theorem q_fI2 {g : Int → Int → D} : fI2 g [.s (.int i), .s (.int j)] kr = kr (.s (g i j)) := by
  refine propext ⟨?_, fun z => ⟨i, j, rfl, z⟩⟩
  rintro ⟨i', j', e, z⟩
  cases e
  exact z
theorem q_slL {r : Rs} {lo hi : Option Int} (h : r.d = .lst xs) : fSl r lo hi kr = kr (.o (cutD xs lo hi)) := by
  refine propext ⟨?_, fun z => .inl ⟨_, h, z⟩⟩
  rintro (⟨ys, e, z⟩ | ⟨z, e, _⟩)
  · rw [h] at e; cases e; exact z
  · subst e; cases h
theorem q_slO {lo hi : Option Int} : fSl (.o xs) lo hi kr = kr (.o (cutD xs lo hi)) := q_slL rfl
theorem q_slB {lo hi : Option Int} : fSl (.b xs) lo hi kr = kr (.o (cutD xs lo hi)) := q_slL rfl
theorem q_slP {lo hi : Option Int} : fSl (.p xs) lo hi kr = kr (.o (cutD xs lo hi)) := q_slL rfl
theorem q_slS {lo hi : Option Int} : fSl (.s (.lst xs)) lo hi kr = kr (.o (cutD xs lo hi)) := q_slL rfl
theorem q_slZ {lo hi : Option Int} : fSl (.s (.str s)) lo hi kr = (s.length ≤ sizeLine ∧ kr (.s (.str (cutS s lo hi)))) := by simp [fSl, Rs.d]
theorem q_rep {r : Rs} (h : r.d = .lst xs) : fRep r (.s (.int i)) kr = (-(2 ^ 63) ≤ i ∧ i < 2 ^ 63 ∧ xs.length * i.toNat ≤ sizeLine ∧ kr (.o (List.replicate i.toNat xs).flatten)) := by simp [fRep, h]
theorem q_repO : fRep (.o xs) (.s (.int i)) kr = (-(2 ^ 63) ≤ i ∧ i < 2 ^ 63 ∧ xs.length * i.toNat ≤ sizeLine ∧ kr (.o (List.replicate i.toNat xs).flatten)) := q_rep rfl
/-! isinstance -/
theorem q_is0 {T : String} : isiD T .non = some false := rfl
theorem q_is1 {T : String} : isiD T (.int i) = some (T == "int") := rfl
theorem q_is2 {T : String} : isiD T (.str s) = some (T == "str") := rfl
theorem q_is3 {T : String} : isiD T (.lst xs) = some (T == "list") := rfl
theorem q_is4 {T : String} : isiD T (.tup xs) = some (T == "tuple") := rfl
theorem q_is5 {T : String} {t : Bool} : isiD T (.bl t) = some (T == "bool" || T == "int") := rfl
/-! loops -/
theorem for_upto {n : Nat} {lo : Int} (I : Nat → List Sl → Nat → Prop) (h0 : I 0 A b) (hs : ∀ i A b, i < n → I i A b → dg (.int (lo + i)) A (kBody t { E with nx := I (i + 1), ct := I (i + 1), bk := E.nx } b)) (he : ∀ A b, I n A b → E.nx A b) : forD (upto lo n) dg t E A b := by
  refine ⟨I, h0, fun i d A b hd hI => ?_, fun A b hI => he A b ?_⟩
  · obtain ⟨hi, rfl⟩ := upto_get hd
    exact hs i A b hi hI
  · unfold upto at hI
    simpa using hI
/-- each item goes to one, or to none -/
theorem lc_flat {ws : List Nat} (f : D → List D) (hl : xs.length ≤ sizeLine) (h1 : ∀ d ∈ xs, (f d).length ≤ 1)
    (hs : ∀ (d : D) (acc : List D) (Q : List D → Nat → Prop), d ∈ xs → acc.length < sizeLine → Q (acc ++ f d) b → dg d (wipeS A ws) (kLcT dt de acc Q b))
    (hk : k (.o (xs.flatMap f)) b) : lcD xs dg dt de ws A b k := by
  refine ⟨fun i acc b' => acc = (xs.take i).flatMap f ∧ b' = b, ⟨rfl, rfl⟩, ?_, ?_⟩
  · rintro i d acc b' hd ⟨rfl, rfl⟩
    have hi : i < xs.length := by
      rcases Nat.lt_or_ge i xs.length with q | q
      · exact q
      · rw [List.getElem?_eq_none q] at hd; cases hd
    have len : ∀ ys : List D, (∀ d ∈ ys, (f d).length ≤ 1) → (ys.flatMap f).length ≤ ys.length := by
      intro ys
      induction ys with
      | nil => intro _; exact Nat.le_refl _
      | cons y ys ih =>
        intro hy
        rw [List.flatMap_cons, List.length_append, List.length_cons]
        have := hy y (by simp)
        have := ih fun d hd => hy d (List.mem_cons_of_mem _ hd)
        omega
    refine hs d _ (fun acc b'' => acc = (xs.take (i + 1)).flatMap f ∧ b'' = b') (List.mem_of_getElem? hd) ?_ ⟨?_, rfl⟩
    · have := len (xs.take i) fun d hd => h1 d (List.mem_of_mem_take hd)
      rw [List.length_take] at this
      omega
    · rw [List.take_add_one, hd, List.flatMap_append]
      simp
  · rintro acc b' ⟨rfl, rfl⟩
    rw [List.take_length]
    exact hk
theorem lc_map {ws : List Nat} (f : D → D) (hl : xs.length ≤ sizeLine)
    (hs : ∀ (d : D) (acc : List D) (Q : List D → Nat → Prop), d ∈ xs → acc.length < sizeLine → Q (acc ++ [f d]) b → dg d (wipeS A ws) (kLcT dt de acc Q b))
    (hk : k (.o (xs.map f)) b) : lcD xs dg dt de ws A b k :=
  lc_flat (fun d => [f d]) hl (fun _ _ => Nat.le_refl _) hs (by rw [← List.map_eq_flatMap]; exact hk)
theorem q_ws0 : wipeS A [] = A := rfl
theorem q_ws1 {i : Nat} {r : List Nat} : wipeS A (i :: r) = (wipeS A r).set i .no := rfl
end
end Dd

namespace Dd
open PySem L2 Pk
/-! ### what was shown over the heap, said over data -/
def isKd (kd : Str) : Prop := kd = Str.ofString "number" ∨ kd = Str.ofString "text"
/-- a cell of a kind, as the laws draw them -/
def OkD (kd : Str) (d : D) : Prop := d = .non ∨ (kd = Str.ofString "number" ∧ ∃ n : Int, d = .int n ∧ n.natAbs < 10 ^ 18) ∨ (kd = Str.ofString "text" ∧ ∃ t, d = .str t ∧ OkT t)
def RowIs (s : Sl) (ns : List Int) : Prop := s = .bb (ns.map D.int) ∨ s = .val (.lst (ns.map D.int)) ∨ s = .val (.tup (ns.map D.int))
def dsText (m : Nat) : DSp := fun args b k _ => args = [.st] ∧ b + (60 + m) < 100000000 ∧ ∀ t, OkT t → k (.s (.str t)) (b + (30 + m))
def dsNumber : DSp := fun args b k _ => args = [.st] ∧ b + 10 < 100000000 ∧ ∀ n : Int, n.natAbs < 10 ^ 18 → k (.s (.int n)) (b + 5)
def dsNoise : DSp := fun args b k _ => ∃ m : Nat, args = [.st, .val (.int m)] ∧ m ≤ 100 ∧ b + 4 * m < 100000000 ∧ ∀ ns : List Int, ns.length = m → (∀ x ∈ ns, 0 ≤ x ∧ x < 256) → k (.o (ns.map D.int)) (b + 4 * m)
/-! numbers, texts, cells as bytes -/
def dsNb : DSp := fun args b k _ => ∃ n : Int, args = [.val (.int n)] ∧ Small n ∧ k (.o ((nb (zig n)).map D.int)) b
/-- a cell's bytes -/
def OkCd (d : D) : Prop := d = .non ∨ (∃ n, d = .int n ∧ Small n) ∨ ∃ t, d = .str t ∧ OkT t
def cbD (d : D) : List Int := cb (toV d)
theorem OkCd.v {d : D} (h : OkCd d) : OkCell (toV d) := by
  rcases h with rfl | ⟨n, rfl, h⟩ | ⟨t, rfl, h⟩
  · exact .inl rfl
  · exact .inr (.inl ⟨n, rfl, h⟩)
  · exact .inr (.inr ⟨t, rfl, h⟩)
theorem OkCd.flt {d : D} (h : OkCd d) : flt d = true := by
  rcases h with rfl | ⟨n, rfl, h⟩ | ⟨t, rfl, h⟩ <;> rfl
def dsCb : DSp := fun args b k _ => ∃ d, args = [.val d] ∧ OkCd d ∧ k (.o ((cbD d).map D.int)) b
def dsTakeN : DSp := fun args b k _ => ∃ (s : Sl) (pre post : List Int) (n : Int), args = [s, .val (.int pre.length)] ∧ RowIs s (pre ++ (nb (zig n) ++ post)) ∧ (nb (zig n)).length ≤ 9 ∧ k (.s (.tup [.int n, .int (pre.length + (nb (zig n)).length)])) b
def dsTt : DSp := fun args b k _ => ∃ (s : Sl) (pre post : List Int) (t : Str), args = [s, .val (.int pre.length)] ∧ RowIs s (pre ++ (tb t ++ post)) ∧ OkT t ∧ k (.s (.tup [.str t, .int (pre.length + (tb t).length)])) b
def dsTc : DSp := fun args b k _ => ∃ (s : Sl) (pre post : List Int) (d : D), args = [s, .val (.int pre.length)] ∧ RowIs s (pre ++ (cbD d ++ post)) ∧ OkCd d ∧ (cbD d).length ≤ 30 ∧ (∀ n, d = .int n → (nb (zig n)).length ≤ 9) ∧ k (.s (.tup [d, .int (pre.length + (cbD d).length)])) b
/-! ### the draws of cells -/
def dsCells : DSp := fun args b k _ => ∃ (kd : Str) (m : Nat), args = [.st, .val (.str kd), .val (.int m)] ∧ isKd kd ∧ m ≤ 70 ∧ b + 1500 < 100000000 ∧ ∀ (ds : List D) (b' : Nat), ds.length = m → (∀ d ∈ ds, OkD kd d) → b' ≤ b + 1500 → k (.o ds) b'
theorem kd_ne : ¬ (Str.ofString "number" = Str.ofString "text") := by decide +kernel
/-- rows, a cut between -/
def dCut (t u : DS) : DS := fun E A b => ∃ M : List Sl → Nat → Prop, t { E with nx := M } A b ∧ ∀ A b, M A b → u E A b
theorem q_text {m : Nat} {b : Nat} {k : DK} {kx : DX} : dsText m [.st] b k kx = (b + (60 + m) < 100000000 ∧ ∀ t, OkT t → k (.s (.str t)) (b + (30 + m))) := by simp [dsText]
theorem q_number {b : Nat} {k : DK} {kx : DX} : dsNumber [.st] b k kx = (b + 10 < 100000000 ∧ ∀ n : Int, n.natAbs < 10 ^ 18 → k (.s (.int n)) (b + 5)) := by simp [dsNumber]
theorem q_szl {n : Nat} (h : n ≤ 10000) : (n ≤ sizeLine) = True := eq_true (Nat.le_trans h (by decide))
theorem szs {n : Nat} (h : n ≤ 10000) : n < sizeLine := Nat.lt_of_le_of_lt h (by decide)
theorem szl {n : Nat} (h : n ≤ 10000) : n ≤ sizeLine := Nat.le_trans h (by decide)
end Dd

namespace Xc
open PySem
section
variable {prog : Program} {w : World} {A : Around} {E : Value → Shared → Prop} {h : Heap} {g : Array GenState} {d : Drawn} {t : Nat} {os : OsState}
variable {nm q : Str} {C N : Addr} {bs bm bmB : List Value} {hdct : Bool} {sn : List Str} {sub : List Value} {ab : Bool} {col : Option Bool} {dd : Option Addr} {k0 k1 k2 k3 k5 : Option Value} {B newId initId : String}
end
end Xc

namespace Xc
open PySem PySem.W
/-! ### super() of an error: a built-in's own method, bound -/
theorem f_typ : typeOf (.builtin "ValueError.__init__") = pure (.type "wrapper_descriptor") := by show builtinType _ = _; rw [builtinType_eq_fast]; kernel_rfl
theorem f_slot : Slot "wrapper_descriptor" "__get__" "wrapper_descriptor.__get__" :=
  .of (owner := "wrapper_descriptor") (n := "__get__") (by rw [typeLookup_type, builtinLookup_eq_fast]; kernel_rfl) (by decide +kernel) (by decide +kernel) (by decide +kernel) (by first | exact .inl (by decide +kernel) | exact .inr (by decide +kernel)) (by rw [isSubtype_type]; kernel_rfl)
theorem f_entry : entryFor table "wrapper_descriptor.__get__" = some Builtin.«wrapper_descriptor.__get__» := entryFor_of_tree (by kernel_rfl)
theorem f_args (a b c : Value) : argsOk "wrapper_descriptor.__get__" ⟨[a, b, c], []⟩ := by unfold argsOk; kernel_rfl
abbrev superOf (D x C : Addr) : Obj := { cls := .type "super", data := .fields #[.ref D, .ref x, .ref C] }
abbrev wrapOf (x : Addr) : Obj := { cls := .type "method-wrapper", data := .fields #[.builtin "ValueError.__init__", .ref x] }
section
variable {prog : Program} {w : World} {A : Around} {h : Heap} {g : Array GenState} {d : Drawn} {t : Nat} {os : OsState} {K : Frag} {so D x C : Addr} {l : List Value} {name : Str}
/-- super(D, x) stands at so; l follows D along the order of C, the class of x -/
structure Sup (prog : Program) (w : World) (K : Frag) (h : Heap) (so D x C : Addr) (l : List Value) : Prop where
  at_ : h.get? so = some (superOf D x C)
  clear : Looks (model prog w) h (opaqueClassAbove (.ref C)) none
  row : ∃ r, Looks (model prog w) h (mroOf (.ref C)) r ∧ (r.dropWhile (· != .ref D)).drop 1 = l
  kit : K.In h
  apart : x ≠ C
theorem Sup.part {i : Nat} {v : Value} {E : Value → Shared → Prop} {Q : Value → Shared → Prop} (U : Sup prog w K h so D x C l) (e : (#[.ref D, .ref x, .ref C] : Array Value)[i]? = some v) (q : Q v ⟨h, g, d, t, os⟩) :
    wpAny (model prog w) A (field (.ref so) i) Q E ⟨h, g, d, t, os⟩ := wpAny_field U.at_ rfl e q
/-- what it answers, whatever kind of thing is found, is what that thing's own __get__ makes of it -/
theorem Sup.finds {tk : Tok} {f : Value} {T get : String} {E : Value → Shared → Prop} {Q : Fin → Shared → Prop} (U : Sup prog w K h so D x C l) (hn : (name == ("__class__" : Str)) = false) (hf : alongIn K name l = some (some f))
    (ht : typeOf f = pure (.type T)) (hg : Slot T "__get__" get) (q : ∀ A' : Around, wpAny (model prog w) A' (call (.builtin get) [f, .ref x, .ref C]) (fun v s' => Q (.done (.ret v)) s') E ⟨h, g, d, t, os⟩) :
    wpAny (model prog w) A (Builtin.«super.__getattribute__» ⟨[.ref so, .str name tk], []⟩) Q E ⟨h, g, d, t, os⟩ := by
  obtain ⟨r, hr, rfl⟩ := U.row
  have ne : (Value.ref x == Value.ref C) = false := by simpa using U.apart
  unfold Builtin.«super.__getattribute__»
  repeat (first
    | with_reducible refine U.part (v := .ref D) rfl ?_
    | with_reducible refine U.part (v := .ref x) rfl ?_
    | with_reducible refine U.part (v := .ref C) rfl ?_
    | with_reducible refine ks_wpAny_notOpaque U.clear ?_
    | with_reducible refine hr.at ?_
    | refine ks_forIn_along U.kit (fun _ _ => rfl) rfl ?_ hf
    | with_reducible refine wpAny_of_eq ht ?_
    | with_reducible refine wpAny_of_eq hg.lookup ?_
    | simp only [hn, ne, Bool.or_false, Bool.false_eq_true, if_false]
    | with_reducible refine wpAny_mono (q _) (fun v s' z => ?_) fun _ _ z => z
    | wp_step
    | dsimp only)
  all_goals exact z
/-- an attribute of a thing whose type has a __getattribute__ of its own and no hook: what that answers -/
theorem own_told {o n v : Value} {T ga : String} {s s' : Shared} {E : Value → Shared → Prop} {Q : Value → Shared → Prop} (bound : bindSpecial (.builtin ga) o = pure (.builtin ga, [o])) (hv : handedIn v = true)
    (called : ∀ A' : Around, wpAny (model prog w) A' (call (.builtin ga) [o, n]) (fun r u => r = v ∧ u = s') (fun _ _ => False) s) (q : Q v s') :
    wpAny (model prog w) A (getAttrByItsOwn o n (.type T) (.builtin ga) true false) Q E s := by
  have b1 : wpAny (model prog w) A (boundAndCalled (.builtin ga) o n) (fun r u => r = v ∧ u = s') (fun _ _ => False) s := by
    unfold boundAndCalled
    exact wpAny_bind (wpAny_of_eq bound (called _))
  have b2 : wpAny (model prog w) A ((holding [] (callGetattribute o n (.builtin ga) false)).attempt) (fun r u => r = .ok v ∧ u = s') E s :=
    wpAny_attempt (wpAny_holding (wpAny_mono b1 (fun r u z => ⟨by rw [z.1], z.2⟩) fun _ _ (z : False) => z.elim))
  unfold getAttrByItsOwn
  refine wpAny_bind (wpAny_of_eq (show hookBefore (.type T) = pure none from rfl) (wpAny_bind (wpAny_mono b2 (fun r u z => ?_) fun _ _ z => z)))
  obtain ⟨rfl, rfl⟩ := z
  show wpAny _ _ (handedOut v) _ _ _
  rw [handedOut_of hv]
  exact wpAny_pure q
theorem attr_hook {o v : Value} {T ga : String} {B : Builtin} {E : Value → Shared → Prop} {Q : Value → Shared → Prop} {s' : Shared} (ho : ∀ u, (⟨h, g, d, u, os⟩ : Shared).TypeIs o T) (sl : Slot T "__getattribute__" ga)
    (en : entryFor table ga = some B) (ok : argsOk ga ⟨[o, .str name t], []⟩) (hv : handedIn v = true)
    (run : ∀ A' : Around, wpAny (model prog w) A' (B ⟨[o, .str name t], []⟩) (fun r u => r = .done (.ret v) ∧ u = s') (fun _ _ => False) ⟨h, g, d, t + 1, os⟩) (q : Q v s') :
    wpAny (model prog w) A (getAttr o name) Q E ⟨h, g, d, t, os⟩ := by
  have called : ∀ A' : Around, wpAny (model prog w) A' (call (.builtin ga) [o, .str name t]) (fun r u => r = v ∧ u = s') (fun _ _ => False) ⟨h, g, d, t + 1, os⟩ := fun A' =>
    wpAny_call_entry sl (ho _) en (wpAny_mono (run _) (fun r u z => by obtain ⟨rfl, rfl⟩ := z; exact ⟨_, rfl, rfl, rfl⟩) fun _ _ (z : False) => z.elim) ok
  have told := own_told (T := T) (A := A) (E := E) (Q := Q) (sl.bind o) hv called q
  unfold getAttr getAttrBy
  exact wpAny_bind (wpAny_mkText (wpAny_holding (wpAny_bind (wpAny_typeOf (ho _) (wpAny_bind (wpAny_of_eq sl.lookup told))))))
/-- so too a method of it, where that __getattribute__ is not the plain one -/
theorem method_hook {o : Value} {T ga : String} {pl : Sem Bool} {E : Value → Shared → Prop} {Q : Value × List Value → Shared → Prop} {s : Shared} (ho : s.TypeIs o T) (sl : Slot T "__getattribute__" ga) (no : (Manifest.canonical ga != "object.__getattribute__") = true)
    (q : wpAny (model prog w) A (getAttr o name) (fun r s' => Q (r, []) s') E s) : wpAny (model prog w) A (getMethod o name pl) Q E s := by
  unfold getMethod
  refine wpAny_bind (wpAny_specialOf ho sl.lookup ?_)
  dsimp only
  rw [if_pos no]
  exact wpAny_bind (wpAny_mono q (fun r u z => wpAny_pure z) fun _ _ z => z)
theorem x_get {ox : Obj} {E : Value → Shared → Prop} {Q : Value → Shared → Prop} (hx : h.get? x = some ox) (hc : ox.cls = .ref C) (hi : Looks (model prog w) h (isSubtype (.ref C) (.type "ValueError")) true) (hq : Q (.ref h.objs.size) ⟨h.push (wrapOf x), g, d, t, os⟩) :
    wpAny (model prog w) A (call (.builtin "wrapper_descriptor.__get__") [.builtin "ValueError.__init__", .ref x, .ref C]) Q E ⟨h, g, d, t, os⟩ := by
  refine wpAny_call_entry (T := "wrapper_descriptor") f_slot f_typ f_entry ?_ (f_args _ _ _)
  have e : ".".intercalate ("ValueError.__init__".cutAt '.').dropLast = "ValueError" := by decide +kernel
  unfold Builtin.«wrapper_descriptor.__get__»
  repeat (first | (with_reducible refine wpAny_loadPart_at hx ?_; rw [hc]) | (rw [e]; refine hi.at ?_) | wp_step)
  exact ⟨_, rfl, hq⟩
/-- super().__init__ of an error: the built-in's own, bound -/
theorem Sup.init {ox : Obj} {pl : Sem Bool} {E : Value → Shared → Prop} {Q : Value × List Value → Shared → Prop} (U : Sup prog w K h so D x C l) (hf : alongIn K "__init__" l = some (some (.builtin "ValueError.__init__"))) (hx : h.get? x = some ox) (hc : ox.cls = .ref C)
    (hi : Looks (model prog w) h (isSubtype (.ref C) (.type "ValueError")) true) (hq : Q (.ref h.objs.size, []) ⟨h.push (wrapOf x), g, d, t + 1, os⟩) : wpAny (model prog w) A (getMethod (.ref so) "__init__" pl) Q E ⟨h, g, d, t, os⟩ := by
  have ho : ∀ u, (⟨h, g, d, u, os⟩ : Shared).TypeIs (.ref so) "super" := fun _ => ⟨_, U.at_, rfl⟩
  exact method_hook (ho _) F.ks_slot_super_ga F.ks_canon_super_ga (attr_hook ho F.ks_slot_super_ga F.ks_entry_super_ga (F.ks_gaArgs_super _ _) rfl (fun A' => U.finds (by decide) hf f_typ f_slot fun A2 => x_get hx hc hi ⟨rfl, rfl⟩) hq)
end
end Xc

namespace Xc
open PySem PySem.W
section
variable {prog : Program} {w : World} {A : Around} {E : Value → Shared → Prop} {h : Heap} {g : Array GenState} {d : Drawn} {t : Nat} {os : OsState}
variable {nm q : Str} {C N : Addr} {bs bm bmB : List Value} {hdct : Bool} {sn : List Str} {sub : List Value} {ab : Bool} {col : Option Bool} {dd : Option Addr} {k0 k1 k2 k3 k5 : Option Value} {B newId initId : String}
theorem mapF {o : Obj} {vs : Array Value} (hd : o.data = .fields vs) (f : Array Value → Array Value) : Obj.mapFields f o = { o with data := .fields (f vs) } := by
  obtain ⟨c, d, dt, sl⟩ := o
  cases (show dt = .fields vs from hd)
  rfl
theorem x_setf {M : Model} {s : Shared} {a : Addr} {o : Obj} {vs : Array Value} {i : Nat} {x : Value} {Q : Unit → Shared → Prop} (ho : s.heap.get? a = some o) (hd : o.data = .fields vs) (hi : i < vs.size)
    (hq : ∀ h', h'.get? a = some { o with data := .fields (vs.setIfInBounds i x) } → Heap.SameBut a s.heap h' → Q () { s with heap := h' }) : wpAny M A (setField (.ref a) i x) Q E s := by
  refine wpAny_setField ho hd hi (hq _ ?_ (Heap.SameBut.update ..))
  rw [← mapF hd (fun l => l.setIfInBounds i x)]
  exact Heap.get?_update_self _ ho (Obj.isFreed_of_fields (Obj.data_mapFields hd _))
end
end Xc

namespace Xc
open PySem PySem.W PySem.Builtin PySem.Builtin.ObjectAttr
/-! ### an attribute set on an error that has no dict yet -/
section
variable {prog : Program} {w : World} {A : Around} {E : Value → Shared → Prop} {s : Shared} {h : Heap} {g : Array GenState} {d : Drawn} {t : Nat} {os : OsState} {x C : Addr} {ox : Obj} {vs : Array Value} {name : Str} {v : Value}
abbrev noRows : Obj := { cls := .type "dict", data := .dict #[] }
/-- the heap where x has got a dict, the next new thing, with nothing in it -/
abbrev hung (h : Heap) (x : Addr) : Heap := (h.push noRows).update x fun o => { o with dict := some h.objs.size }
/-- what stands behind a store into an error that had no dict yet -/
def Stored (h h' : Heap) (x : Addr) (ox : Obj) (name : Str) (v : Value) : Prop :=
  h'.get? x = some { ox with dict := some h.objs.size } ∧ h'.Ns1 h.objs.size (fun y => if y = name then some v else none) ∧ (∀ b o, b ≠ x → h.get? b = some o → h'.get? b = some o)
end
section
variable {prog : Program} {w : World} {A : Around} {E : Value → Shared → Prop} {h : Heap} {g : Array GenState} {d : Drawn} {t : Nat} {os : OsState} {x C N : Addr} {ox : Obj} {vs : Array Value} {name : Str} {v : Value} {own : List Addr}
variable {nm q : Str} {bs bm bmB : List Value} {sn : List Str} {sub : List Value} {ab : Bool} {col : Option Bool} {dd : Option Addr} {k0 k1 k2 k3 k5 : Option Value} {B newId sa owner : String}
end
end Xc

namespace Xc
open PySem PySem.W
/-- the body of an error's __init__: super().__init__(f'..{x}'), self.fld = x -/
abbrev initBody (txt slf prm fld : Str) (p0 p1 p2 p3 p4 p5 p6 p7 p8 p9 pa pb pc : Pos) (k : Nat) : List Stmt :=
  [.Expr (.Call (.Attribute (.Call (.Name "super" p0) [] [] p1) "__init__" p2) [.JoinedStr [.Constant (.str txt) k p3, .FormattedValue (.Name prm p4) (-1) none p5] p6] [] p7) p8,
   .Assign [.Attribute (.Name slf p9) fld pa] (.Name prm pb) pc]
/-- what a value looks like within an f-string: some text, not long -/
def Fmt (v : Value) : Prop := ∀ (prog : Program) (w : World) (A : Around) (E : Value → Shared → Prop) (s : Shared) (Q : Value → Shared → Prop), (∀ y tk t', y.length ≤ 1000 → Q (.str y tk) { s with toks := t' }) → wpAny (model prog w) A (formatField v Str.empty) Q E s
section
variable {prog : Program} {w : World} {A : Around} {E : Value → Shared → Prop} {env : Env} {s : Shared}
/-- what the __init__ of an error leaves: all stands but the error, which has a dict of its own with its field -/
structure Made1 (h h' : Heap) (e C : Addr) (fld : Str) (v : Value) : Prop where
  keep : ∀ b o, b ≠ e → h.get? b = some o → h'.get? b = some o
  there : ∃ dx vs, h.objs.size ≤ dx ∧ h'.get? e = some { cls := .ref C, dict := some dx, data := .fields vs, slots := #[] } ∧ vs.size = 6 ∧ vs[1]? = some .none ∧ vs[2]? = some .none ∧ vs[3]? = some .none ∧ h'.Ns1 dx (fun y => if y = fld then some v else none)
variable {K : Frag} {C f cc cda e : Addr} {nm q : Str} {N : Addr} {bs bm : List Value} {sn : List Str} {sub : List Value} {ab : Bool} {col : Option Bool} {dd : Option Addr} {k0 k1 k2 k3 k5 : Option Value}
abbrev VE : List Value := [.type "ValueError", .type "Exception", .type "BaseException", .type "object"]
end
end Xc

namespace Xc
open PySem PySem.W
/-- an error on its way: its class, its dict, its traceback so far -/
structure Fly (h : Heap) (e : Addr) (C : Value) (dx : Option Addr) (tb : Option Addr) : Prop where
  obj : ∃ vs, h.get? e = some { cls := C, dict := dx, data := .fields vs, slots := #[] } ∧ vs.size = 6 ∧ vs[1]? = some (tb.elim .none .ref)
  tra : ∀ T, tb = some T → T ≠ e ∧ ∃ oT ts, h.get? T = some oT ∧ oT.data = .fields ts ∧ ts[3]? = some .none
/-- what is kept while an error leaves a frame -/
structure Lv (fs : List Addr) (e : Addr) (tb : Option Addr) (h h' : Heap) : Prop where
  keep : ∀ b o, h.get? b = some o → b ≠ e → tb ≠ some b → b ∉ fs → h'.get? b = some o
  slot : ∀ b o, h.get? b = some o → b ∈ fs → ∃ sl, h'.get? b = some { o with slots := sl }
section
variable {M : Model} {A : Around} {E : Value → Shared → Prop} {s : Shared} {base : Heap} {env : Env} {outer : List Env} {L e : Addr} {C : Value} {dx tb : Option Addr} {Q : Unit → Shared → Prop}
/-- the new entry of the traceback, and the flight's end -/
theorem x_entry {head : Value} {hadNext : Bool} {oe : Obj} {vs : Array Value} (hfr : A.frames = some (env :: outer)) (hl : s.heap.FunFrames base (env :: outer)) (hf : env.frame = some L) (he : s.heap.get? e = some { cls := C, dict := dx, data := .fields vs, slots := #[] }) (h6 : vs.size = 6)
    (hq : ∀ h' T, s.heap.objs.size ≤ T → Fly h' e C dx (some T) → Lv ((env :: outer).filterMap (·.frame)) e none s.heap h' → Q () { s with heap := h' }) :
    wpAny M A (do let a ← frameOf env; let pl ← entryPlaceOf L hadNext; let b ← EntryCells.newEntry head a .none (rawInt L) .none pl; setField (.ref e) 1 b) (fun _ s' => wpAny M A (setFlight (.ref e) none) Q E s') E s := by
  have hfr' : e ∉ (env :: outer).filterMap (·.frame) := fun hm => by
    obtain ⟨_, o, z, n⟩ := hl.mem hm
    rw [he] at z
    cases z
    exact n vs rfl
  refine wpAny_bind (wpAny_frameOf_fun hfr hl hf fun h1 s1 => wpAny_bind (wpAny_entryPlaceOf fun pl hpl => ?_))
  unfold EntryCells.newEntry newFields
  refine wpAny_bind (wpAny_newObj_type ?_ (hpl.sizeOk5 _ _ _ _ _))
  have hz : s.heap.objs.size = h1.objs.size := s1.1.symm
  have he1 : h1.get? e = some { cls := C, dict := dx, data := .fields vs, slots := #[] } := (s1.2.1 e hfr').trans he
  generalize hts : ([head, .ref L, .none, rawInt L, .none] ++ (if pl.isEmpty then List.replicate 6 Value.none else pl)).toArray = ts
  have h5 : 3 < ts.size := by
    rw [← hts]
    simp only [List.size_toArray, List.length_append, List.length_cons, List.length_nil]
    omega
  have he2 : (h1.push { cls := .type "traceback", dict := none, data := .fields ts }).get? e = some { cls := C, dict := dx, data := .fields vs, slots := #[] } := Heap.get?_push_of_some _ he1
  have hT2 : (h1.push { cls := .type "traceback", dict := none, data := .fields ts }).get? h1.objs.size = some { cls := .type "traceback", dict := none, data := .fields ts } := Heap.get?_push_at rfl rfl
  have up2 : ∀ b o, h1.get? b = some o → (h1.push { cls := .type "traceback", dict := none, data := .fields ts }).get? b = some o := fun b o z => Heap.get?_push_of_some _ z
  have hTe : h1.objs.size ≠ e := Nat.ne_of_gt (Heap.lt_size he1)
  refine x_setf he2 rfl (by omega) fun h3 e3 s3 => ?_
  have hT3 : h3.get? h1.objs.size = some { cls := .type "traceback", dict := none, data := .fields ts } := (s3.2 _ hTe).trans hT2
  unfold setFlight
  have g1 : (vs.setIfInBounds 1 (Value.ref h1.objs.size))[1]? = some (.ref h1.objs.size) := by simp [h6]
  refine wpAny_bind (wpAny_field e3 rfl g1 ?_)
  rw [if_pos (show (Value.ref h1.objs.size != Value.none) = true from by simp)]
  refine x_setf hT3 rfl h5 fun h4 e4 s4 => ?_
  have kp : ∀ b o, b ≠ e → h1.get? b = some o → h4.get? b = some o := fun b o nb z =>
    (s4.2 b (Nat.ne_of_lt (Heap.lt_size z))).trans ((s3.2 b nb).trans (up2 b o z))
  refine hq h4 h1.objs.size (Nat.le_of_eq hz) ⟨⟨_, (s4.2 e hTe.symm).trans e3, by simp [h6], g1⟩, fun T z => ?_⟩ ⟨fun b o z nb _ nf => kp b o nb ((s1.2.1 b nf).trans z), fun b o z hb => ?_⟩
  · cases z
    exact ⟨hTe, _, _, e4, rfl, by simp [h5]⟩
  · obtain ⟨sl, y⟩ := s1.2.2 b o z
    exact ⟨sl, kp b _ (fun q => hfr' (q ▸ hb)) y⟩
theorem x_leave (hfr : A.frames = some (env :: outer)) (hl : s.heap.FunFrames base (env :: outer)) (hf : env.frame = some L) (F : Fly s.heap e C dx tb)
    (hq : ∀ h' T, s.heap.objs.size ≤ T → Fly h' e C dx (some T) → Lv ((env :: outer).filterMap (·.frame)) e tb s.heap h' → Q () { s with heap := h' }) :
    wpAny M A (leaving env (.ref e)) Q E s := by
  obtain ⟨⟨vs, he, h6, h1⟩, ht⟩ := F
  unfold leaving noteFrame
  simp only [hf]
  refine wpAny_bind (wpAny_bind (wpAny_field he rfl h1 ?_))
  cases tb with
  | none =>
    rw [if_neg (by decide)]
    exact x_entry (oe := default) hfr hl hf he h6 hq
  | some T =>
    obtain ⟨hTe, oT, ts, hT, hd, h3⟩ := ht T rfl
    show wpAny _ _ (if (Value.ref T != Value.none) = true then _ else _) _ _ _
    rw [if_pos (show (Value.ref T != Value.none) = true from by simp)]
    refine wpAny_bind (wpAny_field hT hd h3 ?_)
    rw [if_neg (show ¬ ((Value.none == rawInt L) = true) from by simp [rawInt])]
    refine wpAny_bind (x_setf hT hd (Array.getElem?_eq_some_iff.mp h3).1 fun g1 e1 s1 => ?_)
    have nT : T ∉ (env :: outer).filterMap (·.frame) := fun hm => by
      obtain ⟨_, o, z, n⟩ := hl.mem hm
      rw [hT] at z
      cases z
      exact n ts hd
    refine x_entry (oe := default) (base := base) hfr (hl.of_keeps fun b o z nf => ⟨o, (s1.2 b fun y => by subst y; rw [hT] at z; cases z; exact nf ts hd).trans z, rfl⟩) hf ((s1.2 e hTe.symm).trans he) h6 fun h' T' z F' K' => ?_
    refine hq h' T' (by rw [← s1.1]; exact z) F' ⟨fun b o y nb nt nf => K'.keep b o ((s1.2 b fun q => nt (by rw [q])).trans y) nb (fun q => by cases q) nf, fun b o y hb => K'.slot b o ((s1.2 b fun q => nT (q ▸ hb)).trans y) hb⟩
end
end Xc

namespace Xc
open PySem PySem.W
section
variable {M : Model} {A : Around} {E : Value → Shared → Prop} {s : Shared} {env : Env}
variable {nm q : Str} {C N : Addr} {bs bm : List Value} {hdct : Bool} {sn : List Str} {sub : List Value} {ab : Bool} {col : Option Bool} {dd : Option Addr} {k0 k1 k2 k3 k5 : Option Value} {newId : String}
/-- raise of an error that was made -/
theorem x_raise {x : Sem Value} {Q : Flow → Shared → Prop} (hbase : bm.contains (.type "BaseException") = true) (hh : A.handled = none)
    (h : wpAny M A x (fun v s1 => ∃ e dx, v = .ref e ∧ s1.heap.get? C = some (excClassObj nm q C N bs bm hdct sn sub ab col dd k0 k1 k2 k3 k5 newId) ∧ Fly s1.heap e (.ref C) dx none ∧ E (.ref e) s1) E s) :
    wpAny M A (raiseStmt env (some x) none) Q E s := by
  have hcB : (Value.ref C :: bm).contains (.type "BaseException") = true := by rw [List.contains_cons, hbase, Bool.or_true]
  unfold raiseStmt
  refine wpAny_bind (L2.thn h fun v s1 h1 => ?_)
  obtain ⟨e, dx, rfl, hC, ⟨⟨vs, he, h6, hv⟩, _⟩, hE⟩ := h1
  obtain ⟨hp, g, d, tk, os⟩ := s1
  have hv' : vs[1]? = some Value.none := hv
  repeat (first | with_reducible refine wpAny_loadPart_at he ?_ | with_reducible refine wpAny_loadPart_at hC ?_ | (with_reducible refine wpAny_isSubtype_exc hC ?_; rw [hcB]) | with_reducible refine wpAny_field he rfl hv' ?_ | wp_step)
  exact wpAny_raiseNew_none hh hE
end
end Xc

namespace Xc
open PySem PySem.W PySem.Spec PyProof.Rows L2
/-- how an error lies behind a call that it leaves -/
def CXE (P : Program) (w : World) : CXT := fun outer H s E e s' => ∃ a C dx T H', e = .ref a ∧ s'.os = s.os ∧ AllBare s'.gens ∧ Un (frs outer) [] H H' s.heap s'.heap ∧ HOk P w H' s'.heap ∧ Fly s'.heap a C dx (some T) ∧ H' a = none ∧ H' T = none ∧ s.heap.objs.size ≤ a ∧ s.heap.objs.size ≤ T ∧ E C dx H'
/-- an error that stands ready reaches what this body wants of errors -/
def RX (X : Cx) (E : L2.St → XK) : Prop := ∀ (pins : List (Addr × Obj)) (σ : L2.St) (H : Hp) (s : Shared) (e : Addr) (C : Value) (dx tb : Option Addr), Inv X pins σ H s → H e = none → (∀ T, tb = some T → H T = none ∧ X.s_0.heap.objs.size ≤ T) → X.s_0.heap.objs.size ≤ e → (∀ p ∈ X.pn ++ pins, p.1 ≠ e ∧ tb ≠ some p.1) → Fly s.heap e C dx tb → E σ C dx H → X.xe (.ref e) s
section
variable {fs ex : List Addr} {H0 H : Hp} {h0 h h' : Heap} {e L : Addr} {tb : Option Addr}
theorem un_leave (u : Un fs ex H0 H h0 h) (v : Lv (L :: fs) e tb h h') (hL : h0.objs.size ≤ L) (he : h0.objs.size ≤ e) (hT : ∀ T, tb = some T → h0.objs.size ≤ T) : Un fs ex H0 H h0 h' := by
  have n1 : ∀ {b : Addr} {o : Obj}, h0.get? b = some o → b ≠ e ∧ tb ≠ some b ∧ b ≠ L := fun {b o} z => by
    refine ⟨fun y => by subst y; exact absurd (Heap.lt_size z) (Nat.not_lt.mpr he), fun y => absurd (Heap.lt_size z) (Nat.not_lt.mpr (hT b y)), fun y => by subst y; exact absurd (Heap.lt_size z) (Nat.not_lt.mpr hL)⟩
  have k1 : ∀ {b : Addr} {o u : Obj}, h0.get? b = some o → h.get? b = some u → b ∉ fs → h'.get? b = some u := fun {b o u} z y nf => by
    obtain ⟨a1, a2, a3⟩ := n1 z
    exact v.keep b u y a1 a2 fun q => by
      rcases List.mem_cons.mp q with q | q
      · exact a3 q
      · exact nf q
  refine ⟨fun b o z n nf nx => k1 z (u.keep b o z n nf nx) nf, fun b o z n hf nx => ?_, u.free, fun b o z nx => ?_, u.tups, u.frzs, u.tbls⟩
  · obtain ⟨sl, y⟩ := u.slot b o z n hf nx
    obtain ⟨sl', y'⟩ := v.slot b _ y (List.mem_cons_of_mem _ hf)
    exact ⟨sl', y'⟩
  · obtain ⟨o', y⟩ := u.there b o z nx
    by_cases hf : b ∈ fs
    · obtain ⟨sl', y'⟩ := v.slot b _ y (List.mem_cons_of_mem _ hf)
      exact ⟨_, y'⟩
    · exact ⟨_, k1 z y hf⟩
theorem hok_leave {P : Program} {w : World} {F : List Addr} (x : HOk P w H h) (v : Lv F e tb h h') (he : H e = none) (hT : ∀ T, tb = some T → H T = none) (hF : ∀ b ∈ F, H b = none) : HOk P w H h' := fun a o z => by
  have key : ∀ {b : Addr} {u : HO}, H b = some u → b ≠ e ∧ tb ≠ some b ∧ b ∉ F := fun {b u} y =>
    ⟨fun q => (by subst q; rw [he] at y; cases y), fun q => (by rw [hT b q] at y; cases y), fun q => (by rw [hF b q] at y; cases y)⟩
  refine (x a o z).stay (fun b u hb y => ?_) (fun _ q => q) fun _ _ q => q
  rcases hb with rfl | hb
  · obtain ⟨a1, a2, a3⟩ := key z
    exact v.keep b u y a1 a2 a3
  · obtain ⟨a1, a2, a3⟩ := key hb
    exact v.keep b u y a1 a2 a3
end
theorem rx_def {P : Program} {w : World} {K : PySem.W.Frag} {mg : Str → Option Value} {base : Heap} {N : List Str} {qual : Str} {scope : Scope} {f : Addr} {cd : Value} {A : Around} {outer : List Env} {s : Shared} {H : Hp} {E : XK} :
    RX (cxOf (CXE P w) P w K mg base N qual scope f cd A outer s H E) (fun _ => E) := by
  intro pins σ H1 s1 e C dx tb I he hT hn _ F hE
  show wpAny _ _ (leaving _ (.ref e)) _ _ s1
  refine x_leave I.ok.frames I.stack rfl F fun h' T hz F' v => ?_
  have hT1 : H1 T = none := I.hok.fresh hz
  have hT0 : s.heap.objs.size ≤ T := Nat.le_trans I.sz hz
  refine ⟨e, C, dx, T, H1, rfl, I.os, I.bare, ?_, ?_, F', he, hT1, hn, hT0, hE⟩
  · exact un_leave I.base v I.ok.above hn fun T z => (hT T z).2
  · exact hok_leave I.hok v he (fun T z => (hT T z).1) I.stkFree
section
variable {X : Cx} {E : L2.St → XK} {pins : List (Addr × Obj)} {σ : L2.St} {H : Hp} {s s' : Shared} {k : Nat} {f : Addr} {fd : FuncData} {ps : List Str} {sp : Sp}
/-- an error of a callee reaches it too -/
theorem x_pass (h : RX X E) {u : Value} (I : Inv X pins σ H s) (hc : CXE X.prog X.w X.stack H s (E σ) u s') : X.xe u s' := by
  obtain ⟨a, C, dx, T, H', rfl, os, bare, un, hok, F, ha, hT, na, nT, hE⟩ := hc
  have I' : Inv X pins σ H' s' := I.call' os un hok bare (ch := []) (fun b z => absurd z (by simp))
  have lt : ∀ p ∈ X.pn ++ pins, p.1 < s.heap.objs.size := fun p hp => Heap.lt_size (I.pin p hp).1
  refine h pins σ H' s' a C dx (some T) I' ha (fun T' z => by cases z; exact ⟨hT, Nat.le_trans I.sz nT⟩) (Nat.le_trans I.sz na) (fun p hp => ⟨Nat.ne_of_lt (Nat.lt_of_lt_of_le (lt p hp) na), fun z => ?_⟩) F hE
  exact absurd (Option.some.inj z).symm (Nat.ne_of_lt (Nat.lt_of_lt_of_le (lt p hp) nT))
/-- a def that may raise runs -/
theorem x_run (F : FnOk X.prog X.w X.K X.mg X.base (CXE X.prog X.w) k f fd ps sp) (hr : Room k X.A) (hb : Binds X.K fd ps []) (h : RX X E) {Q : VK} {us : List Value} {vs : List V} (I : Inv X pins σ H s) (r : Vals vs us) (hs : sp vs H Q (E σ)) :
    wpAny (model X.prog X.w) X.A (call (.ref f) us) (EP X pins σ Q) X.xe s := by
  have hl : us.length = ps.length := by rw [← r.length]; exact F.len _ _ _ _ hs
  have b : BindsTo s fd ⟨us, []⟩ (ps.zip us) := by
    have z := hb s us I.kIn (by rw [List.append_nil]; exact hl)
    rwa [List.append_nil] at z
  refine wpAny_call (codeAny_mono (F.run X.A X.stack s H ⟨us, []⟩ us vs Q (E σ) hr I.env0 b r hs) fun q s' hq => ?_)
  match q, hq with
  | .error e, hq => exact x_pass h I hq
  | .ok (.ret u), hq => exact I.after hq
  | .ok .next, hq => exact hq.elim
  | .ok .brk, hq => exact hq.elim
  | .ok .cont, hq => exact hq.elim
end
end Xc

namespace Xc
open PySem PySem.W PySem.Spec PyProof.Rows L2
/-- a class of errors that can be made with one value, which lands in a field of its own -/
def ErrMakes (K : Frag) (prog : Program) (mg : Str → Option Value) (C : Addr) (fld : Str) : Prop :=
  ∀ (w : World) (A : Around) (E : Value → Shared → Prop) (s : Shared) (v : Value) (Q : Value → Shared → Prop) (mb : Str → Option Value), K.In s.heap → s.heap.Ns mainGlobals mg → s.heap.Ns builtinsNs mb → (∀ x : Str, x ≠ "__name__" → mb x = bootBuiltins x) → s.heap.NoLimit → A.depth + 1 < recursionLimit → Fmt v →
    (∀ h' e dx t', s.heap.objs.size ≤ e → s.heap.objs.size ≤ dx → (∀ b o, s.heap.get? b = some o → h'.get? b = some o) → Fly h' e (.ref C) (some dx) none → h'.Ns1 dx (fun y => if y = fld then some v else none) → Q (.ref e) { s with heap := h', toks := t' }) →
    wpAny (model prog w) A (call (.ref C) [v]) Q E s
structure ErrCls (K : Frag) (prog : Program) (mg : Str → Option Value) (x : Str) (C : Addr) (fld : Str) : Prop where
  bound : mg x = some (.ref C)
  kp : keepIn K (.ref C) = true
  obj : ∃ nm q N bs bm hdct sn sub ab col dd k0 k1 k2 k3 k5 newId, K.lookup C = some (excClassObj nm q C N bs bm hdct sn sub ab col dd k0 k1 k2 k3 k5 newId) ∧ bm.contains (.type "BaseException") = true
  makes : ErrMakes K prog mg C fld
/-- what an error may be made of: a text, a number -/
def FmtV : V → Prop
  | .str x => x.length ≤ 1000
  | .int n => n.natAbs < 10 ^ 18
  | _ => False
def tRaise (C : Addr) (fld : Str) (E : L2.St → XK) (t : TA) : TS := fun D σ H => t σ H fun vs H1 => ∃ v : V, vs = [v] ∧ FmtV v ∧ ∀ dx, H1 dx = none → E σ (.ref C) (some dx) (upd H1 dx (.xd [(fld, v)]))
section
variable {X : Cx}
/-- f(e, ..), f a def that may raise -/
def tCallX (sp : Sp) (E : L2.St → XK) (t : TA) : TE := fun σ H Q => t σ H fun vs H1 => sp vs H1 Q (E σ)
end
end Xc

namespace Xc
open PySem PySem.W
section
variable {M : Model} {A : Around} {E : Value → Shared → Prop} {s : Shared} {base : Heap} {env : Env} {outer : List Env} {L e : Addr} {C : Value} {dx tb : Option Addr} {Q : Unit → Shared → Prop}
/-- an error is looked at where it is caught: its traceback has one entry more, its flight is at an end -/
theorem x_look (hfr : A.frames = some (env :: outer)) (hl : s.heap.FunFrames base (env :: outer)) (hf : env.frame = some L) (F : Fly s.heap e C dx tb)
    (hq : ∀ h' T, s.heap.objs.size ≤ T → Fly h' e C dx (some T) → Lv ((env :: outer).filterMap (·.frame)) e tb s.heap h' → Q () { s with heap := h' }) :
    wpAny M A (noteFrame (.ref e) env) (fun _ s' => wpAny M A (setFlight (.ref e) none) Q E s') E s := by
  obtain ⟨⟨vs, he, h6, h1⟩, ht⟩ := F
  unfold noteFrame
  simp only [hf]
  refine wpAny_bind (wpAny_field he rfl h1 ?_)
  cases tb with
  | none =>
    rw [if_neg (by decide)]
    exact x_entry (oe := default) hfr hl hf he h6 hq
  | some T =>
    obtain ⟨hTe, oT, ts, hT, hd, h3⟩ := ht T rfl
    show wpAny _ _ (if (Value.ref T != Value.none) = true then _ else _) _ _ _
    rw [if_pos (show (Value.ref T != Value.none) = true from by simp)]
    refine wpAny_bind (wpAny_field hT hd h3 ?_)
    rw [if_neg (show ¬ ((Value.none == rawInt L) = true) from by simp [rawInt])]
    refine wpAny_bind (x_setf hT hd (Array.getElem?_eq_some_iff.mp h3).1 fun g1 e1 s1 => ?_)
    have nT : T ∉ (env :: outer).filterMap (·.frame) := fun hm => by
      obtain ⟨_, o, z, n⟩ := hl.mem hm
      rw [hT] at z
      cases z
      exact n ts hd
    refine x_entry (oe := default) (base := base) hfr (hl.of_keeps fun b o z nf => ⟨o, (s1.2 b fun y => by subst y; rw [hT] at z; cases z; exact nf ts hd).trans z, rfl⟩) hf ((s1.2 e hTe.symm).trans he) h6 fun h' T' z F' K' => ?_
    refine hq h' T' (by rw [← s1.1]; exact z) F' ⟨fun b o y nb nt nf => K'.keep b o ((s1.2 b fun q => nt (by rw [q])).trans y) nb (fun q => by cases q) nf, fun b o y hb => K'.slot b o ((s1.2 b fun q => nT (q ▸ hb)).trans y) hb⟩
/-- .. and once more, its traceback alone is touched -/
theorem x_still {T : Addr} (F : Fly s.heap e C dx (some T)) (hq : ∀ h', Fly h' e C dx (some T) → (∀ b o, b ≠ T → s.heap.get? b = some o → h'.get? b = some o) → Q () { s with heap := h' }) : wpAny M A (setFlight (.ref e) none) Q E s := by
  obtain ⟨⟨vs, he, h6, h1⟩, ht⟩ := F
  obtain ⟨hTe, oT, ts, hT, hd, h3⟩ := ht T rfl
  have h1' : vs[1]? = some (.ref T) := h1
  unfold setFlight
  refine wpAny_bind (wpAny_field he rfl h1' ?_)
  rw [if_pos (show (Value.ref T != Value.none) = true from by simp)]
  have hl := (Array.getElem?_eq_some_iff.mp h3).1
  refine x_setf hT hd hl fun h' e' s' => ?_
  refine hq h' ⟨⟨vs, (s'.2 e hTe.symm).trans he, h6, h1⟩, fun T' z => ?_⟩ fun b o nb z => (s'.2 b nb).trans z
  cases z
  exact ⟨hTe, _, _, e', rfl, by simp [hl]⟩
end
section
variable {M : Model} {A : Around} {E : Value → Shared → Prop} {nm q : Str} {C0 N : Addr} {bs bm : List Value} {hdct : Bool} {sn : List Str} {sub : List Value} {ab : Bool} {col : Option Bool} {dd : Option Addr} {k0 k1 k2 k3 k5 : Option Value} {newId : String}
/-- does it fall under an own class of errors? -/
theorem x_under {K : Frag} {h : Heap} {g : Array GenState} {d : Drawn} {t : Nat} {os : OsState} {e C : Addr} {oe : Obj} {b : Bool} {Q : Bool → Shared → Prop} (X : K.In h)
    (hC : h.get? C0 = some (excClassObj nm q C0 N bs bm hdct sn sub ab col dd k0 k1 k2 k3 k5 newId)) (hbase : bm.contains (.type "BaseException") = true) (he : h.get? e = some oe) (hcls : oe.cls = .ref C)
    (hs : mroIn K C (.ref C0) = some b) (hq : Q b ⟨h, g, d, t, os⟩) : wpAny M A (excMatches (.ref e) (.ref C0)) Q E ⟨h, g, d, t, os⟩ := by
  have hcB : (Value.ref C0 :: bm).contains (.type "BaseException") = true := by rw [List.contains_cons, hbase, Bool.or_true]
  have L : ∀ M, Looks M h (isSubtype (.ref C) (.ref C0)) b := fun M => looks_mroIn X hs
  have f := tc_notTuple
  unfold excMatches
  repeat (first | (with_reducible refine wpAny_loadPart_at he ?_; rw [hcls]) | with_reducible refine wpAny_loadPart_at hC ?_ | (with_reducible refine wpAny_isSubtype_exc hC ?_; rw [hcB]) | with_reducible refine Looks.at (L _) ?_ | wp_step)
  cases b <;> (wp_walk; exact hq)
end
end Xc

namespace Xc
open PySem PySem.W PySem.Builtin.ObjectAttr
/-- what is known of a class of errors, so that its errors' attributes are looked up as usual -/
structure ErrAt (K : Frag) (C : Addr) : Prop where
  ga : findIn K (.ref C) "__getattribute__" = some (some (.builtin "BaseException.__getattribute__"))
  gt : findIn K (.ref C) "__getattr__" = some none
  base : mroIn K C (.type "BaseException") = some true
  obj : mroIn K C (.type "object") = some true
  cls : findIn K (.ref C) "__class__" = some (some (.builtin "object.__class__"))
  gs : specialIn K (.builtin "object.__class__") "__get__" = some (some (.builtin "getset_descriptor.__get__"))
  tk : takesIn K (.builtin "object.__class__") = some true
section
variable {prog : Program} {w : World} {A : Around} {E : Value → Shared → Prop} {s : Shared} {K : Frag} {x C : Addr} {ox : Obj} {od : Option Obj} {name : Str}
theorem x_gaCheck {nameV : Value} {Q : Unit → Shared → Prop} (X : K.In s.heap) (I : InstAt s.heap x ox C od) (hb : mroIn K C (.type "BaseException") = some true) (hq : Q () s) :
    wpAny (model prog w) A (checkBuiltinCall "BaseException.__getattribute__" ⟨[.ref x, nameV], []⟩) Q E s := by
  have hk : builtinKind "BaseException.__getattribute__" = some .slot := by decide +kernel
  have hsplit : splitId "BaseException.__getattribute__" = some ("BaseException", "__getattribute__") := by decide +kernel
  have ha := F.args_bexc_ga (.ref x) nameV
  have L1 : Looks (model prog w) s.heap (isInstance (.ref x) (.type "BaseException")) true := I.type.andThen (looks_mroIn X hb)
  obtain ⟨hh, g, d, t, os⟩ := s
  simp only [checkBuiltinCall, hk, hsplit]
  refine wpAny_bind (L1.at ?_)
  repeat (first | wp_step)
  exact hq
/-- the search itself -/
theorem x_gaCode {tk : Tok} {f : Found} {R : Result → Shared → Prop} (X : K.In s.heap) (I : InstAt s.heap x ox C od) (H : ErrAt K C) (hf : findObj K C od name = some f)
    (h : match f with | .value v => R (.ok (.ret v)) s | .bind g a => wpAny (model prog w) A.in1 (call g [a, .ref x, .ref C]) (fun v s' => R (.ok (.ret v)) s') (fun e s' => R (.error e) s') s | .missing => False) :
    codeAny (model prog w) A (.call (.builtin "BaseException.__getattribute__") ⟨[.ref x, .str name tk], []⟩) R s := by
  have L0 := fun M => I.type (M := M)
  have L1 := fun M => looks_find (M := M) X I hf
  refine codeAny_call_builtin F.attrBase_ValueError.ga.plain F.entry_bexc_ga (x_gaCheck X I H.base ?_)
  obtain ⟨hh, g, d, t, os⟩ := s
  unfold Builtin.«object.__getattribute__»
  refine wpAny_bind (wpAny_pure ?_)
  refine wpAny_bind (wpAny_pure ?_)
  refine wpAny_bind ((L0 _).at (wpAny_bind ((L1 _).at ?_)))
  cases f with
  | value v => exact wpAny_pure h
  | bind g a =>
    show wpAny _ _ (Builtin.ObjectAttr.bindTo g a (.ref x) (.ref C)) _ _ _
    unfold Builtin.ObjectAttr.bindTo
    exact wpAny_bind (wpAny_holding (wpAny_mono h (fun v s' z => wpAny_pure z) fun _ _ z => z))
  | missing => exact h.elim
theorem x_getBy {tk : Tok} {f : Found} {fill expr : Bool} {Q : Value → Shared → Prop} (X : K.In s.heap) (I : InstAt s.heap x ox C od) (H : ErrAt K C) (hf : findObj K C od name = some f)
    (h : match f with | .value v => handedIn v = true ∧ Q v s | .bind g a => ∃ v, handedIn v = true ∧ ∀ A', wpAny (model prog w) A' (call g [a, .ref x, .ref C]) (fun u s' => u = v ∧ Q v s') (fun _ _ => False) s | .missing => False) :
    wpAny (model prog w) A (getAttrBy (.ref x) (.str name tk) fill expr) Q E s := by
  have L0 := fun M => I.type (M := M)
  have L1 := fun M => looks_findIn (M := M) X H.ga
  have L2 := fun M => looks_findIn (M := M) X H.gt
  have f3 := F.attrBase_ValueError.ga.bind (.ref x)
  have hx2 : (Value.builtin "BaseException.__getattribute__" == Value.builtin "object.__getattribute__") = false := by decide +kernel
  have go := fun A' (R : Result → Shared → Prop) => x_gaCode (prog := prog) (w := w) (A := A') (R := R) (tk := tk) X I H hf
  obtain ⟨hh, g, d, t, os⟩ := s
  unfold getAttrBy
  refine wpAny_holding (wpAny_bind ((L0 _).at (wpAny_bind ((L1 _).at ?_))))
  show wpAny _ _ (if (onTheHeap (.ref C) && Value.builtin "BaseException.__getattribute__" == Value.builtin "object.__getattribute__") = true then _ else _) _ _ _
  rw [hx2, Bool.and_false, if_neg (by decide)]
  unfold getAttrByItsOwn hookBefore callGetattribute boundAndCalled
  rw [if_pos (show onTheHeap (.ref C) = true from rfl)]
  refine wpAny_bind ((L2 _).at (wpAny_bind (wpAny_attempt (wpAny_holding ?_))))
  rw [show (expr && onTheHeap (Value.builtin "BaseException.__getattribute__")) = false by cases expr <;> rfl]
  show wpAny _ _ (bindSpecial (.builtin "BaseException.__getattribute__") (.ref x) >>= _) _ _ _
  refine wpAny_bind (wpAny_of_eq f3 ?_)
  refine wpAny_call (go A _ ?_)
  cases f with
  | value v =>
    obtain ⟨h1, h2⟩ := h
    show wpAny _ _ (handedOut v) _ _ _
    rw [handedOut_of h1]
    exact wpAny_pure h2
  | bind g a =>
    obtain ⟨v, h1, h2⟩ := h
    refine wpAny_mono (h2 _) (fun u s' z => ?_) fun _ _ z => z.elim
    obtain ⟨rfl, z⟩ := z
    show wpAny _ _ (handedOut u) _ _ _
    rw [handedOut_of h1]
    exact wpAny_pure z
  | missing => exact h.elim
theorem x_findData {a g : Value} (hc : (clsIn K C).isSome = true) (ha : findIn K (.ref C) name = some (some a)) (hg : specialIn K a "__get__" = some (some g)) (ht : takesIn K a = some true) : findObj K C od name = some (.bind g a) := by
  obtain ⟨cd, hc⟩ := Option.isSome_iff_exists.mp hc
  unfold findObj
  rw [hc, Option.bind_some, ha, Option.bind_some]
  simp [hg, ht]
theorem ErrAt.clsIn (H : ErrAt K C) : ∃ cd, PySem.W.clsIn K C = some cd := by
  have h := H.base
  unfold mroIn at h
  cases z : PySem.W.clsIn K C with
  | none => rw [z] at h; cases h
  | some cd => exact ⟨cd, rfl⟩
theorem x_class {Q : Option Value → Shared → Prop} (X : K.In s.heap) (I : InstAt s.heap x ox C od) (H : ErrAt K C) (h : Q (some (.ref C)) { s with toks := s.toks + 1 }) : wpAny (model prog w) A (getAttr? (.ref x) "__class__") Q E s := by
  obtain ⟨cd, hcd⟩ := H.clsIn
  unfold getAttr? getAttrBy?
  refine wpAny_bind (wpAny_mkText (wpAny_bind (wpAny_attempt ?_)))
  refine x_getBy (s := { s with toks := s.toks + 1 }) (ox := ox) (od := od) X I H (x_findData (by rw [hcd]; rfl) H.cls H.gs H.tk) ⟨.ref C, rfl, fun _ => wpAny_call (class_get (s := { s with toks := s.toks + 1 }) (ox := ox) (od := od) X I H.obj ⟨rfl, ?_⟩)⟩
  exact wpAny_pure h
theorem kitx_err (H : ErrAt K C) : KitX K (.ref x) (.ref C) (fun h => ∃ ox od, InstAt h x ox C od) where
  ty := fun _ _ _ ⟨_, _, I⟩ => I.type
  it := fun _ _ X _ => by
    obtain ⟨cdD, hcD⟩ := H.clsIn
    unfold PySem.W.clsIn at hcD
    split at hcD
    · rename_i c' d' cd' sl' ho
      intro A' Q' E' s' k q
      unfold isType loadHead
      exact wpAny_bind (wpAny_loadPart (k _ _ (X _ _ ho)) (wpAny_pure q))
    · cases hcD
  ne := fun h tp dd its n sl X htp => by
    obtain ⟨cdD, hcD⟩ := H.clsIn
    refine Bool.eq_false_iff.mpr fun q => ?_
    have e : C = tp := Value.ref.inj (beq_iff_eq.mp q)
    subst e
    unfold PySem.W.clsIn at hcD
    split at hcD
    · rename_i c' d' cd' sl' ho
      have z := (X _ _ ho).symm.trans htp
      cases z
    · cases hcD
  ca := fun X ⟨_, _, I⟩ k => x_class X I H k
end
end Xc

namespace Xc
open PySem PySem.W PySem.Spec PyProof.Rows L2
section
variable {X : Cx} {pins : List (Addr × Obj)} {σ : L2.St} {H : Hp} {s : Shared} {e C : Addr} {dx tb : Option Addr}
theorem inv_caught (I : Inv X pins σ H s) (he : H e = none) (hz : X.s_0.heap.objs.size ≤ e) (hT : ∀ T, tb = some T → H T = none ∧ X.s_0.heap.objs.size ≤ T) (hp : ∀ p ∈ X.pn ++ pins, p.1 ≠ e ∧ tb ≠ some p.1)
    (F : Fly s.heap e (.ref C) dx tb) {h' : Heap} {T' : Addr} (F' : Fly h' e (.ref C) dx (some T')) (v : Lv (frs X.stack) e tb s.heap h') :
    Inv X pins σ (upd H e (.ext (Dd.ErrO e C dx))) { s with heap := h' } := by
  obtain ⟨⟨vs, hev, _, _⟩, htr⟩ := F
  obtain ⟨⟨vs', hev', _, _⟩, _⟩ := F'
  -- the changed ones are records with fields
  have fld : ∀ b ∈ e :: tb.toList, (∃ o ts, s.heap.get? b = some o ∧ o.data = .fields ts) ∧ X.s_0.heap.objs.size ≤ b ∧ H b = none ∧ ∀ p ∈ X.pn ++ pins, p.1 ≠ b := fun b hb => by
    rcases List.mem_cons.mp hb with rfl | hb
    · exact ⟨⟨_, _, hev, rfl⟩, hz, he, fun p hp' => (hp p hp').1⟩
    · cases tb with
      | none => simp at hb
      | some T =>
        have : b = T := by simpa using hb
        subst this
        obtain ⟨_, oT, ts, h1, h2, _⟩ := htr b rfl
        exact ⟨⟨oT, ts, h1, h2⟩, (hT b rfl).2, (hT b rfl).1, fun p hp' z => (hp p hp').2 (by rw [z])⟩
  have nm : ∀ {b : Addr}, b ∉ e :: tb.toList → b ≠ e ∧ tb ≠ some b := fun {b} hb => ⟨fun z => hb (by rw [z]; exact List.mem_cons_self), fun z => hb (by rw [z]; simp)⟩
  have ue : ∀ {b : Addr} {u : HO}, H b = some u → upd H e (.ext (Dd.ErrO e C dx)) b = some u := fun {b u} q => by rw [upd_ne (ne_of_none q he)]; exact q
  have kp : ∀ b o, b ∉ e :: tb.toList → s.heap.get? b = some o → ∃ sl, h'.get? b = some { o with slots := sl } := fun b o hb q => by
    by_cases hf : b ∈ frs X.stack
    · exact v.slot b o q hf
    · exact ⟨o.slots, v.keep b o q (nm hb).1 (nm hb).2 hf⟩
  have locNe : X.env.locals ∉ e :: tb.toList := fun hb => by
    obtain ⟨⟨o, ts, h1, h2⟩, _⟩ := fld _ hb
    obtain ⟨m, ⟨o', es, ep, h3, h4, _⟩, _⟩ := I.loc
    rw [h1] at h3
    cases h3
    rw [h2] at h4
    cases h4
  refine I.step (g' := s.gens) (d' := s.drawn) (t' := s.toks) (ch := e :: tb.toList) (fun b hb => ?_) (fun b o hL hf hc q n => ?_) (fun b o hL hf hc q n => kp b o hc q) (fun b o hc q n => by rw [upd_ne (nm hc).1]; exact n) (fun b o hc q => let ⟨sl, z⟩ := kp b o hc q; ⟨_, z⟩)
    (fun b xs q => ue q) (fun b o u q => ue q) (fun b ps q => ⟨#[], by rw [ue q]; simp⟩) (fun m hm => ?_) (fun b u q => ?_) I.bare
  · obtain ⟨⟨o, ts, h1, h2⟩, h3, h4, h5⟩ := fld b hb
    refine ⟨.inr h3, fun z => locNe (z ▸ hb), fun y c hc z => ?_, h5⟩
    subst z
    obtain ⟨w', o', h6, h7⟩ := I.cell y c hc
    rw [h1] at h6
    cases h6
    rw [h2] at h7
    cases h7
  · refine v.keep b o q (nm hc).1 (nm hc).2 fun z => ?_
    rcases List.mem_cons.mp (I.stkSub b z) with y | y
    · exact hL y
    · exact hf y
  · obtain ⟨o, es, ep, h1, h2, h3⟩ := hm
    obtain ⟨sl, h4⟩ := kp _ o locNe h1
    exact ⟨_, es, ep, h4, h2, h3⟩
  · by_cases hb : b = e
    · subst hb
      rw [upd_same] at q
      cases q
      refine ⟨⟨vs', hev'⟩, ⟨_, hev'⟩, fun h1 h2 ⟨ws, z⟩ k => ⟨ws, k _ z⟩⟩
    · rw [upd_ne hb] at q
      have ok := hok_leave I.hok v he (fun T z => (hT T z).1) I.stkFree b u q
      exact ok.stay (fun _ _ _ z => z) (fun _ z => ue z) fun _ _ z => ue z
/-- the traceback of an error at rest is touched -/
theorem inv_still {T : Addr} {h' : Heap} (I : Inv X pins σ H s) (hT : H T = none) (hz : X.s_0.heap.objs.size ≤ T) (hp : ∀ p ∈ X.pn ++ pins, p.1 ≠ T) (hd : ∃ o ts, s.heap.get? T = some o ∧ o.data = .fields ts) (k : ∀ b o, b ≠ T → s.heap.get? b = some o → h'.get? b = some o) : Inv X pins σ H { s with heap := h' } := by
  obtain ⟨o, ts, h1, h2⟩ := hd
  refine I.turned (t' := s.toks) k hT (fun z => ?_) (.inr hz) (fun y c hc z => ?_) hp
  · obtain ⟨m, ⟨o', es, ep, h3, h4, _⟩, _⟩ := I.loc
    rw [← z, h1] at h3
    cases h3
    rw [h2] at h4
    cases h4
  · subst z
    obtain ⟨w', o', h6, h7⟩ := I.cell y c hc
    rw [h1] at h6
    cases h6
    rw [h2] at h7
    cases h7
/-- a name of an except clause goes, behind its suite -/
theorem x_goes {M : Model} {A : Around} {E : Value → Shared → Prop} {n : Str} {i : Nat} {pos : Pos} {Q : Unit → Shared → Prop} (I : Inv X pins σ H s) (hN : X.N.Nodup) (hi : X.N[i]? = some n) (hl : X.env.kindOf n = some .local)
    (h : ∀ s', Inv X pins (σ.set i none) H s' → Q () s') : wpAny M A (do bindName X.env n .none; unbindBehindTheSuite X.env n pos) Q E s := by
  obtain ⟨m, hn, hv⟩ := id I.loc
  have hcls : (X.env.scope.kind == .class || (X.env.scope.kind == .module && X.env.locals != X.env.globals)) = false := by rw [I.ok.kind]; rfl
  refine wpAny_nameGoes_keeps hl hn hcls fun h' v hn' hs => h _ ?_
  have ne : ∀ b o, X.s_0.heap.get? b = some o → b ≠ X.env.locals := fun b o q => Nat.ne_of_lt (Nat.lt_of_lt_of_le (Heap.lt_size q) I.ok.above)
  have nH : ∀ b u, H b = some u → b ≠ X.env.locals := fun b u q z => by rw [z, I.free] at q; cases q
  refine ⟨I.ok, I.os, I.bare, ⟨fun b o q n hb hx => (hs.2 b (ne b o q)).trans (I.base.keep b o q n hb hx), fun b o q n hb hx => ?_, I.base.free, fun b o q hx => ?_, I.base.tups, I.base.frzs, I.base.tbls⟩, ⟨_, hn', fun j y v' e1 e2 e3 => ?_⟩, fun y c hc => ?_, I.free, I.freeC, fun p hp => ?_, fun b u q => ?_, by rw [List.length_set]; exact I.len⟩
  · obtain ⟨sl, z⟩ := I.base.slot b o q n hb hx
    exact ⟨sl, (hs.2 b (ne b o q)).trans z⟩
  · obtain ⟨o', z⟩ := I.base.there b o q hx
    exact ⟨o', (hs.2 b (ne b o q)).trans z⟩
  · have hj : i ≠ j := fun z => by
      subst z
      by_cases hl : i < σ.length
      · rw [List.getElem?_set_self hl] at e2; cases e2
      · rw [List.getElem?_eq_none (by simpa using hl)] at e2; cases e2
    rw [List.getElem?_set_ne hj] at e2
    obtain ⟨u, r, l⟩ := hv j y v' e1 e2 e3
    refine ⟨u, r, ?_⟩
    rcases l with ⟨k, z⟩ | ⟨k, c, z, y'⟩
    · have hy : y ≠ n := fun z => hj (nodup_ix hN hi (z ▸ e1))
      exact .inl ⟨k, by simp [hy, z]⟩
    · exact .inr ⟨k, c, z, y'.sameBut hs (I.cne y c z)⟩
  · obtain ⟨w', z⟩ := I.cell y c hc
    exact ⟨w', z.sameBut hs (I.cne y c hc)⟩
  · obtain ⟨z, n1, n2, n3, n4⟩ := I.pin p hp
    exact ⟨(hs.2 p.1 n2).trans z, n1, n2, n3, n4⟩
  · refine (I.hok b u q).stay (fun c w' hc z => (hs.2 c ?_).trans z) (fun _ z => z) fun _ _ z => z
    rcases hc with rfl | hc
    · exact nH _ _ q
    · exact nH _ _ hc
/-- the context of an except clause's suite -/
abbrev _root_.L2.Cx.suite (X : Cx) (e : Addr) : Cx := { X with A := X.A.mark (some (.ref e)), calm := false, xe := fun _ _ => False }
theorem inv_suite (I : Inv X pins σ H s) (e : Addr) : Inv (X.suite e) pins σ H s :=
  have ok := I.ok
  ⟨⟨ok.mod, ok.kind, ok.glob, ok.blt, ok.above, ok.inj, ok.has, ok.cab, (fun z => by cases z), ok.frames, ok.stk, ok.exf, ok.bs, ok.bsz, ok.noex, ok.exfs, ok.funs, ok.frf⟩, I.os, I.bare, I.base, I.loc, I.cell, I.free, I.freeC, I.pin, I.hok, I.len⟩
theorem inv_unsuite {σ' : L2.St} {H' : Hp} {s' : Shared} (ok : X.Ok) (I : Inv (X.suite e) pins σ' H' s') : Inv X pins σ' H' s' := ⟨ok, I.os, I.bare, I.base, I.loc, I.cell, I.free, I.freeC, I.pin, I.hok, I.len⟩
/-- the ends behind a clause's suite: its name is gone -/
def goneE (i : Nat) (D : L2.Ends) : L2.Ends := { nx := fun σ H => D.nx (σ.set i none) H, rt := D.rt, bk := fun σ H => D.bk (σ.set i none) H, ct := fun σ H => D.ct (σ.set i none) H }
variable {nm q : Str} {C0 N : Addr} {bs bm : List Value} {hdct : Bool} {sn : List Str} {sub : List Value} {ab : Bool} {col : Option Bool} {dd : Option Addr} {k0 k1 k2 k3 k5 : Option Value} {newId : String}
/-- an error is caught under a name -/
theorem x_handle {n x : Str} {i : Nat} {np pos : Pos} {b₀ : Stmt} {su : List Stmt} {ts : TS} {D : L2.Ends} {E : Value → Shared → Prop} (I : Inv X pins σ H s) (he : H e = none) (hz : X.s_0.heap.objs.size ≤ e) (hT : ∀ T, tb = some T → H T = none ∧ X.s_0.heap.objs.size ≤ T) (hp : ∀ p ∈ X.pn ++ pins, p.1 ≠ e ∧ tb ≠ some p.1)
    (F : Fly s.heap e (.ref C) dx tb) (hst : X.stack = X.env :: X.outer) (hfr : X.env.frame = some X.env.locals) (hx : Gl X x) (hm : X.mg x = some (.ref C0)) (hC : X.K.lookup C0 = some (excClassObj nm q C0 N bs bm hdct sn sub ab col dd k0 k1 k2 k3 k5 newId)) (hbase : bm.contains (.type "BaseException") = true) (hs : mroIn X.K C (.ref C0) = some true)
    (hN : X.N.Nodup) (hi : X.N[i]? = some n) (hloc : X.env.scope.names.lookup n = some .local) (hsu : ∀ e, PSs (X.suite e) (b₀ :: su) ts) (h : ts (goneE i D) (σ.set i (some (.ref e))) (upd H e (.ext (Dd.ErrO e C dx)))) (hdb : (x == ("__debug__" : Str)) = false) :
    wpAny (model X.prog X.w) X.A (noteFrame (.ref e) X.env) (fun _ s2 => wpAny (model X.prog X.w) X.A (setFlight (.ref e) none) (fun _ s3 => wpAny (model X.prog X.w) X.A (handleBy (.ref e) X.env [.ExceptHandler (some (.Name x np)) (some n) (b₀ :: su) pos]) (SP X pins D) E s3) E s2) E s := by
  refine x_look (base := X.base) (outer := X.outer) (L := X.env.locals) (by rw [I.ok.frames, hst]) (hst ▸ I.stack) hfr F fun h' T hTz F' v => ?_
  have v' : Lv (frs X.stack) e tb s.heap h' := by rw [hst]; exact v
  have I1 := inv_caught I he hz hT hp F F' v'
  have I2 := inv_suite I1 e
  refine wpAny_handleBy_cons (codeAny_handlers_test (ld_glob (X := X.suite e) I2 hx hm ?_ hdb)) (by intro q; cases q)
  obtain ⟨⟨vs, he', _, _⟩, htr⟩ := id F'
  refine x_under (K := X.K) (oe := { cls := .ref C, dict := dx, data := .fields vs, slots := #[] }) I2.kIn (I2.kIn _ _ hC) hbase he' rfl hs ?_
  refine codeAny_handlers_suite_as (x_still (s := { s with heap := h' }) F' fun h2 F2 k2 => ?_)
  have eT : e ≠ T := Nat.ne_of_lt (Nat.lt_of_lt_of_le (by obtain ⟨⟨_, z, _⟩, _⟩ := F; exact Heap.lt_size z) hTz)
  obtain ⟨_, oT, tsT, hT1, hT2, _⟩ := htr T rfl
  have I3 : Inv (X.suite e) pins σ (upd H e (.ext (Dd.ErrO e C dx))) { s with heap := h2 } := by
    refine inv_still (s := { s with heap := h' }) I2 (T := T) (by rw [upd_ne (Ne.symm eT)]; exact I.hok.fresh hTz) (Nat.le_trans I.sz hTz) (fun p hp' => Nat.ne_of_lt (Nat.lt_of_lt_of_le (Heap.lt_size (I.pin p hp').1) hTz)) ⟨oT, tsT, hT1, hT2⟩ k2
  refine store_ok (X := X.suite e) I3 hN hi (.inl hloc) (v := .ref e) rfl (fun s4 I4 => ?_) (.inr hloc)
  refine wpAny_mono (hsu e pins s4 _ _ _ I4 h) (fun f s5 hf => ?_) fun _ _ z => z.elim
  cases f with
  | next => obtain ⟨σ', H', J, q'⟩ := hf; exact x_goes (inv_unsuite I.ok J) hN hi hloc fun s6 J6 => ⟨_, H', J6, q'⟩
  | brk => obtain ⟨σ', H', J, q'⟩ := hf; exact x_goes (inv_unsuite I.ok J) hN hi hloc fun s6 J6 => ⟨_, H', J6, q'⟩
  | cont => obtain ⟨σ', H', J, q'⟩ := hf; exact x_goes (inv_unsuite I.ok J) hN hi hloc fun s6 J6 => ⟨_, H', J6, q'⟩
  | ret u => obtain ⟨w', σ', H', J, r, q'⟩ := hf; exact x_goes (inv_unsuite I.ok J) hN hi hloc fun s6 J6 => ⟨w', _, H', J6, r, q'⟩
end
end Xc

namespace Dd
open PySem L2 Pk Xc
/-! ### errors over data -/
def XOk (K : PySem.W.Frag) (F : Hp) (x : Ex) (C : Value) (dx : Option Addr) : Prop := C = .ref x.cls ∧ ((dx = none ∧ x.fs = []) ∨ ∃ d fs, dx = some d ∧ F d = some (.xd fs) ∧ RpK K F (keyed fs) x.fs)
/-- what is wanted of an error, by the names' data -/
def upX (c : Dc) (kx : List Sl → DX) : L2.St → XK := fun σ C dx H => ∃ F A b x, R c F σ H A b ∧ kx A x b ∧ XOk c.K F x C dx
theorem RX.up {X : Cx} {E E' : L2.St → XK} (h : RX X E) (i : ∀ σ C dx H, E' σ C dx H → E σ C dx H) : RX X E' := fun pins σ H s e C dx tb I he hT hz hp F hE => h pins σ H s e C dx tb I he hT hz hp F (i σ C dx H hE)
/-- a def's promise, where errors may leave it -/
def spDx (K : PySem.W.Frag) (ds : DSp) : Sp := fun vs H Q E => ∃ G F args b k kx, ArOk (atCall K G F H) F H vs args ∧ Sub F (off G H) ∧ gst K G F H b ∧ ds args b k kx ∧
  (∀ r b' v F' H', k r b' → Ext (atCall K G F H) F H F' H' → gst K G F' H' b' → Sub F' (off G H') → RtOk (atCall K G F H) F' H' v r → Q v H') ∧
  ∀ x b' F' H' C dx, kx x b' → Ext (atCall K G F H) F H F' H' → gst K G F' H' b' → Sub F' (off G H') → XOk K F' x C dx → E C dx H'
def dCallX (ds : DSp) (kx : List Sl → DX) (da : DA) : DE := fun A b k => da A b fun rs b1 => noO rs = true ∧ ds (rs.map toSl) b1 k (kx A)
section
variable {X : Cx} {c : Dc} {kx : List Sl → DX}
/-! ### raise -/
def FmtD : D → Prop
  | .str x => x.length ≤ 1000
  | .int n => n.natAbs < 10 ^ 18
  | _ => False
theorem FmtD.v {K : PySem.W.Frag} {F : Hp} {v : V} {d : D} (r : Rp K F v d) (h : FmtD d) : FmtV v := by
  cases r with
  | str x => exact h
  | int n => exact h
  | _ => exact h.elim
def dRaise (C : Addr) (fld : Str) (kx : List Sl → DX) (da : DA) : DS := fun _ A b => da A b fun rs b1 => ∃ d, rs = [.s d] ∧ FmtD d ∧ kx A ⟨C, [(.inr fld, d)]⟩ b1
/-! ### a def -/
theorem fnDx {P : Program} {w : World} {K : PySem.W.Frag} {mg : Str → Option Value} {base : Heap} {x qual : Str} {st : Stmt} {f : Addr} {fd : FuncData} {N ps : List Str} {k : Nat} {ds : DSp} (Fn : Fun K x qual st f fd) (S : FnScope N ps (defScope st)) (len : ∀ args b k kx, ds args b k kx → args.length = ps.length)
    (hbody : ∀ (cdv : Value) (A : Around) (outer : List Env) (s : Shared) (H : Hp) (E : XK) (c : Dc) (kx : DX), c.K = K → Room k (A.deeper (PyProof.Rows.envOfC qual (defScope st) s.heap.objs.size f cdv)) → RX (cxOf (CXE P w) P w K mg base N qual (defScope st) f cdv A outer s H E) (upX c fun _ => kx) →
      ∃ dS, PSsd (cxOf (CXE P w) P w K mg base N qual (defScope st) f cdv A outer s H E) c (defBody st) dS ∧ ∀ args b k, ds args b k kx → dS { nx := fun _ b' => k (.s .non) b', rt := k } (startS N.length args) b) : FnOk P w K mg base (CXE P w) (k + 1) f fd ps (spDx K ds) := by
  obtain ⟨oc, od, kV, doc, pm, an, cdv, ct, osl, rfl, lk, hcd⟩ := Fn.ex
  refine fn_of lk hcd S (fun vs H Q E h => ?_) fun A outer s H vs Q E hr h => ?_
  · obtain ⟨G, F, args, b, k, kx, ha, _, _, hd, _⟩ := h
    rw [ha.length]
    exact len _ _ _ _ hd
  · obtain ⟨G, F, args, b, k, kx, ha, sb, gs, hd, hq, hqx⟩ := h
    have hx : RX (cxOf (CXE P w) P w K mg base N qual (defScope st) f cdv A outer s H E) (upX (atCall K G F H) fun _ => kx) :=
      RX.up rx_def fun σ C dx H' ⟨F', A', b', x', r', h', ok⟩ => hqx x' b' F' H' C dx h' ⟨r'.f0, r'.bsub, r'.n0⟩ r'.st r'.sub ok
    obtain ⟨dS, ⟨t, h1, l1⟩, h2⟩ := hbody cdv A outer s H E (atCall K G F H) kx rfl hr hx
    refine ⟨t, h1, l1 F _ H _ b _ { nx := fun _ b' => k (.s .non) b', rt := k } (start_ok ha sb gs) ⟨?_, ?_, fun _ _ _ _ _ _ _ z => z.elim, fun _ _ _ _ _ _ _ z => z.elim⟩ (h2 args b k hd)⟩
    · exact fun F' σ' H' A' b' m r' hk => hq _ _ _ _ _ hk ⟨m, r'.bsub, r'.n0⟩ r'.st r'.sub Rp.non
    · exact fun F' σ' H' A' b' v r m r' ok hk => hq _ _ _ _ _ hk ⟨m, r'.bsub, r'.n0⟩ r'.st r'.sub ok
/-! ### try -/
abbrev _root_.L2.Cx.tried (X : Cx) (pn : List (Addr × Obj)) (xe : Value → Shared → Prop) : Cx := { X with pn := pn, xe := xe }
theorem ok_tried {pn : List (Addr × Obj)} {xe : Value → Shared → Prop} (ok : X.Ok) : (X.tried pn xe).Ok :=
  ⟨ok.mod, ok.kind, ok.glob, ok.blt, ok.above, ok.inj, ok.has, ok.cab, ok.hd, ok.frames, ok.stk, ok.exf, ok.bs, ok.bsz, ok.noex, ok.exfs, ok.funs, ok.frf⟩
section
variable {pins pins' : List (Addr × Obj)} {σ : L2.St} {H : Hp} {s : Shared} {xe : Value → Shared → Prop}
theorem inv_tried (I : Inv X pins σ H s) : Inv (X.tried (X.pn ++ pins) xe) [] σ H s := ⟨ok_tried I.ok, I.os, I.bare, I.base, I.loc, I.cell, I.free, I.freeC, fun p hp => I.pin p (by simpa using hp), I.hok, I.len⟩
theorem inv_untried (ok : X.Ok) (I : Inv (X.tried (X.pn ++ pins) xe) pins' σ H s) : Inv X pins σ H s := ⟨ok, I.os, I.bare, I.base, I.loc, I.cell, I.free, I.freeC, fun p hp => I.pin p (List.mem_append_left _ hp), I.hok, I.len⟩
end
def upXs (c : Dc) (dS : DS) : TS := fun D σ H => ∃ F A b E, R c F σ H A b ∧ EOk c F D E ∧ dS E A b
theorem PSsd.upXs {st : List Stmt} {dS : DS} (h : PSsd X c st dS) : PSs X st (upXs c dS) := by
  obtain ⟨t, h1, l1⟩ := h
  rintro pins s σ H D I ⟨F, A, b, E, rr, eo, hd⟩
  exact h1 pins s σ H D I (l1 F σ H A b D E rr eo hd)
def goneD (i : Nat) (E : DEnds) : DEnds := { nx := fun A b => E.nx (A.set i .no) b, rt := E.rt, bk := fun A b => E.bk (A.set i .no) b, ct := fun A b => E.ct (A.set i .no) b }
theorem EOk.gone {F : Hp} {D : L2.Ends} {E : DEnds} {i : Nat} (e : EOk c F D E) : EOk c F (goneE i D) (goneD i E) :=
  ⟨fun F' σ H A b m r h => e.nx F' _ H _ b m r.wiped h, fun F' σ H A b v r m rr ok h => e.rt F' σ H A b v r m rr ok h, fun F' σ H A b m r h => e.bk F' _ H _ b m r.wiped h, fun F' σ H A b m r h => e.ct F' _ H _ b m r.wiped h⟩
/-- the same def, from here on -/
def from_ (c : Dc) (F : Hp) : Dc := { c with F0 := F }
theorem R.from_ {F : Hp} {σ : L2.St} {H : Hp} {A : List Sl} {b : Nat} (r : R c F σ H A b) : R (Dd.from_ c F) F σ H A b :=
  ⟨r.sub, r.bsub, fun _ _ h => h, fun _ _ h => .inl h, r.st, fun i s h => by have q := r.sl i s h; cases s <;> exact q, r.ds, r.len⟩
theorem R.back {F0 F : Hp} {σ0 σ : L2.St} {H0 H : Hp} {A0 A : List Sl} {b0 b : Nat} (r0 : R c F0 σ0 H0 A0 b0) (r : R (Dd.from_ c F0) F σ H A b) : R c F σ H A b :=
  ⟨r.sub, r.bsub, fun a o h => r.f0 a o (r0.f0 a o h), fun a o h => by
    rcases r.n0 a o h with q | q
    · exact r0.n0 a o q
    · exact .inr q, r.st, fun i s h => by have q := r.sl i s h; cases s <;> exact q, r.ds, r.len⟩
/-- a class that an except clause names -/
structure ErrTop (K : PySem.W.Frag) (mg : Str → Option Value) (x : Str) (C : Addr) : Prop where
  bound : mg x = some (.ref C)
  obj : ∃ nm q N bs bm hdct sn sub ab col dd k0 k1 k2 k3 k5 newId, K.lookup C = some (excClassObj nm q C N bs bm hdct sn sub ab col dd k0 k1 k2 k3 k5 newId) ∧ bm.contains (.type "BaseException") = true
def dTry (K : PySem.W.Frag) (C0 : Addr) (i : Nat) (tb : (List Sl → DX) → DS) (th : DS) : DS := fun E A b => tb (fun A' x b' => PySem.W.mroIn K x.cls (.ref C0) = some true ∧ th (goneD i E) (A'.set i (.val (.er x.cls x.fs))) b') E A b
theorem rp_caught {F H : Hp} {σ : L2.St} {A : List Sl} {b : Nat} {e : Addr} {x : Ex} {dx : Option Addr} (r : R c F σ H A b) (he : H e = none) (ok : XOk c.K F x (.ref x.cls) dx) : Rp c.K (upd F e (.ext (ErrO e x.cls dx))) (.ref e) (.er x.cls x.fs) := by
  have m := (r.allocF (o := .ext (ErrO e x.cls dx)) he).1.f
  rcases ok.2 with ⟨rfl, h⟩ | ⟨d, fs, rfl, h1, h2⟩
  · rw [h]; exact .er0 upd_same
  · exact .er upd_same (m _ _ h1) (h2.mono m)
theorem sp_untried {pins : List (Addr × Obj)} {xe : Value → Shared → Prop} {D : L2.Ends} {f : Flow} {s' : Shared} (ok : X.Ok) (h : SP (X.tried (X.pn ++ pins) xe) [] D f s') : SP X pins D f s' := by
  cases f with
  | next => obtain ⟨σ', H', J, q⟩ := h; exact ⟨σ', H', inv_untried ok J, q⟩
  | brk => obtain ⟨σ', H', J, q⟩ := h; exact ⟨σ', H', inv_untried ok J, q⟩
  | cont => obtain ⟨σ', H', J, q⟩ := h; exact ⟨σ', H', inv_untried ok J, q⟩
  | ret u => obtain ⟨v, σ', H', J, r, q⟩ := h; exact ⟨v, σ', H', inv_untried ok J, r, q⟩
theorem EOk.from_ {F : Hp} {σ0 : L2.St} {H0 : Hp} {A0 : List Sl} {b0 : Nat} {D : L2.Ends} {E : DEnds} (r0 : R c F σ0 H0 A0 b0) (e : EOk c F D E) : EOk (Dd.from_ c F) F D E :=
  ⟨fun F' σ H A b m r h => e.nx F' σ H A b m (r0.back r) h, fun F' σ H A b v r m rr ok h => e.rt F' σ H A b v r m (r0.back rr) (by cases r <;> exact ok) h, fun F' σ H A b m r h => e.bk F' σ H A b m (r0.back r) h, fun F' σ H A b m r h => e.ct F' σ H A b m (r0.back r) h⟩
theorem s_try {C0 : Addr} {body su : List Stmt} {b₀ : Stmt} {x n : Str} {i : Nat} {np hp pos : Pos} {tb : (List Sl → DX) → DS} {th : DS} (hst : X.stack = X.env :: X.outer) (hfr : X.env.frame = some X.env.locals) (hK : c.K = X.K) (hg : Gl X x) (T : ErrTop X.K X.mg x C0) (hN : X.N.Nodup) (hi : X.N[i]? = some n) (hloc : X.env.scope.names.lookup n = some .local)
    (hb : ∀ (c' : Dc) (pn : List (Addr × Obj)) (xe : Value → Shared → Prop) (kx : List Sl → DX), c'.K = X.K → RX (X.tried pn xe) (upX c' kx) → PassesOwn (model X.prog X.w) X.A X.env xe → PSsd (X.tried pn xe) c' body (tb kx))
    (hs : ∀ e, PSsd (X.suite e) c (b₀ :: su) th) (hdb : (x == ("__debug__" : Str)) = false := by decide) :
    PSd X c (.Try body [.ExceptHandler (some (.Name x np)) (some n) (b₀ :: su) hp] [] [] pos) (dTry X.K C0 i tb th) := by
  refine ⟨upXs c (dTry X.K C0 i tb th), ?_, fun F σ H A b D E rr eo h => ⟨F, A, b, E, rr, eo, h⟩⟩
  rintro pins s σ H D I ⟨F, A, b, E, rr, eo, h⟩
  obtain ⟨nm, q, N, bs, bm, hdct, sn, sub, ab, col, dd, k0, k1, k2, k3, k5, newId, hC, hbase⟩ := T.obj
  have go : ∀ xe : Value → Shared → Prop, xe = (fun u s1 => wpAny (model X.prog X.w) X.A (noteFrame u X.env) (fun _ s2 => wpAny (model X.prog X.w) X.A (setFlight u none) (fun _ s3 => wpAny (model X.prog X.w) X.A (handleBy u X.env [.ExceptHandler (some (.Name x np)) (some n) (b₀ :: su) hp]) (SP X pins D) X.xe s3) X.xe s2) X.xe s1) → wpAny (model X.prog X.w) X.A (execs body X.env) (SP (X.tried (X.pn ++ pins) xe) [] D) xe s := by
    intro xe hxe
    have hRX : RX (X.tried (X.pn ++ pins) xe) (upX (from_ c F) fun A' x b' => PySem.W.mroIn X.K x.cls (.ref C0) = some true ∧ th (goneD i E) (A'.set i (.val (.er x.cls x.fs))) b') := by
      rintro pins' σ' H' s' e C dx tb' I' he hT hz hp' Fl ⟨F', A', b', x', r', ⟨hsub, h'⟩, ok⟩
      obtain ⟨rfl, ok2⟩ := ok
      have rc := rr.back r'
      rw [hxe]
      refine x_handle (inv_untried I.ok I') he hz hT (fun p z => hp' p (List.mem_append_left _ z)) Fl hst hfr hg T.bound hC hbase hsub hN hi hloc (fun e => (hs e).upXs) ?_ hdb
      have al := rc.allocF (o := .ext (ErrO e x'.cls dx)) he
      refine ⟨_, _, b', _, al.2.put (i := i) (v := .ref e) (s := .val (.er x'.cls x'.fs)) ⟨_, rfl, rp_caught rc he ⟨rfl, ok2⟩⟩ (fun xs z => by cases z), (eo.up fun a o z => al.1.f a o (r'.f0 a o z)).gone, h'⟩
    obtain ⟨t, h1, l1⟩ := hb (from_ c F) (X.pn ++ pins) xe _ hK hRX (by rw [hxe]; exact PassesOwn.looking)
    exact h1 [] s σ H D (inv_tried I) (l1 F σ H A b D E rr.from_ (eo.from_ rr) h)
  refine wpAny_Try_except (wpAny_mono (go _ rfl) (fun f s1 hf => ?_) fun _ _ z => z)
  have hf' := sp_untried I.ok hf
  cases f with
  | next => exact wpAny_pure hf'
  | brk => exact hf'
  | cont => exact hf'
  | ret u => exact hf'
def dTry0 (K : PySem.W.Frag) (C0 : Addr) (tb : (List Sl → DX) → DS) (th : DS) : DS := fun E A b => tb (fun A' x b' => PySem.W.mroIn K x.cls (.ref C0) = some true ∧ th E A' b') E A b
end
end Dd

namespace Dd
open PySem L2 Pk Xc
/-! ### marks put away, and set again -/
def unm (H : Hp) : Hp := fun a => match H a with
  | some (.mk u) => some u
  | x => x
def rem (H H' : Hp) : Hp := fun a => match H a with
  | some (.mk _) => (H' a).map HO.mk
  | _ => H' a
/-- what was marked is there still, a thing that may change -/
def Kept (H H' : Hp) : Prop := ∀ a u, H a = some (.mk u) → ∃ u', H' a = some u' ∧ HO.mut u' = true
theorem unm_mk {H : Hp} {a : Addr} {u : HO} (h : H a = some (.mk u)) : unm H a = some u := by unfold unm; rw [h]
theorem unm_nm {H : Hp} {a : Addr} (h : ∀ u, H a ≠ some (.mk u)) : unm H a = H a := by
  unfold unm
  split
  · rename_i u e; exact absurd e (h u)
  · rfl
theorem unm_some {H : Hp} {a : Addr} {o : HO} (h : H a = some o) (n : NM o) : unm H a = some o := by
  rw [unm_nm fun u z => by rw [h] at z; cases z; exact n]; exact h
theorem unm_none {H : Hp} {a : Addr} (h : H a = none) : unm H a = none := by rw [unm_nm fun u z => by rw [h] at z; cases z]; exact h
theorem unm_is {H : Hp} {a : Addr} {o : HO} (h : unm H a = some o) : H a = some (.mk o) ∨ (H a = some o ∧ ∀ u, H a ≠ some (.mk u)) := by
  by_cases z : ∃ u, H a = some (.mk u)
  · obtain ⟨u, e⟩ := z; rw [unm_mk e] at h; cases h; exact .inl e
  · have z' : ∀ u, H a ≠ some (.mk u) := fun u e => z ⟨u, e⟩
    rw [unm_nm z'] at h
    exact .inr ⟨h, z'⟩
theorem rem_mk {H H' : Hp} {a : Addr} {u u' : HO} (h : H a = some (.mk u)) (h' : H' a = some u') : rem H H' a = some (.mk u') := by unfold rem; rw [h]; show (H' a).map _ = _; rw [h']; rfl
theorem rem_nm {H H' : Hp} {a : Addr} (h : ∀ u, H a ≠ some (.mk u)) : rem H H' a = H' a := by
  unfold rem
  split
  · rename_i u e; exact absurd e (h u)
  · rfl
theorem nmk {H : Hp} {a : Addr} {o : HO} (h : H a = some o) (n : NM o) : ∀ u, H a ≠ some (.mk u) := fun u z => by rw [h] at z; cases z; exact n
theorem nmk0 {H : Hp} {a : Addr} (h : H a = none) : ∀ u, H a ≠ some (.mk u) := fun u z => by rw [h] at z; cases z
theorem mut_nm {u : HO} (h : HO.mut u = true) : NM u := by cases u <;> first | trivial | (cases h)
section
variable {P : Program} {w : World} {H H' : Hp} {h h' : Heap}
theorem hok_unm (x : HOk P w H h) : HOk P w (unm H) h := fun a o e => by
  have ho : ∀ b, H b = some (.own a) → unm H b = some (.own a) := fun b z => unm_some z trivial
  have ht : ∀ b xs, H b = some (.tup xs) → unm H b = some (.tup xs) := fun b xs z => unm_some z trivial
  rcases unm_is e with e | ⟨e, _⟩
  · exact (x a _ e).2.stay (fun _ _ _ q => q) ho ht
  · exact (x a _ e).stay (fun _ _ _ q => q) ho ht
theorem hok_rem (k : Kept H H') (x : HOk P w H' h') : HOk P w (rem H H') h' := fun a o e => by
  have key : ∀ b u, H' b = some u → HO.mut u = false → rem H H' b = some u := fun b u z n => by
    rw [rem_nm fun v y => ?_]
    · exact z
    · obtain ⟨u', e1, e2⟩ := k b v y
      rw [z] at e1
      cases e1
      rw [n] at e2
      cases e2
  by_cases z : ∃ u, H a = some (.mk u)
  · obtain ⟨u, z⟩ := z
    obtain ⟨u', e1, e2⟩ := k a u z
    rw [rem_mk z e1] at e
    cases e
    exact ⟨e2, (x a _ e1).stay (fun _ _ _ q => q) (fun b y => key b _ y rfl) fun b xs y => key b _ y rfl⟩
  · have z' : ∀ u, H a ≠ some (.mk u) := fun u e => z ⟨u, e⟩
    rw [rem_nm z'] at e
    exact (x a _ e).stay (fun _ _ _ q => q) (fun b y => key b _ y rfl) fun b xs y => key b _ y rfl
theorem un_rem {fs ex : List Addr} (u : Un fs ex (unm H) H' h h') : Un fs ex H (rem H H') h h' where
  keep := fun b o z n => u.keep b o z (unm_none n)
  slot := fun b o z n => u.slot b o z (unm_none n)
  free := fun b o z n hx => by rw [rem_nm (nmk0 n)]; exact u.free b o z (unm_none n) hx
  there := u.there
  tups := fun b xs z => by rw [rem_nm (nmk z trivial)]; exact u.tups b xs (unm_some z trivial)
  frzs := fun b o v z => by rw [rem_nm (nmk z trivial)]; exact u.frzs b o v (unm_some z trivial)
  tbls := fun b ps z => by rw [rem_nm (nmk z trivial)]; exact u.tbls b ps (unm_some z trivial)
end
/-- how errors leave a call: the marks are no matter -/
def CXm (P : Program) (w : World) (CX : CXT) : Prop := ∀ outer H s E e s', HOk P w H s.heap → CX outer (unm H) s (fun C dx H' => Kept H H' ∧ E C dx (rem H H')) e s' → CX outer H s E e s'
theorem cxm0 {P : Program} {w : World} : CXm P w CX0 := fun _ _ _ _ _ _ _ h => h.elim
/-- a call that is made without marks -/
theorem run_unm {P : Program} {w : World} {K : PySem.W.Frag} {mg : Str → Option Value} {base : Heap} {CX : CXT} {j : Nat} {f : Addr} {fd : FuncData} {ps : List Str} {sp sp' : Sp} (F : FnOk P w K mg base CX j f fd ps sp) (cx : CXm P w CX) (len : ∀ vs H Q E, sp' vs H Q E → vs.length = ps.length)
    (h : ∀ vs H Q E, (∀ a u, H a = some (.mk u) → HO.mut u = true) → sp' vs H Q E → sp vs (unm H) (fun v H' => Kept H H' ∧ Q v (rem H H')) (fun C dx H' => Kept H H' ∧ E C dx (rem H H'))) : FnOk P w K mg base CX j f fd ps sp' := by
  refine ⟨len, fun A outer s H args us vs Q E hr he hb hv hs => ?_⟩
  have he' : Env0 P w K mg base A outer s (unm H) := ⟨he.frames, he.mod, fun b o z => ⟨(he.bs b o z).1, unm_none (he.bs b o z).2⟩, he.bsz, he.funs, fun b z => unm_none (he.frf b z), hok_unm he.hok, he.bare⟩
  refine codeAny_mono (F.run A outer s (unm H) args us vs _ _ hr he' hb hv (h vs H Q E (fun a u z => (he.hok a _ z).1) hs)) fun q s' hq => ?_
  match q, hq with
  | .error e, hq => exact cx outer H s E e s' he.hok hq
  | .ok (.ret u), ⟨v, H', os, bare, un, hok, rv, kp, q⟩ => exact ⟨v, rem H H', os, bare, un_rem un, hok_rem kp hok, rv, q⟩
  | .ok .next, hq => exact hq.elim
  | .ok .brk, hq => exact hq.elim
  | .ok .cont, hq => exact hq.elim
/-! ### a promise that knows nothing of the store -/
def setN (b n : Nat) : Nat := n % MB + MB * (b / MB)
theorem mOf_set {b n : Nat} : mOf (setN b n) = mOf b := by
  unfold mOf setN
  rw [Nat.add_mul_div_left _ _ (by decide), Nat.div_eq_of_lt (Nat.mod_lt _ (by decide)), Nat.zero_add]
theorem nOf_setM {b n : Nat} : nOf (setN b n) = n % 1000000000 := by
  unfold nOf setN
  rw [Nat.add_mul_mod_self_left]
  exact Nat.mod_mod _ _
theorem nOf_set {b n : Nat} (h : n < MB) : nOf (setN b n) = n := by rw [nOf_setM]; exact Nat.mod_eq_of_lt h
theorem setN_set {b n m : Nat} : setN (setN b n) m = setN b m := by
  have e : setN b n / MB = b / MB := by
    unfold setN
    rw [Nat.add_mul_div_left _ _ (by decide), Nat.div_eq_of_lt (Nat.mod_lt _ (by decide)), Nat.zero_add]
  show m % MB + MB * (setN b n / MB) = m % MB + MB * (b / MB)
  rw [e]
def liftD (ds : DSp) : DSp := fun args b k kx => ds args (nOf b) (fun r n => n < 1000000000 ∧ k r (setN b n)) fun x n => n < 1000000000 ∧ kx x (setN b n)
theorem q_liftD {ds : DSp} {args : List Sl} {b : Nat} {k : DK} {kx : DX} : liftD ds args b k kx = ds args (nOf b) (fun r n => n < 1000000000 ∧ k r (setN b n)) fun x n => n < 1000000000 ∧ kx x (setN b n) := rfl
section
variable {K : PySem.W.Frag} {G : Gh} {F H : Hp} {b : Nat}
theorem StA.plain {d c : Addr} (s : StA H d c b) : (∀ u, H d ≠ some (.mk u)) ∧ (∀ u, H c ≠ some (.mk u)) ∧ (∀ q, H d ≠ some (.own q)) ∧ ∀ q, H c ≠ some (.own q) := by
  obtain ⟨ns, t, _, _, _, _, h5, h6⟩ := s
  exact ⟨fun u z => (by rw [h6] at z; cases z), fun u z => (by rw [h5] at z; cases z), fun u z => (by rw [h6] at z; cases z), fun u z => (by rw [h5] at z; cases z)⟩
theorem gst.plain (s : gst K G F H b) : ∀ d c, G.dc = some (d, c) → (∀ u, H d ≠ some (.mk u)) ∧ (∀ u, H c ≠ some (.mk u)) ∧ (∀ q, H d ≠ some (.own q)) ∧ ∀ q, H c ≠ some (.own q) := fun d c e => by
  have s1 := s.1
  rw [e] at s1
  exact StA.plain s1
theorem off_seen {H : Hp} {a : Addr} {o : HO} (h : H a = some o) (nm : NM o) (hd : ∀ d c, G.dc = some (d, c) → a ≠ d ∧ a ≠ c) : off G H a = some o := by
  unfold off
  cases e : G.dc with
  | none => show seen (H a) = some o; rw [h, seen_nm nm]
  | some z =>
    obtain ⟨d, c⟩ := z
    obtain ⟨n1, n2⟩ := hd d c e
    dsimp only
    rw [if_neg n1, if_neg n2, h, seen_nm nm]
theorem off_unm {a : Addr} {o : HO} (h : off G H a = some o) : off G (unm H) a = some o := off_of h (unm_some (off_sub h) (off_nm h))
/-- of the store: seen without marks -/
theorem off_shown (s : gst K G F H b) {a : Addr} {u : HO} (h : H a = some (.mk u)) (m : HO.mut u = true) : off G (unm H) a = some u :=
  off_seen (unm_mk h) (mut_nm m) fun d c e => by
    obtain ⟨p1, p2, _⟩ := s.plain d c e
    exact ⟨fun z => p1 u (z ▸ h), fun z => p2 u (z ▸ h)⟩
theorem off_own (s : gst K G F H b) {a q : Addr} (h : H a = some (.own q)) : off G H a = some (.own q) := off_seen h trivial fun d c e => by
  obtain ⟨_, _, p1, p2⟩ := s.plain d c e
  exact ⟨fun z => p1 q (z ▸ h), fun z => p2 q (z ▸ h)⟩
theorem gst_unm (s : gst K G F H b) : gst K G F (unm H) (nOf b) := by
  refine ⟨?_, fun p o z => by rw [mOf_lt nOf_b] at z; cases z⟩
  have s1 := s.1
  have pl := s.plain
  cases e : G.dc with
  | none => trivial
  | some z =>
    obtain ⟨d, c⟩ := z
    rw [e] at s1
    show StA (unm H) d c (nOf (nOf b))
    rw [nOf_lt nOf_b]
    obtain ⟨ns, t, h1, h2, h3, h4, h5, h6⟩ := (show StA H d c (nOf b) from s1)
    exact ⟨ns, t, h1, h2, h3, h4, unm_some h5 trivial, unm_some h6 trivial⟩
theorem ArOk.seen {B B' F0 : Hp} {F H H' : Hp} {K : PySem.W.Frag} {G : Gh} (hB : ∀ a o, B a = some o → B' a = some o) : ∀ {vs : List V} {ss : List Sl}, ArOk ⟨K, G, F0, B⟩ F H vs ss → ArOk ⟨K, G, F0, B'⟩ F H' vs ss
  | _, _, .nil => .nil
  | _, _, .cons (s := s) h n t => by
    refine .cons ?_ n (t.seen hB)
    cases s with
    | no => trivial
    | val d => exact h
    | own ds => exact absurd rfl (n ds)
    | bb ds => obtain ⟨p, vs, hx, h1, q⟩ := h; exact ⟨p, vs, hx, hB _ _ h1, q⟩
    | st => exact h
    | bo p C kds => obtain ⟨hx, dx, fs, h1, h2, q⟩ := h; exact ⟨hx, dx, fs, hB _ _ h1, hB _ _ h2, q⟩
/-- behind such a call -/
structure Back (K : PySem.W.Frag) (G : Gh) (F H F' H' : Hp) (b n : Nat) : Prop where
  kp : Kept H H'
  ex : Ext (atCall K G F H) F H F' (rem H H')
  gs : gst K G F' (rem H H') (setN b n)
  sb : Sub F' (off G (rem H H'))
  fr : ∀ a, off G (unm H) a = none → off G H a = none ∧ rem H H' a = H' a
theorem back (x : ∀ a u, H a = some (.mk u) → HO.mut u = true) (sF : Sub F (off G H)) (s : gst K G F H b) {F' H' : Hp} {n : Nat} (hn : n < MB) (e : Ext (atCall K G F (unm H)) F (unm H) F' H') (g : gst K G F' H' n) (sb : Sub F' (off G H')) : Back K G F H F' H' b n := by
  have e2 : ∀ a o, off G (unm H) a = some o → off G H' a = some o := e.h
  have shown : ∀ a u, H a = some (.mk u) → H' a = some u := fun a u z => off_sub (e2 a u (off_shown s z (x a u z)))
  have remk : ∀ a u, H a = some (.mk u) → rem H H' a = some (.mk u) := fun a u z => rem_mk z (shown a u z)
  have unseen : ∀ a, off G (unm H) a = none → ∀ u, H a ≠ some (.mk u) := fun a z u y => by rw [off_shown s y (x a u y)] at z; cases z
  have hseen : ∀ a o, off G H a = some o → off G (rem H H') a = some o := fun a o z => by
    have q := e2 a o (off_unm z)
    refine off_of z ?_
    rw [rem_nm (nmk (off_sub z) (off_nm z))]
    exact off_sub q
  have back1 : ∀ a, off G (unm H) a = none → off G H a = none := fun a z => by
    cases y : off G H a with
    | none => rfl
    | some o => rw [off_unm y] at z; cases z
  refine ⟨fun a u z => ⟨u, shown a u z, x a u z⟩, ⟨e.f, hseen, fun a o z => ?_⟩, ⟨?_, fun p o z => ?_⟩, fun a o z => ?_, fun a z => ⟨back1 a z, rem_nm (unseen a z)⟩⟩
  · rcases e.n a o z with y | y
    · exact .inl y
    · exact .inr (back1 a y)
  · have g1 := g.1
    have pl := s.plain
    cases e : G.dc with
    | none => trivial
    | some z =>
      obtain ⟨d, c⟩ := z
      obtain ⟨p1, p2, _⟩ := pl d c e
      rw [e] at g1
      show StA (rem H H') d c (nOf (setN b n))
      rw [nOf_set hn]
      obtain ⟨ns, t, h1, h2, h3, h4, h5, h6⟩ := (show StA H' d c (nOf n) from g1)
      rw [nOf_lt hn] at h4
      exact ⟨ns, t, h1, h2, h3, h4, by rw [rem_nm p2]; exact h5, by rw [rem_nm p1]; exact h6⟩
  · rw [mOf_set] at z
    exact (s.2 p o z).imp e.f remk fun a q y => off_sub (hseen a _ (off_own s y))
  · have q := sb a o z
    have nu : ∀ u, H a ≠ some (.mk u) := fun u y => by
      rcases e.n a o z with r | r
      · have := sF a o r
        rw [off_mk y] at this
        cases this
      · exact unseen a r u y
    refine off_of q ?_
    rw [rem_nm nu]
    exact off_sub q
theorem Back.rt {F' H' : Hp} {n : Nat} {v : V} {r : Rs} (k : Back K G F H F' H' b n) (h : RtOk (atCall K G F (unm H)) F' H' v r) : RtOk (atCall K G F H) F' (rem H H') v r := by
  cases r with
  | s d => exact h
  | o ds =>
    obtain ⟨p, vs, e, h1, h2, h3, q⟩ := h
    have h2' : off G (unm H) p = none := h2
    obtain ⟨z1, z2⟩ := k.fr p h2'
    refine ⟨p, vs, e, h1, z1, ?_, q⟩
    exact off_of h3 (by rw [z2]; exact off_sub h3)
  | b ds => exact h
  | p ds => exact h
  | g => exact h
end
section
variable {P : Program} {w : World} {K : PySem.W.Frag} {mg : Str → Option Value} {base : Heap} {CX : CXT} {j : Nat} {f : Addr} {fd : FuncData} {ps : List Str} {ds : DSp}
theorem lift_len (F : FnOk P w K mg base CX j f fd ps (spD K ds)) : ∀ vs H Q E, spD K (liftD ds) vs H Q E → vs.length = ps.length := fun vs H Q E ⟨G, F0, args, b, k, kx, ha, sb, gs, hd, _⟩ =>
  F.len vs (unm H) (fun _ _ => True) (fun _ _ _ => True) ⟨G, F0, args, nOf b, _, _, ha.seen fun a o z => off_unm z, fun a o z => off_unm (sb a o z), gst_unm gs, hd, fun _ _ _ _ _ _ _ _ _ _ => trivial⟩
theorem _root_.L2.FnOk.framed (F : FnOk P w K mg base CX j f fd ps (spD K ds)) (cx : CXm P w CX) : FnOk P w K mg base CX j f fd ps (spD K (liftD ds)) :=
  run_unm F cx (lift_len F) fun vs H Q E x ⟨G, F0, args, b, k, kx, ha, sb, gs, hd, hq⟩ =>
    ⟨G, F0, args, nOf b, _, _, ha.seen fun a o z => off_unm z, fun a o z => off_unm (sb a o z), gst_unm gs, hd, fun r n v F' H' ⟨hn, hk⟩ ex g s' ok =>
      let bk := back x sb gs hn ex g s'
      ⟨bk.kp, hq r _ v F' _ hk bk.ex bk.gs bk.sb (bk.rt ok)⟩⟩
end
end Dd

namespace Mx
open PySem PySem.Spec
end Mx

namespace Mx
open PySem PySem.Spec L2 Pk Dd
/-! ### max(xs, default = d): over data -/
def fmaxD : D2 := fun r q k => ∃ ds, r.d = .lst ds ∧ ((ds = [] ∧ ∃ d, q = .s d ∧ k (.s d)) ∨ (∃ ns : List Int, ds = ns.map D.int ∧ 0 < ns.length ∧ ∀ m ∈ ns, (∀ y ∈ ns, y ≤ m) → k (.s (.int m))) ∨ ∃ ss : List Str, ds = ss.map D.str ∧ 0 < ss.length ∧ ∀ m ∈ ss, (∀ y ∈ ss, ltS m y = false) → k (.s (.str m)))
/-! ### min(xs, default = d): over data -/
def fminD : D2 := fun r q k => ∃ ds, r.d = .lst ds ∧ ((ds = [] ∧ ∃ d, q = .s d ∧ k (.s d)) ∨ (∃ ns : List Int, ds = ns.map D.int ∧ 0 < ns.length ∧ ∀ m ∈ ns, (∀ y ∈ ns, m ≤ y) → k (.s (.int m))) ∨ ∃ ss : List Str, ds = ss.map D.str ∧ 0 < ss.length ∧ ∀ m ∈ ss, (∀ y ∈ ss, ltS y m = false) → k (.s (.str m)))
end Mx

namespace Dd
open PySem L2 Pk PyProof.Rows
section
variable {X : Cx} {c : Dc}
/-! ### sorted, of any length -/
def rSrt (K : PySem.W.Frag) : List V → Hp → VK → Prop := fun vs H Q => (∃ (a : Addr) (ns : List Int), vs = [V.ref a] ∧ SqL K H a (ns.map V.int) ∧ ∀ (ns' : List Int) (p : Addr), ns'.Perm ns → ns'.Pairwise (· ≤ ·) → H p = none → Q (.ref p) (upd H p (.lst (ns'.map V.int)))) ∨
  ∃ (a : Addr) (ss : List Str), vs = [V.ref a] ∧ SqL K H a (ss.map V.str) ∧ ∀ (ss' : List Str) (p : Addr), ss'.Perm ss → sortedS ss' = true → H p = none → Q (.ref p) (upd H p (.lst (ss'.map V.str)))
def fSrt : DC := fun rs k => ∃ r, rs = [r] ∧ ((∃ ns : List Int, r.d = .lst (ns.map D.int) ∧ ∀ ns' : List Int, ns'.Perm ns → ns'.Pairwise (· ≤ ·) → k (.o (ns'.map D.int))) ∨ ∃ ss : List Str, r.d = .lst (ss.map D.str) ∧ ∀ ss' : List Str, ss'.Perm ss → sortedS ss' = true → k (.o (ss'.map D.str)))
end
end Dd

namespace Dd
open PySem L2 Pk
/-! ### cells: those that are known, their least, their greatest -/
def kn (ds : List D) : List D := ds.flatMap fun d => if isN d = true then [] else [d]
theorem kn_mem {ds : List D} {d : D} (h : d ∈ kn ds) : d ∈ ds ∧ isN d = false := by
  unfold kn at h
  obtain ⟨x, hx, hd⟩ := List.mem_flatMap.mp h
  cases q : isN x with
  | true => rw [q] at hd; simp at hd
  | false => rw [q] at hd; simp at hd; subst hd; exact ⟨hx, q⟩
def Cells (kd : Str) (ds : List D) : Prop := ∀ d ∈ ds, OkD kd d
def Least (xs : List D) (d : D) : Prop := (xs = [] ∧ d = .non) ∨ (∃ ns : List Int, xs = ns.map D.int ∧ ∃ m ∈ ns, d = .int m ∧ ∀ y ∈ ns, m ≤ y) ∨ ∃ ss : List Str, xs = ss.map D.str ∧ ∃ m ∈ ss, d = .str m ∧ ∀ y ∈ ss, ltS y m = false
def Great (xs : List D) (d : D) : Prop := (xs = [] ∧ d = .non) ∨ (∃ ns : List Int, xs = ns.map D.int ∧ ∃ m ∈ ns, d = .int m ∧ ∀ y ∈ ns, y ≤ m) ∨ ∃ ss : List Str, xs = ss.map D.str ∧ ∃ m ∈ ss, d = .str m ∧ ∀ y ∈ ss, ltS m y = false
theorem ltS_eq {a b : Str} (h1 : ltS a b = false) (h2 : ltS b a = false) : a = b := by
  unfold ltS at *
  rw [decide_eq_false_iff_not] at *
  have e : a.cps.toList = b.cps.toList := List.le_antisymm (List.not_lt.mp h2) (List.not_lt.mp h1)
  cases a
  cases b
  congr 1
  exact Array.toList_inj.mp e
theorem map_int_inj {ns ms : List Int} (h : ns.map D.int = ms.map D.int) : ns = ms := by
  induction ns generalizing ms with
  | nil => cases ms with | nil => rfl | cons _ _ => cases h
  | cons n ns ih =>
    cases ms with
    | nil => cases h
    | cons m ms => rw [List.map_cons, List.map_cons] at h; injection h with h1 h2; injection h1 with h1; rw [h1, ih h2]
theorem map_str_inj {ns ms : List Str} (h : ns.map D.str = ms.map D.str) : ns = ms := by
  induction ns generalizing ms with
  | nil => cases ms with | nil => rfl | cons _ _ => cases h
  | cons n ns ih =>
    cases ms with
    | nil => cases h
    | cons m ms => rw [List.map_cons, List.map_cons] at h; injection h with h1 h2; injection h1 with h1; rw [h1, ih h2]
theorem int_str_no {ns : List Int} {ss : List Str} (h : ns.map D.int = ss.map D.str) : ns = [] ∧ ss = [] := by
  cases ns with
  | nil => cases ss with | nil => exact ⟨rfl, rfl⟩ | cons _ _ => cases h
  | cons n ns => cases ss with | nil => cases h | cons _ _ => rw [List.map_cons, List.map_cons] at h; injection h with h1; cases h1
theorem Least.uniq {xs : List D} {d e : D} (h : Least xs d) (h' : Least xs e) : d = e := by
  rcases h with ⟨rfl, rfl⟩ | ⟨ns, rfl, m, hm, rfl, hl⟩ | ⟨ss, rfl, m, hm, rfl, hl⟩
  · rcases h' with ⟨_, rfl⟩ | ⟨ns, e, m, hm, _⟩ | ⟨ss, e, m, hm, _⟩
    · rfl
    · rw [List.map_eq_nil_iff.mp e.symm] at hm; cases hm
    · rw [List.map_eq_nil_iff.mp e.symm] at hm; cases hm
  · rcases h' with ⟨e, rfl⟩ | ⟨ms, e, m', hm', rfl, hl'⟩ | ⟨ss, e, m', hm', _⟩
    · rw [List.map_eq_nil_iff.mp e] at hm; cases hm
    · rw [← map_int_inj e] at hm' hl'
      congr 1
      exact Int.le_antisymm (hl _ hm') (hl' _ hm)
    · rw [(int_str_no e).1] at hm; cases hm
  · rcases h' with ⟨e, rfl⟩ | ⟨ms, e, m', hm', _⟩ | ⟨ms, e, m', hm', rfl, hl'⟩
    · rw [List.map_eq_nil_iff.mp e] at hm; cases hm
    · rw [(int_str_no e.symm).1] at hm'; cases hm'
    · rw [← map_str_inj e] at hm' hl'
      congr 1
      exact ltS_eq (hl' _ hm) (hl _ hm')
theorem Great.uniq {xs : List D} {d e : D} (h : Great xs d) (h' : Great xs e) : d = e := by
  rcases h with ⟨rfl, rfl⟩ | ⟨ns, rfl, m, hm, rfl, hl⟩ | ⟨ss, rfl, m, hm, rfl, hl⟩
  · rcases h' with ⟨_, rfl⟩ | ⟨ns, e, m, hm, _⟩ | ⟨ss, e, m, hm, _⟩
    · rfl
    · rw [List.map_eq_nil_iff.mp e.symm] at hm; cases hm
    · rw [List.map_eq_nil_iff.mp e.symm] at hm; cases hm
  · rcases h' with ⟨e, rfl⟩ | ⟨ms, e, m', hm', rfl, hl'⟩ | ⟨ss, e, m', hm', _⟩
    · rw [List.map_eq_nil_iff.mp e] at hm; cases hm
    · rw [← map_int_inj e] at hm' hl'
      congr 1
      exact Int.le_antisymm (hl' _ hm) (hl _ hm')
    · rw [(int_str_no e).1] at hm; cases hm
  · rcases h' with ⟨e, rfl⟩ | ⟨ms, e, m', hm', _⟩ | ⟨ms, e, m', hm', rfl, hl'⟩
    · rw [List.map_eq_nil_iff.mp e] at hm; cases hm
    · rw [(int_str_no e.symm).1] at hm'; cases hm'
    · rw [← map_str_inj e] at hm' hl'
      congr 1
      exact ltS_eq (hl _ hm') (hl' _ hm)
/-- a note of cells -/
def Note (ds : List D) (t : D) : Prop := ∃ lo hi, t = .tup [.int ds.length, .int (ds.length - (kn ds).length), lo, hi] ∧ Least (kn ds) lo ∧ Great (kn ds) hi
theorem Note.uniq {ds : List D} {t u : D} (h : Note ds t) (h' : Note ds u) : t = u := by
  obtain ⟨lo, hi, rfl, h1, h2⟩ := h
  obtain ⟨lo', hi', rfl, h3, h4⟩ := h'
  rw [h1.uniq h3, h2.uniq h4]
theorem kn_ok {kd : Str} {ds : List D} (h : Cells kd ds) : Cells kd (kn ds) := fun d hd => h d (kn_mem hd).1
theorem Least.ok {kd : Str} {xs : List D} {d : D} (h : Least xs d) (c : Cells kd xs) : OkD kd d := by
  rcases h with ⟨rfl, rfl⟩ | ⟨ns, rfl, m, hm, rfl, _⟩ | ⟨ss, rfl, m, hm, rfl, _⟩
  · exact .inl rfl
  · exact c _ (List.mem_map.mpr ⟨m, hm, rfl⟩)
  · exact c _ (List.mem_map.mpr ⟨m, hm, rfl⟩)
theorem Great.ok {kd : Str} {xs : List D} {d : D} (h : Great xs d) (c : Cells kd xs) : OkD kd d := by
  rcases h with ⟨rfl, rfl⟩ | ⟨ns, rfl, m, hm, rfl, _⟩ | ⟨ss, rfl, m, hm, rfl, _⟩
  · exact .inl rfl
  · exact c _ (List.mem_map.mpr ⟨m, hm, rfl⟩)
  · exact c _ (List.mem_map.mpr ⟨m, hm, rfl⟩)
theorem OkD.sam {kd : Str} {d : D} {n : Nat} (h : OkD kd d) : sam (n + 1) d := by
  rcases h with rfl | ⟨_, m, rfl, _⟩ | ⟨_, t, rfl, _⟩ <;> trivial
theorem Note.sam {kd : Str} {ds : List D} {t : D} (h : Note ds t) (c : Cells kd ds) : sam 4 t := by
  obtain ⟨lo, hi, rfl, h1, h2⟩ := h
  refine ⟨by show 4 < 100000; decide, fun x hx => ?_⟩
  simp at hx
  rcases hx with rfl | rfl | rfl | rfl
  · trivial
  · trivial
  · exact (h1.ok (kn_ok c)).sam
  · exact (h2.ok (kn_ok c)).sam
/-! sorted lists: their ends -/
end Dd

namespace Dd
open PySem L2 Pk
/-- the ends of what is sorted -/
theorem ends {α : Type} {R : α → α → Prop} (rf : ∀ a, R a a) {xs : List α} (h : xs.Pairwise R) : (∀ m, atI xs 0 = some m → m ∈ xs ∧ ∀ y ∈ xs, R m y) ∧ ∀ m, atI xs (-1) = some m → m ∈ xs ∧ ∀ y ∈ xs, R y m := by
  constructor
  · intro m e
    cases xs with
    | nil => cases e
    | cons n ns =>
      have : n = m := by
        unfold atI at e
        rw [ix_ok (by omega) (by simp)] at e
        exact Option.some.inj e
      subst this
      refine ⟨by simp, fun y hy => ?_⟩
      rcases List.mem_cons.mp hy with rfl | hy
      · exact rf _
      · exact List.rel_of_pairwise_cons h hy
  · intro m e
    have hl : 0 < xs.length := by
      cases xs with
      | nil => cases e
      | cons _ _ => simp
    have ei : ixN xs.length (-1) = some (xs.length - 1) := by
      unfold ixN
      rw [if_neg (by omega), if_pos (by omega)]
      congr 1
      omega
    unfold atI at e
    rw [ei] at e
    have e' : xs[xs.length - 1]? = some m := e
    have el := List.getElem?_eq_some_iff.mp e'
    refine ⟨List.mem_of_getElem? e', fun y hy => ?_⟩
    obtain ⟨j, hj⟩ := List.getElem?_of_mem hy
    have hjl := List.getElem?_eq_some_iff.mp hj
    rcases Nat.lt_or_ge j (xs.length - 1) with q | q
    · have := List.pairwise_iff_getElem.mp h j (xs.length - 1) hjl.1 el.1 q
      rw [hjl.2, el.2] at this
      exact this
    · have : j = xs.length - 1 := by have := hjl.1; omega
      subst this
      rw [e'] at hj
      cases hj
      exact rf _
/-! ### == of lists of cells -/
theorem okT_str {t : Str} (h : OkT t) : PyData.strOk t = true := by
  unfold PyData.strOk
  rw [Array.all_eq_true]
  intro i hi
  have := h.c (t.cps[i]) (Array.mem_toList_iff.mpr (Array.getElem_mem hi))
  unfold okC at this
  simp only [Bool.and_eq_true, decide_eq_true_eq] at this
  simp only [decide_eq_true_eq]
  omega
/-- data of at most so many levels, that may be compared -/
def Pn (n : Nat) (d : D) : Prop := pl d = true ∧ (py d).canLay0 = true ∧ (py d).depth ≤ n
theorem Pn.mono {n m : Nat} {d : D} (h : Pn n d) (l : n ≤ m) : Pn m d := ⟨h.1, h.2.1, Nat.le_trans h.2.2 l⟩
theorem pns {n : Nat} : ∀ {xs : List D}, (∀ x ∈ xs, Pn n x) → pls xs = true ∧ PyData.canLayAll0 (pys xs) = true ∧ PyData.depthAll (pys xs) ≤ n
  | [], _ => ⟨rfl, rfl, Nat.zero_le _⟩
  | x :: xs, h => by
    obtain ⟨h1, h2, h3⟩ := h x (by simp)
    obtain ⟨g1, g2, g3⟩ := pns fun y hy => h y (List.mem_cons_of_mem _ hy)
    refine ⟨by unfold pls; rw [h1, g1]; rfl, by unfold pys PyData.canLayAll0; rw [h2, g2]; rfl, ?_⟩
    unfold pys PyData.depthAll
    exact Nat.max_le.mpr ⟨h3, g3⟩
theorem Pn.lst {n : Nat} {xs : List D} (h : ∀ x ∈ xs, Pn n x) : Pn (n + 1) (.lst xs) := by
  obtain ⟨h1, h2, h3⟩ := pns h
  refine ⟨by unfold pl; exact h1, by unfold py PyData.canLay0; exact h2, ?_⟩
  unfold py PyData.depth
  omega
theorem Pn.tup {n : Nat} {xs : List D} (h : ∀ x ∈ xs, Pn n x) : Pn (n + 1) (.tup xs) := by
  obtain ⟨h1, h2, h3⟩ := pns h
  refine ⟨by unfold pl; exact h1, by unfold py PyData.canLay0; exact h2, ?_⟩
  unfold py PyData.depth
  omega
theorem OkD.pn {kd : Str} {d : D} (h : OkD kd d) : Pn 0 d := by
  rcases h with rfl | ⟨_, m, rfl, _⟩ | ⟨_, t, rfl, ok⟩
  · exact ⟨rfl, rfl, by simp [py, PyData.depth]⟩
  · exact ⟨rfl, rfl, by simp [py, PyData.depth]⟩
  · exact ⟨rfl, by simp [py, PyData.canLay0, okT_str ok], by simp [py, PyData.depth]⟩
theorem Cells.pn {kd : Str} {ds : List D} (h : Cells kd ds) : Pn 1 (.lst ds) := Pn.lst fun d hd => (h d hd).pn
end Dd

namespace Dd
open PySem L2 Pk
/-- a list or a tuple that is handed in -/
def SeqIs (s : Sl) (ds : List D) : Prop := s = .bb ds ∨ s = .val (.lst ds) ∨ s = .val (.tup ds)
def dsNote : DSp := fun args b k _ => ∃ (s : Sl) (kd : Str) (ds : List D), args = [s] ∧ SeqIs s ds ∧ isKd kd ∧ Cells kd ds ∧ ds.length ≤ 1000 ∧ ∀ t, Note ds t → k (.s t) b
def dsKind : DSp := fun args b k _ => args = [.st] ∧ b < 100000000 ∧ ∀ kd, isKd kd → k (.s (.str kd)) (b + 1)
def dsSomeCells : DSp := fun args b k _ => ∃ (kd : Str) (m : Nat), args = [.st, .val (.str kd), .val (.int m)] ∧ isKd kd ∧ m ≤ 70 ∧ b + 1501 < 100000000 ∧ ∀ (ds : List D) (b' : Nat), ds.length = m → Cells kd ds → b' ≤ b + 1501 → k (.o ds) b'
end Dd

namespace Dd
open PySem L2 Pk
/-! ### text.index(sign) -/
def kSi2 (s : Str) (k : DK) : List Rs → Nat → Prop := fun rs b => ∃ (t : Str) (i : Nat) (rest : List Nat), rs = [.s (.str t)] ∧ Builtin.Str.occurrences s t 0 s.length 1 = i :: rest ∧ k (.s (.int i)) b
def kSi1 (da : DA) (A : List Sl) (k : DK) : DK := fun r b => ∃ s, r = .s (.str s) ∧ da A b (kSi2 s k)
def dSidx (de : DE) (da : DA) : DE := fun A b k => de A b (kSi1 da A k)
section
variable {X : Cx} {c : Dc}
end
section
variable {A : List Sl} {b : Nat} {k : DK} {de : DE} {da : DA} {s t : Str}
theorem q_sidx : dSidx de da A b k = de A b (kSi1 da A k) := rfl
theorem q_kSi1 : kSi1 da A k (.s (.str s)) b = da A b (kSi2 s k) := propext ⟨fun ⟨_, e, h⟩ => by cases e; exact h, fun h => ⟨s, rfl, h⟩⟩
theorem q_kSi2 : kSi2 s k [.s (.str t)] b = ∃ (i : Nat) (rest : List Nat), Builtin.Str.occurrences s t 0 s.length 1 = i :: rest ∧ k (.s (.int i)) b := propext ⟨fun ⟨_, i, r, e, h⟩ => by cases e; exact ⟨i, r, h⟩, fun ⟨i, r, h⟩ => ⟨t, i, r, rfl, h⟩⟩
end
end Dd

namespace Dd
open PySem L2 Pk
/-! ### while, by a measure -/
def kWh (t : DS) (E : DEnds) (W : Nat → List Sl → Nat → Prop) (m : Nat) (A : List Sl) : Bool → Nat → Prop := fun k b1 => if k = true then t { E with nx := fun A' b' => ∃ m', m' < m ∧ W m' A' b', ct := fun A' b' => ∃ m', m' < m ∧ W m' A' b', bk := E.nx } A b1 else E.nx A b1
theorem q_kWh {t : DS} {E : DEnds} {W : Nat → List Sl → Nat → Prop} {m : Nat} {A : List Sl} {k : Bool} {b : Nat} : kWh t E W m A k b = (if k = true then t { E with nx := fun A' b' => ∃ m', m' < m ∧ W m' A' b', ct := fun A' b' => ∃ m', m' < m ∧ W m' A' b', bk := E.nx } A b else E.nx A b) := rfl
end Dd

namespace Dd
open PySem L2 Pk
/-! ### which part cells go to -/
def stepB (n x : Int) : Int := (n * 31 + x + 1) % 65521
def foldB (n : Int) (bs : List Int) : Int := bs.foldl stepB n
def bytesD (ds : List D) : List Int := ds.flatMap cbD
def ptD (ds : List D) (l : Int) : Int := foldB (l / 8) (bytesD ds) / 4 ^ (l % 8).toNat % 4
def AllC (ds : List D) : Prop := ∀ d ∈ ds, OkCd d
def dsPart : DSp := fun args b k _ => ∃ (s : Sl) (ds : List D) (l : Int), args = [s, .val (.int l)] ∧ SeqIs s ds ∧ AllC ds ∧ ds.length ≤ 1000 ∧ 0 ≤ l ∧ l < 100000000 ∧ k (.s (.int (ptD ds l))) b
def dsSomeC : DSp := fun args b k _ => args = [.st] ∧ b + 100 < 100000000 ∧ ∀ (d : D) (b' : Nat), OkCd d → b' ≤ b + 40 → k (.s d) b'
theorem OkCd.pn {d : D} (h : OkCd d) : Pn 0 d := by
  rcases h with rfl | ⟨m, rfl, _⟩ | ⟨t, rfl, ok⟩
  · exact ⟨rfl, rfl, by simp [py, PyData.depth]⟩
  · exact ⟨rfl, rfl, by simp [py, PyData.depth]⟩
  · exact ⟨rfl, by simp [py, PyData.canLay0, okT_str ok], by simp [py, PyData.depth]⟩
theorem AllC.pn {ds : List D} (h : AllC ds) : Pn 1 (.lst ds) := Pn.lst fun d hd => (h d hd).pn
theorem AllC.snoc {ds : List D} {d : D} (h : AllC ds) (ok : OkCd d) : AllC (ds ++ [d]) := fun d' hd' => by
  rcases List.mem_append.mp hd' with z | z
  · exact h d' z
  · rw [List.mem_singleton.mp z]; exact ok
theorem pn_int {i : Int} : Pn 0 (.int i) := ⟨rfl, rfl, by simp [py, PyData.depth]⟩
def ptL (l : Int) : D → D
  | .lst ds => .int (ptD ds l)
  | _ => .non
end Dd

namespace Dd
open PySem L2 Pk
/-! ### dicts that are written out: keys ints and texts -/
def keyD : Rs → Option Key
  | .s (.int i) => some (.inl i)
  | .s (.str s) => some (.inr s)
  | _ => none
abbrev PK := List (Key × D) → Nat → Prop
def kPr3 (key : Key) (d : D) (k : PK) : PK := fun ps b => k ((key, d) :: ps) b
def dPairs : List (DE × DE) → List Sl → Nat → PK → Prop
  | [], _, b, k => k [] b
  | (dk, dv) :: r, A, b, k => dk A b fun x b1 => ∃ key, keyD x = some key ∧ dv A b1 fun y b2 => y.kp ∧ dPairs r A b2 (kPr3 key y.d k)
def kPr2 (r : List (DE × DE)) (A : List Sl) (key : Key) (k : PK) : DK := fun y b2 => y.kp ∧ dPairs r A b2 (kPr3 key y.d k)
def kPr1 (dv : DE) (r : List (DE × DE)) (A : List Sl) (k : PK) : DK := fun x b1 => ∃ key, keyD x = some key ∧ dv A b1 (kPr2 r A key k)
def kDisp (k : DK) : PK := fun kds b => (kds.map (·.1)).Nodup ∧ kds.length ≤ 15 ∧ k (.s (.dk kds)) b
def dDisp (drs : List (DE × DE)) : DE := fun A b k => dPairs drs A b (kDisp k)
section
variable {A : List Sl} {b : Nat} {k : DK} {kp : PK} {dk dv : DE} {drs : List (DE × DE)} {s : Str} {i : Int} {y : Rs} {key : Key} {d : D} {kds : List (Key × D)}
theorem q_disp : dDisp drs A b k = dPairs drs A b (kDisp k) := rfl
theorem q_pairsN : dPairs [] A b kp = kp [] b := rfl
theorem q_pairsC : dPairs ((dk, dv) :: drs) A b kp = dk A b (kPr1 dv drs A kp) := rfl
theorem q_kPr1s : kPr1 dv drs A kp (.s (.str s)) b = dv A b (kPr2 drs A (.inr s) kp) := propext ⟨fun ⟨_, e, h⟩ => by cases e; exact h, fun h => ⟨_, rfl, h⟩⟩
theorem q_kPr1i : kPr1 dv drs A kp (.s (.int i)) b = dv A b (kPr2 drs A (.inl i) kp) := propext ⟨fun ⟨_, e, h⟩ => by cases e; exact h, fun h => ⟨_, rfl, h⟩⟩
theorem q_kPr2 : kPr2 drs A key kp y b = (y.kp ∧ dPairs drs A b (kPr3 key y.d kp)) := rfl
theorem q_kPr3 : kPr3 key d kp kds b = kp ((key, d) :: kds) b := rfl
theorem q_kDisp : kDisp k kds b = ((kds.map (·.1)).Nodup ∧ kds.length ≤ 15 ∧ k (.s (.dk kds)) b) := rfl
end
def LkP (c : Dc) (trs : List (TE × TE)) (drs : List (DE × DE)) : Prop := ∀ F σ H A b Q k, R c F σ H A b → dPairs drs A b k → (∀ kds b' kvs F' H', k kds b' → R c F' σ H' A b' → Ext c F H F' H' → RpK c.K F' kvs kds → Q (kvs.map fun kv => (kV kv.1, kv.2)) H') → tPairs trs σ H Q
inductive PPd (X : Cx) (c : Dc) (pos : Pos) (keys : List (Option Expr)) (values : List Expr) (drs : List (DE × DE)) : Prop
  | mk (trs : List (TE × TE)) (h : PPs X pos keys values trs) (l : LkP c trs drs)
section
variable {X : Cx} {c : Dc}
theorem RpK.keys {K : PySem.W.Frag} {F : Hp} : ∀ {kvs : List (Key × V)} {kds : List (Key × D)}, RpK K F kvs kds → kvs.map (·.1) = kds.map (·.1)
  | _, _, .nil => rfl
  | _, _, .cons _ r => by rw [List.map_cons, List.map_cons, r.keys]
def valD (kds : List (Key × D)) (k : Key) : Option D := (kds.find? fun kv => decide (kv.1 = k)).map (·.2)
theorem RpK.val {K : PySem.W.Frag} {F : Hp} {k : Key} {d : D} : ∀ {kvs : List (Key × V)} {kds : List (Key × D)}, RpK K F kvs kds → valD kds k = some d → ∃ v, valV kvs k = some v ∧ Rp K F v d
  | _, _, .nil, e => by cases e
  | _, _, .cons (k := k') a r, e => by
    by_cases h : k' = k
    · subst h
      unfold valD at e
      simp at e
      subst e
      exact ⟨_, by simp [valV], a⟩
    · unfold valD at e
      rw [List.find?_cons_of_neg (by simpa using h)] at e
      obtain ⟨v, e1, q⟩ := r.val e
      refine ⟨v, ?_, q⟩
      unfold valV
      rw [List.find?_cons_of_neg (by simpa using h)]
      exact e1
/-! d[k] -/
def fDk : D2 := fun x y k => ∃ kds key d, x = .s (.dk kds) ∧ keyD y = some key ∧ valD kds key = some d ∧ k (.s d)
theorem q_dget1 {kds : List (Key × D)} {s : Str} {kr : Rs → Prop} : fDk (.s (.dk kds)) (.s (.str s)) kr = ∃ d, valD kds (.inr s) = some d ∧ kr (.s d) := propext ⟨fun ⟨_, _, d, e1, e2, e3, h⟩ => by cases e1; cases e2; exact ⟨d, e3, h⟩, fun ⟨d, h1, h2⟩ => ⟨_, _, d, rfl, rfl, h1, h2⟩⟩
end
end Dd

namespace Xc
open PySem PySem.W PySem.Spec PyProof.Rows L2
/-- an error at rest -/
def ErrH (H : Hp) (e C : Addr) : Prop := H e = some (.ext (Dd.ErrO e C none)) ∨ ∃ dx fs, H e = some (.ext (Dd.ErrO e C (some dx))) ∧ H dx = some (.xd fs)
section
variable {X : Cx} {pins : List (Addr × Obj)} {σ : L2.St} {H : Hp} {s : Shared} {e C : Addr}
theorem err_inst (I : Inv X pins σ H s) (h : ErrH H e C) : ∃ ox od, InstAt s.heap e ox C od := by
  rcases h with h | ⟨dx, fs, h, h2⟩
  · obtain ⟨⟨vs, z⟩, _⟩ := I.hok e _ h
    exact ⟨_, none, z, rfl, rfl, True.intro⟩
  · obtain ⟨⟨vs, z⟩, _⟩ := I.hok e _ h
    obtain ⟨mA, n, _⟩ := I.hok dx _ h2
    obtain ⟨od, y, _⟩ := lookIn_ns n
    exact ⟨_, some od, z, rfl, rfl, y⟩
/-- isinstance of an error: one class, a tuple of own classes -/
def rIsE (K : Frag) : List V → Hp → VK → Prop := fun xs H Q => ∃ e C, ErrH H e C ∧ ErrAt K C ∧
  ((∃ C0 b, xs = [.ref e, .ref C0] ∧ kitOne K (.ref C) (.ref C0) = some b ∧ Q (.bl b) H) ∨ (∃ T b, xs = [.ref e, .ty T] ∧ kitOne K (.ref C) (.type T) = some b ∧ Q (.bl b) H) ∨
    ∃ (p : Addr) (Cs : List Addr) (b : Bool), xs = [.ref e, .ref p] ∧ H p = some (.tup (Cs.map V.ref)) ∧ kitAny K (.ref C) (Cs.map Value.ref) = some b ∧ Q (.bl b) H)
theorem vals_refs : ∀ {Cs : List Addr} {us : List Value}, Vals (Cs.map V.ref) us → us = Cs.map Value.ref
  | [], _, .nil => rfl
  | c :: cs, _, .cons r t => by rw [vals_refs t]; cases (show _ = Value.ref c from r); rfl
theorem call_isE : CallR X (.builtin "isinstance") (rIsE X.K) := by
  rintro pins s σ H xs us Q I r ⟨e, C, he, ha, h⟩
  have ii := err_inst I he
  rcases h with ⟨C0, b, rfl, hk, q⟩ | ⟨T, b, rfl, hk, q⟩ | ⟨p, Cs, b, rfl, hp, hk, q⟩
  · obtain ⟨u, us', rfl, r1, r2⟩ : ∃ u us', us = u :: us' ∧ RelV (.ref e) u ∧ Vals [.ref C0] us' := by cases r with | cons a b => exact ⟨_, _, rfl, a, b⟩
    obtain ⟨u2, rfl, r3⟩ := vals1 r2
    cases (show u = Value.ref e from r1)
    cases (show u2 = Value.ref C0 from r3)
    exact kia_one (kitx_err ha) I.kIn ii hk (fun z => by cases z) fun tk => ⟨.bl b, H, I.tok tk, rfl, q⟩
  · obtain ⟨u, us', rfl, r1, r2⟩ : ∃ u us', us = u :: us' ∧ RelV (.ref e) u ∧ Vals [.ty T] us' := by cases r with | cons a b => exact ⟨_, _, rfl, a, b⟩
    obtain ⟨u2, rfl, r3⟩ := vals1 r2
    cases (show u = Value.ref e from r1)
    cases (show u2 = Value.type T from r3)
    exact kia_one (kitx_err ha) I.kIn ii hk (fun z => by cases z) fun tk => ⟨.bl b, H, I.tok tk, rfl, q⟩
  · obtain ⟨u, us', rfl, r1, r2⟩ : ∃ u us', us = u :: us' ∧ RelV (.ref e) u ∧ Vals [.ref p] us' := by cases r with | cons a b => exact ⟨_, _, rfl, a, b⟩
    obtain ⟨u2, rfl, r3⟩ := vals1 r2
    cases (show u = Value.ref e from r1)
    cases (show u2 = Value.ref p from r3)
    obtain ⟨_, its, vi, o, h1, h2, n, h3⟩ := I.hok p _ hp
    obtain ⟨oc, od, odt, osl⟩ := o
    have h2' : oc = .type "tuple" := h2
    have h3' : odt = .seq its.toArray n := h3
    subst h2' h3'
    rw [vals_refs vi] at h1
    exact kia_tup (kitx_err ha) I.kIn ii h1 hk (fun z => by cases z) fun tk => ⟨.bl b, H, I.tok tk, rfl, q⟩
def tErrF (K : Frag) (ta : TE) (f : Str) : TE := fun σ H Q => ta σ H fun x H1 => ∃ a C dx fs v, x = .ref a ∧ H1 a = some (.ext (Dd.ErrO a C (some dx))) ∧ H1 dx = some (.xd fs) ∧ ErrAt K C ∧ hasDictIn K C = true ∧ findIn K (.ref C) f = some none ∧ fs.lookup f = some v ∧ Q v H1
end
end Xc
namespace Dd
open PySem L2 Pk Xc
section
variable {X : Cx} {c : Dc}
theorem er_h {F H : Hp} {v : V} {C : Addr} {kds : List (Key × D)} {K : PySem.W.Frag} (m : ∀ a o, F a = some o → H a = some o) (r : Rp K F v (.er C kds)) : ∃ e, v = .ref e ∧ ErrH H e C := by
  cases r with
  | er0 h => exact ⟨_, rfl, .inl (m _ _ h)⟩
  | er h h2 _ => exact ⟨_, rfl, .inr ⟨_, _, m _ _ h, m _ _ h2⟩⟩
def fIsiE (K : PySem.W.Frag) : DC := fun rs k => ∃ C kds, ErrAt K C ∧ ((∃ C0 b, rs = [.s (.er C kds), .s (.fn C0)] ∧ PySem.W.kitOne K (.ref C) (.ref C0) = some b ∧ k (.s (.bl b))) ∨
  ∃ (Cs : List Addr) (b : Bool), rs = [.s (.er C kds), .s (.tup (Cs.map D.fn))] ∧ PySem.W.kitAny K (.ref C) (Cs.map Value.ref) = some b ∧ k (.s (.bl b)))
theorem rpa_fns {K : PySem.W.Frag} {F : Hp} : ∀ {vs : List V} {Cs : List Addr}, RpA K F vs (Cs.map D.fn) → vs = Cs.map V.ref
  | _, [], .nil => rfl
  | _, c :: cs, .cons a r => by cases a; rw [rpa_fns r]; rfl
theorem lc_isiE : Lc c (rIsE c.K) (fIsiE c.K) := by
  rintro F σ H A b vs rs Q k rr ha ⟨C, kds, hA, hf⟩ hk
  have m : ∀ a o, F a = some o → H a = some o := fun a o z => off_sub (rr.sub a o z)
  rcases hf with ⟨C0, t, rfl, h1, hf⟩ | ⟨Cs, t, rfl, h1, hf⟩
  · obtain ⟨v, v', rfl, hv, hv'⟩ := ha.two
    obtain ⟨e, rfl, he⟩ := er_h m (show Rp c.K F v (.er C kds) from hv)
    have hv2 : Rp c.K F v' (.fn C0) := hv'
    cases hv2
    exact ⟨e, C, he, hA, .inl ⟨C0, t, rfl, h1, hk _ _ _ _ hf (.still rr (.bl _))⟩⟩
  · obtain ⟨v, v', rfl, hv, hv'⟩ := ha.two
    obtain ⟨e, rfl, he⟩ := er_h m (show Rp c.K F v (.er C kds) from hv)
    have hv2 : Rp c.K F v' (.tup (Cs.map D.fn)) := hv'
    cases hv2 with
    | tup h2 q =>
      rw [rpa_fns q] at h2
      exact ⟨e, C, he, hA, .inr (.inr ⟨_, Cs, t, rfl, m _ _ h2, h1, hk _ _ _ _ hf (.still rr (.bl _))⟩)⟩
theorem k_isiE (hK : c.K = X.K) : CbOk X c (.builtin "isinstance") (fIsiE X.K) := ⟨_, call_isE, hK ▸ lc_isiE⟩
def dIsiV (K : PySem.W.Frag) (T : String) (de : DE) : DE := fun A b k => de A b fun r b1 => ∃ C kds t, r = .s (.er C kds) ∧ ErrAt K C ∧ PySem.W.kitOne K (.ref C) (.type T) = some t ∧ k (.s (.bl t)) b1
/-- isinstance with a built-in class of errors -/
theorem d_isiV {T : String} {e : Expr} {p p2 pos : Pos} {x : Str} {de : DE} (hK : c.K = X.K) (hg : Gl X "isinstance") (hm : X.mg "isinstance" = none) (hv : bootBuiltins "isinstance" = some (.builtin "isinstance"))
    (he : PEd X c e de) (hty : PE X (.Name x p2) (tC (.ty T))) (hs : starEach [e, .Name x p2] X.env = (false, eval e X.env) :: starEach [.Name x p2] X.env) (hpl : (backTo pos (starEach [.Name x p2] X.env)).any (·.1) = false := by rfl) :
    PEd X c (.Call (.Name "isinstance" p) [e, .Name x p2] [] pos) (dIsiV X.K T de) :=
  let ⟨_, h1, l1⟩ := he
  ⟨_, pe_callB call_isE hg hm hv (pa_cons h1 (pa_cons hty pa_nil rfl) hs) (by decide) (by decide) hs hpl, fun F σ H A b Q k rr h hk => l1 F σ H A b _ _ rr h fun r b1 v F1 H1 ⟨C, kds, t, er, hA, et, h1⟩ g1 => by
    subst er
    obtain ⟨e', rfl, he'⟩ := er_h (fun a o z => off_sub (g1.rr.sub a o z)) (show Rp c.K F1 v (.er C kds) from g1.ok)
    exact ⟨e', C, he', hA, .inr (.inl ⟨T, t, rfl, et, hk _ _ (V.bl t) F1 H1 h1 ((Got.still g1.rr (.bl t)).pre g1.e)⟩)⟩⟩
theorem keyed_look {f : Str} {v : V} : ∀ {fs : List (Str × V)}, valV (keyed fs) (.inr f) = some v → fs.lookup f = some v
  | [], h => by cases h
  | (g, w) :: fs, h => by
    unfold keyed valV at h
    rw [List.map_cons] at h
    by_cases e : g = f
    · subst e
      rw [List.find?_cons_of_pos (by simp)] at h
      cases h
      simp
    · rw [List.find?_cons_of_neg (by simpa using e)] at h
      rw [List.lookup_cons, show (f == g) = false from by simp [Ne.symm e]]
      exact keyed_look h
def dErrF (K : PySem.W.Frag) (f : Str) (de : DE) : DE := fun A b k => de A b fun r b1 => ∃ C kds d, r = .s (.er C kds) ∧ ErrAt K C ∧ PySem.W.hasDictIn K C = true ∧ PySem.W.findIn K (.ref C) f = some none ∧ valD kds (.inr f) = some d ∧ k (.s d) b1
/-- an own class, as a thing -/
theorem d_cls {x : Str} {C : Addr} {pos : Pos} (hg : Gl X x) (T : ErrTop X.K X.mg x C) (hd : (x == ("__debug__" : Str)) = false := by decide) : PEd X c (.Name x pos) (dC (.fn C)) := d_glob hg T.bound (w := .ref C) rfl (fun _ => .fn _) hd
end
end Dd

namespace Xc
open PySem PySem.W PySem.Spec PyProof.Rows L2
/-- the i-th row within a class -/
def rowIn (i : Nat) (s : Stmt) : Stmt := match s with
  | .ClassDef _ _ _ b _ _ _ _ _ _ _ => b.getD i (.Pass ⟨0, 0, 0, 0⟩)
  | _ => .Pass ⟨0, 0, 0, 0⟩
/-- what a method of a call's value is asked by -/
def plS : Sem Bool := do return (← (pure (some false) : Sem (Option Bool))).getD true
/-! what isinstance tells of a class of errors -/
theorem kit_no {K : Frag} {C D : Addr} {nm q nm' q' : Str} {N N' : Addr} {bs bs' bm bm' : List Value} {hd hd' : Bool} {sn sn' : List Str} {sub sub' : List Value} {ab ab' : Bool} {col col' : Option Bool} {dd dd' : Option Addr} {k0 k1 k2 k3 k5 k0' k1' k2' k3' k5' : Option Value} {ni ni' : String}
    (l : K.lookup C = some (excClassObj nm q C N bs bm hd sn sub ab col dd k0 k1 k2 k3 k5 ni)) (l' : K.lookup D = some (excClassObj nm' q' D N' bs' bm' hd' sn' sub' ab' col' dd' k0' k1' k2' k3' k5' ni')) {b : Bool} (m : mroIn K C (.ref D) = some b) : kitOne K (.ref C) (.ref D) = some b := by
  unfold kitOne
  by_cases e : C = D
  · subst e
    rw [if_pos (by simp)]
    unfold mroIn clsIn at m
    rw [l] at m
    simp at m
    rw [← m]
  · rw [if_neg (by simp [e])]
    unfold kitCls
    have h1 : clsIn K D = some { name := nm', bases := bs', mro := .ref D :: bm', ns := N', qualname := q', hasDict := hd', slotNames := sn', subclasses := sub', abstract := ab', collection := col', hasDel := false } := by unfold clsIn; rw [l']
    have h2 : typeIn K (.ref D) = some (.type "type") := by unfold typeIn; dsimp only; rw [l']; rfl
    dsimp only
    rw [h1, h2, if_pos (by simp)]
    exact m
theorem kit_ty {K : Frag} {C : Addr} {T : String} {b : Bool} (hT : kitMeta T = true) (m : mroIn K C (.type T) = some b) : kitOne K (.ref C) (.type T) = some b := by
  unfold kitOne
  rw [if_neg (by simp)]
  unfold kitCls
  dsimp only
  rw [if_pos hT]
  exact m
theorem kit_cons {K : Frag} {t c : Value} {cs : List Value} {b : Bool} (h : kitOne K t c = some false) (hr : kitAny K t cs = some b) : kitAny K t (c :: cs) = some b := by
  unfold kitAny
  rw [h]
  exact hr
end Xc

namespace Dd
open PySem L2 Pk Xc
/-! ### errors: what follows, as closures -/
def kCallX (ds : DSp) (kx : List Sl → DX) (A : List Sl) (k : DK) : AK := fun rs b => noO rs = true ∧ ds (rs.map toSl) b k (kx A)
def kRaise (C : Addr) (fld : Str) (kx : List Sl → DX) (A : List Sl) : AK := fun rs b => ∃ d, rs = [.s d] ∧ FmtD d ∧ kx A ⟨C, [(.inr fld, d)]⟩ b
def kTryX (K : PySem.W.Frag) (C0 : Addr) (i : Nat) (th : DS) (E : DEnds) : List Sl → DX := fun A' x b' => PySem.W.mroIn K x.cls (.ref C0) = some true ∧ th (goneD i E) (A'.set i (.val (.er x.cls x.fs))) b'
def kTryX0 (K : PySem.W.Frag) (C0 : Addr) (th : DS) (E : DEnds) : List Sl → DX := fun A' x b' => PySem.W.mroIn K x.cls (.ref C0) = some true ∧ th E A' b'
def kIsiV (K : PySem.W.Frag) (T : String) (k : DK) : DK := fun r b => ∃ C kds t, r = .s (.er C kds) ∧ ErrAt K C ∧ PySem.W.kitOne K (.ref C) (.type T) = some t ∧ k (.s (.bl t)) b
def kErrF (K : PySem.W.Frag) (f : Str) (k : DK) : DK := fun r b => ∃ C kds d, r = .s (.er C kds) ∧ ErrAt K C ∧ PySem.W.hasDictIn K C = true ∧ PySem.W.findIn K (.ref C) f = some none ∧ valD kds (.inr f) = some d ∧ k (.s d) b
section
variable {K : PySem.W.Frag} {ds : DSp} {kx : List Sl → DX} {A : List Sl} {k : DK} {b i : Nat} {rs : List Rs} {as : DA} {de : DE} {E : DEnds} {C C0 : Addr} {fld f x : Str} {d : D} {n : Int} {kds : List (Key × D)} {tb : (List Sl → DX) → DS} {th : DS} {T : String}
theorem q_callX : dCallX ds kx as A b k = as A b (kCallX ds kx A k) := rfl
theorem q_kCallX : kCallX ds kx A k rs b = (noO rs = true ∧ ds (rs.map toSl) b k (kx A)) := rfl
theorem q_raise : dRaise C fld kx as E A b = as A b (kRaise C fld kx A) := rfl
theorem q_kRaise : kRaise C fld kx A [.s d] b = (FmtD d ∧ kx A ⟨C, [(.inr fld, d)]⟩ b) := propext ⟨fun ⟨_, e, h⟩ => by cases e; exact h, fun h => ⟨_, rfl, h⟩⟩
theorem q_fmtS : FmtD (.str x) = (x.length ≤ 1000) := rfl
theorem q_fmtI : FmtD (.int n) = (n.natAbs < 10 ^ 18) := rfl
theorem q_try : dTry K C0 i tb th E A b = tb (kTryX K C0 i th E) E A b := rfl
theorem q_try0 : dTry0 K C0 tb th E A b = tb (kTryX0 K C0 th E) E A b := rfl
theorem q_kTryX : kTryX K C0 i th E A ⟨C, kds⟩ b = (PySem.W.mroIn K C (.ref C0) = some true ∧ th (goneD i E) (A.set i (.val (.er C kds))) b) := rfl
theorem q_kTryX0 : kTryX0 K C0 th E A ⟨C, kds⟩ b = (PySem.W.mroIn K C (.ref C0) = some true ∧ th E A b) := rfl
theorem q_goneN : (goneD i E).nx A b = E.nx (A.set i .no) b := rfl
theorem q_goneR : (goneD i E).rt = E.rt := rfl
theorem q_goneB : (goneD i E).bk A b = E.bk (A.set i .no) b := rfl
theorem q_goneC : (goneD i E).ct A b = E.ct (A.set i .no) b := rfl
theorem q_isiV : dIsiV K T de A b k = de A b (kIsiV K T k) := rfl
theorem q_kIsiV : kIsiV K T k (.s (.er C kds)) b = (ErrAt K C ∧ ∃ t, PySem.W.kitOne K (.ref C) (.type T) = some t ∧ k (.s (.bl t)) b) := propext ⟨fun ⟨_, _, t, e, h1, h2⟩ => by cases e; exact ⟨h1, t, h2⟩, fun ⟨h1, t, h2⟩ => ⟨_, _, t, rfl, h1, h2⟩⟩
theorem q_errF : dErrF K f de A b k = de A b (kErrF K f k) := rfl
theorem q_kErrF : kErrF K f k (.s (.er C kds)) b = (ErrAt K C ∧ PySem.W.hasDictIn K C = true ∧ PySem.W.findIn K (.ref C) f = some none ∧ ∃ d, valD kds (.inr f) = some d ∧ k (.s d) b) := propext ⟨fun ⟨_, _, d, e, h1, h2, h3, h4⟩ => by cases e; exact ⟨h1, h2, h3, d, h4⟩, fun ⟨h1, h2, h3, d, h4⟩ => ⟨_, _, d, rfl, h1, h2, h3, h4⟩⟩
theorem q_isEr : isN (.er C kds) = false := rfl
end
/-- isinstance of an error with a tuple of classes, with one class -/
theorem isiT {K : PySem.W.Frag} {C : Addr} {kds : List (Key × D)} {Cs : List Addr} {b : Bool} {k : Rs → Prop} (h : ErrAt K C) (e : PySem.W.kitAny K (.ref C) (Cs.map Value.ref) = some b) (hk : k (.s (.bl b))) : fIsiE K [.s (.er C kds), .s (.tup (Cs.map D.fn))] k := ⟨C, kds, h, .inr ⟨Cs, b, rfl, e, hk⟩⟩
theorem isi1 {K : PySem.W.Frag} {C C0 : Addr} {kds : List (Key × D)} {b : Bool} {k : Rs → Prop} (h : ErrAt K C) (e : PySem.W.kitOne K (.ref C) (.ref C0) = some b) (hk : k (.s (.bl b))) : fIsiE K [.s (.er C kds), .s (.fn C0)] k := ⟨C, kds, h, .inl ⟨C0, b, rfl, e, hk⟩⟩
end Dd

namespace Cd
open PySem PySem.Spec PyProof.Rows L2
/-- a dict with open keys, whole -/
def dx (w : World) (p : Addr) (kvs : List (Oc.OKey × V)) : HO := .ext (Oc.DicO w p kvs)
section
variable {X : Cx}
def tDc (w : World) (wi : TI) (g : TG) (tt : TT) (tk tv : TE) (vs : List Nat) : TE := fun σ H Q => wi σ H fun J H1 => ∀ D, H1 D = none → ∃ W : Nat → Nat → Hp → Prop, (∃ m, W 0 m (upd H1 D (dx w D []))) ∧ ∀ i m H, W i m H →
  (J.stop i H ∧ Q (.ref D) H) ∨ (J.go i H ∧ ∃ Nx : Hp → Prop, (∀ H', Nx H' → ∃ m', m' < m ∧ W (i + 1) m' H') ∧ ∀ x H', J.yld i H x H' → g x (wipe σ vs) H' fun σ2 H2 => wipe σ2 vs = wipe σ vs ∧ tt σ2 H2 fun b H3 =>
    if b = true then tk σ2 H3 fun y H4 => tv σ2 H4 fun z H5 => ∃ kvs k, H5 D = some (dx w D kvs) ∧ y = Oc.okV k ∧ kvs.length < sizeLine ∧ Nx (upd H5 D (dx w D (putK kvs k z))) else Nx H3)
end
end Cd

namespace PySem.Ds
open PySem

/-! ### tables of sets: their places rise, and they are led as they were -/
def Up (xs : Array Nat) : Prop := xs.toList.Pairwise (· < ·)

theorem Up.lt {xs : Array Nat} (h : Up xs) {i j : Nat} (hij : i < j) (hj : j < xs.size) : xs[i]'(Nat.lt_trans hij hj) < xs[j] := by
  have := List.pairwise_iff_getElem.mp h i j (by simpa using Nat.lt_trans hij hj) (by simpa using hj) hij
  simpa using this

/-! ### orders -/
end PySem.Ds

namespace PySem.Ds
open PySem

/-! ### a set of keys of one kind -/
section
variable {prog : Program} {w : World} {K : Type} [DecidableEq K]

/-- entries by their keys -/
def Ent (knd : KeyKind prog w K) (l : List (Int × Value)) (ks : List K) : Prop :=
  ∃ ps : List (K × (Int × Value)), ps.map (·.2) = l ∧ (∀ p ∈ ps, knd.is p.1 p.2.2 = true ∧ p.2.1 = knd.hash p.1 ∧ p.2.2.scannable = true) ∧ (ps.map (·.1)).Perm ks

def SetO (knd : KeyKind prog w K) (ks : List K) (o : Obj) : Prop :=
  o.ExactSet ∧ ks.Nodup ∧ ∃ es ep t, o.data = .set es ep t ∧ es.size < scanBound ∧ t.fits es.size = true ∧ Up t.place ∧ t.led = !w.params.followText "set-order" ∧ Ent knd es.toList ks

variable {knd : KeyKind prog w K}

theorem Ent.len {l ks} (h : Ent knd l ks) : l.length = ks.length := by
  obtain ⟨ps, rfl, _, h2⟩ := h
  have := h2.length_eq; simpa using this
theorem Ent.mem {l ks} (h : Ent knd l ks) (k : K) : k ∈ ks ↔ ∃ e ∈ l, knd.is k e.2 = true := by
  obtain ⟨ps, rfl, h1, h2⟩ := h
  rw [← h2.mem_iff]
  constructor
  · intro hk
    obtain ⟨p, hp, rfl⟩ := List.mem_map.mp hk
    exact ⟨p.2, List.mem_map.mpr ⟨p, hp, rfl⟩, (h1 p hp).1⟩
  · rintro ⟨e, he, hk⟩
    obtain ⟨p, hp, rfl⟩ := List.mem_map.mp he
    exact List.mem_map.mpr ⟨p, hp, (knd.inj _ _ _ hk (h1 p hp).1).symm⟩

theorem perm_map {α β : Type} {f : α → β} : ∀ {l l' : List β}, l.Perm l' → ∀ ps : List α, ps.map f = l' → ∃ qs : List α, qs.Perm ps ∧ qs.map f = l := by
  intro l l' h
  induction h with
  | nil => intro ps e; exact ⟨ps, .rfl, e⟩
  | cons x _ ih =>
    intro ps e
    cases ps with
    | nil => cases e
    | cons p ps =>
      simp only [List.map_cons, List.cons.injEq] at e
      obtain ⟨qs, h1, h2⟩ := ih ps e.2
      exact ⟨p :: qs, h1.cons p, by simp [h2, e.1]⟩
  | swap x y l =>
    intro ps e
    cases ps with
    | nil => cases e
    | cons p ps =>
      cases ps with
      | nil => cases e
      | cons q ps =>
        simp only [List.map_cons, List.cons.injEq] at e
        exact ⟨q :: p :: ps, List.Perm.swap .., by simp [e.1, e.2.1, e.2.2]⟩
  | trans _ _ ih1 ih2 =>
    intro ps e
    obtain ⟨qs, h1, h2⟩ := ih2 ps e
    obtain ⟨rs, h3, h4⟩ := ih1 qs h2
    exact ⟨rs, h3.trans h1, h4⟩

theorem Ent.perm {l l' ks} (h : Ent knd l ks) (p : l'.Perm l) : Ent knd l' ks := by
  obtain ⟨ps, e, h1, h2⟩ := h
  obtain ⟨qs, q1, q2⟩ := perm_map p ps e
  exact ⟨qs, q2, fun x hx => h1 x (q1.mem_iff.mp hx), (q1.map _).trans h2⟩
theorem Ent.add {l ks} (h : Ent knd l ks) {k : K} {x : Value} (hk : knd.is k x = true) (hx : x.scannable = true) : Ent knd (l ++ [(knd.hash k, x)]) (ks ++ [k]) := by
  obtain ⟨ps, rfl, h1, h2⟩ := h
  refine ⟨ps ++ [(k, (knd.hash k, x))], by simp, fun p hp => ?_, by simpa using h2.append_right [k]⟩
  rcases List.mem_append.mp hp with hp | hp
  · exact h1 p hp
  · rw [List.mem_singleton] at hp; subst hp; exact ⟨hk, rfl, hx⟩

/-- a key more -/
def plus (ks : List K) (k : K) : List K := if k ∈ ks then ks else ks ++ [k]

variable {A : Around} {E : Value → Shared → Prop} {s : Shared}

theorem stored {h : Heap} {a : Addr} {o : Obj} {es es' : Array (Int × Value)} {ep : Nat} {t t' : SetTable} (ho : h.get? a = some o) (hd : o.data = .set es ep t) :
    (h.update a (Obj.putSet es' t')).get? a = some { o with data := .set es' (ep + 1) t' } := by
  have := Heap.get?_update_self (Obj.putSet es' t') ho (by rw [putSet_of es' t' hd]; rfl)
  rwa [putSet_of es' t' hd] at this

end
end PySem.Ds

namespace PySem.Ds
open PySem

/-! ### the walk over a set -/
def itO (f : Value) (i : Nat) (a : Addr) (n ep : Nat) : Obj := { cls := .type "set_iterator", data := .fields #[f, .int i 0, .ref a, .int n 0, .int ep 0] }

section
variable {prog : Program} {w : World} {A : Around} {E : Value → Shared → Prop} {s : Shared}

end
end PySem.Ds

namespace PySem.Ds
open PySem

def StW (I a T : Addr) (o ot : Obj) (n ep : Nat) (F : Nat → Value → Prop) (i : Nat) (h : Heap) : Prop :=
  ∃ f, F i f ∧ h.get? I = some (itO f i a n ep) ∧ h.get? a = some o ∧ h.get? T = some ot

section
variable {prog : Program} {w : World} {A : Around} {E : Value → Shared → Prop} {s : Shared}

variable {I a T : Addr} {o ot : Obj} {n ep : Nat} {es : Array (Int × Value)} {t : SetTable}

end
end PySem.Ds

namespace PySem.Ds
open PySem

section
variable {prog : Program} {w : World} {K : Type} [DecidableEq K] {knd : KeyKind prog w K} {A : Around} {E : Value → Shared → Prop} {s : Shared}

/-- values by their keys, in some order -/
def Vis (knd : KeyKind prog w K) (vs : List Value) (ks : List K) : Prop := ∃ ps : List (K × Value), ps.map (·.2) = vs ∧ (∀ p ∈ ps, knd.is p.1 p.2 = true) ∧ (ps.map (·.1)).Perm ks

end
end PySem.Ds

namespace PySem.Ds
open PySem

section
variable {prog : Program} {w : World} {K : Type} [DecidableEq K] {knd : KeyKind prog w K}

def upto (key : Nat → K) : Nat → List K
  | 0 => []
  | i + 1 => plus (upto key i) (key i)

section
variable {A : Around} {R : Result → Shared → Prop} {I : Addr} {fp wr : List Addr} {G : Array GenState → Array GenState → Prop} {n : Nat} {P : Nat → Value → Prop} {St : Nat → Shared → Prop}

end

section
variable {A : Around} {E : Value → Shared → Prop} {s : Shared}

def s0 (w : World) : Obj := { cls := .type "set", dict := none, data := .set #[] 0 (.fresh 0 0 (!w.params.followText "set-order")) }

end
end
end PySem.Ds

namespace PySem.Ds
open PySem PyProof.Rows
section
variable {prog : Program} {w : World} {A : Around} {E : Value → Shared → Prop} {s : Shared}

theorem SetO.len {K : Type} [DecidableEq K] {knd : PySem.KeyKind prog w K} {ks : List K} {o : Obj} (h : SetO knd ks o) : ks.length < scanBound := by
  obtain ⟨_, _, es, _, t, _, hz, _, _, _, he⟩ := h
  have := he.len; rw [Array.length_toList] at this; omega

end
end PySem.Ds

namespace Dd
open PySem L2 Pk PyProof.Rows
/-! ### sorted(set(..)), over data -/
/-- each once, as first met -/
def ded {α : Type} [DecidableEq α] (l : List α) : List α := l.foldl Ds.plus []
section
variable {α : Type} [DecidableEq α]
end
section
variable {X : Cx} {c : Dc}
def sxI (X : Cx) (p : Addr) (ks : List Int) : HO := .ext fun h => ∃ o, h.get? p = some o ∧ Ds.SetO (PySem.intKind X.prog X.w) ks o
def sxS (X : Cx) (p : Addr) (ks : List Str) : HO := .ext fun h => ∃ o, h.get? p = some o ∧ Ds.SetO (PySem.strKind X.prog X.w) ks o
def rSet (X : Cx) : List V → Hp → VK → Prop := fun vs H Q =>
  (∃ (a : Addr) (ns : List Int), vs = [V.ref a] ∧ SqL X.K H a (ns.map V.int) ∧ ns.length < 4000 ∧ ∀ p, H p = none → Q (.ref p) (upd H p (sxI X p (ded ns)))) ∨
  ∃ (a : Addr) (ns : List Str), vs = [V.ref a] ∧ SqL X.K H a (ns.map V.str) ∧ ns.length < 4000 ∧ ∀ p, H p = none → Q (.ref p) (upd H p (sxS X p (ded ns)))
def rSrtX (X : Cx) : List V → Hp → VK → Prop := fun vs H Q =>
  (∃ (a : Addr) (ks : List Int), vs = [V.ref a] ∧ H a = some (sxI X a ks) ∧ ∀ (ns : List Int) (p : Addr), ns.Perm ks → ns.Pairwise (· ≤ ·) → H p = none → Q (.ref p) (upd H p (.lst (ns.map V.int)))) ∨
  ∃ (a : Addr) (ks : List Str), vs = [V.ref a] ∧ H a = some (sxS X a ks) ∧ ∀ (ns : List Str) (p : Addr), ns.Perm ks → sortedS ns = true → H p = none → Q (.ref p) (upd H p (.lst (ns.map V.str)))
def fSS : DC := fun rs k => ∃ r, rs = [r] ∧ ((∃ ns : List Int, r.d = .lst (ns.map D.int) ∧ ns.length < 4000 ∧ ∀ ns' : List Int, ns'.Perm (ded ns) → ns'.Pairwise (· ≤ ·) → k (.o (ns'.map D.int))) ∨
  ∃ ss : List Str, r.d = .lst (ss.map D.str) ∧ ss.length < 4000 ∧ ∀ ss' : List Str, ss'.Perm (ded ss) → sortedS ss' = true → k (.o (ss'.map D.str)))
end
end Dd

namespace Cc
open PySem PySem.Spec PyProof.Rows L2
section
variable {Kk : Type} [DecidableEq Kk]
/-- a set by its keys -/
def sx {P : Program} {w : World} (knd : PySem.KeyKind P w Kk) (p : Addr) (ks : List Kk) : HO := .ext fun h => ∃ o, h.get? p = some o ∧ Ds.SetO knd ks o
variable {X : Cx}
def tSc (knd : PySem.KeyKind X.prog X.w Kk) (kv : Kk → V) (wi : TI) (g : TG) (tt : TT) (te : TE) (vs : List Nat) : TE := fun σ H Q => wi σ H fun J H1 => ∀ D, H1 D = none → ∃ W : Nat → Nat → Hp → Prop, (∃ m, W 0 m (upd H1 D (sx knd D []))) ∧ ∀ i m H, W i m H →
  (J.stop i H ∧ Q (.ref D) H) ∨ (J.go i H ∧ ∃ Nx : Hp → Prop, (∀ H', Nx H' → ∃ m', m' < m ∧ W (i + 1) m' H') ∧ ∀ x H', J.yld i H x H' → g x (wipe σ vs) H' fun σ2 H2 => wipe σ2 vs = wipe σ vs ∧ tt σ2 H2 fun b H3 =>
    if b = true then te σ2 H3 fun y H4 => ∃ ks k, H4 D = some (sx knd D ks) ∧ y = kv k ∧ ks.length + 1 < scanBound ∧ Nx (upd H4 D (sx knd D (Ds.plus ks k))) else Nx H3)
end
end Cc

namespace Dd
open PySem L2 Pk
open PySem.Builtin.Int (intBits)
section
variable {X : Cx} {c : Dc}
/-- * of numbers of any size that the model has room for -/
def CMulB (i j : Int) : Prop := intBits i ≤ 1048576 ∧ intBits j ≤ 1048576
@[reducible] def aMulB : D2 := fI CMulB fun i j => .int (i * j)
end
theorem q_eqB {i j : Bool} {kr : Rs → Prop} : fEqA false (.s (.bl i)) (.s (.bl j)) kr = kr (.s (.bl (i == j))) := by cases i <;> cases j <;> simp [fEqA, fEqF, flt, toV, scal, Rs.d]
theorem q_neB {i j : Bool} {kr : Rs → Prop} : fEqA true (.s (.bl i)) (.s (.bl j)) kr = kr (.s (.bl (!(i == j)))) := by cases i <;> cases j <;> simp [fEqA, fEqF, flt, toV, scal, Rs.d]
end Dd

namespace Dd
open PySem L2 Pk
open PySem.Builtin.Int (intBits)
/-! ### forms -/
abbrev sNum : Str := Str.ofString "number"
abbrev sTxt : Str := Str.ofString "text"
inductive Fm where
  | cell (p : Nat) | val (d : D) | fst (a b : Fm) | sum (sg : Str) (a b : Fm)
def Fm.d : Fm → D
  | .cell p => .tup [.str (Str.ofString "cell"), .int p]
  | .val d => .tup [.str (Str.ofString "value"), d]
  | .fst a b => .tup [.str (Str.ofString "first"), a.d, b.d]
  | .sum sg a b => .tup [.str (Str.ofString "sum"), .str sg, a.d, b.d]
def sumD (sg : Str) (x y : D) : D := match x, y with
  | .int i, .int j => .int (if sg = Str.ofString "+" then i + j else if sg = Str.ofString "-" then i - j else i * j)
  | _, _ => .non
def fstD (x y : D) : D := if isN x = true then y else x
def Fm.ev (row : List D) : Fm → D
  | .cell p => (row[p]?).getD .non
  | .val d => d
  | .fst a b => fstD (a.ev row) (b.ev row)
  | .sum sg a b => sumD sg (a.ev row) (b.ev row)
def Fm.dp : Fm → Nat
  | .fst a b => max a.dp b.dp + 1
  | .sum _ a b => max a.dp b.dp + 1
  | _ => 0
def isSg (sg : Str) : Prop := sg = Str.ofString "+" ∨ sg = Str.ofString "-" ∨ sg = Str.ofString "*"
def Fm.ok (ks : List Str) : Fm → Str → Prop
  | .cell p, kd => ks[p]? = some kd
  | .val d, kd => OkD kd d
  | .fst a b, kd => a.ok ks kd ∧ b.ok ks kd
  | .sum sg a b, kd => kd = sNum ∧ isSg sg ∧ a.ok ks sNum ∧ b.ok ks sNum
def Kinds (ks : List Str) : Prop := 1 ≤ ks.length ∧ ks.length ≤ 8 ∧ ∀ k ∈ ks, isKd k
def RowOk (ks : List Str) (row : List D) : Prop := row.length = ks.length ∧ ∀ (p : Nat) (kd : Str) (d : D), ks[p]? = some kd → row[p]? = some d → OkD kd d
/-- a cell of a kind, whose number has so many bits -/
def CelB (m : Nat) (kd : Str) (d : D) : Prop := d = .non ∨ (kd = sNum ∧ ∃ n : Int, d = .int n ∧ intBits n ≤ m) ∨ (kd = sTxt ∧ ∃ t, d = .str t ∧ OkT t)
theorem CelB.mono {m n : Nat} {kd : Str} {d : D} (h : CelB m kd d) (l : m ≤ n) : CelB n kd d := by
  rcases h with h | ⟨e, i, rfl, hn⟩ | h
  · exact .inl h
  · exact .inr (.inl ⟨e, i, rfl, Nat.le_trans hn l⟩)
  · exact .inr (.inr h)
theorem CelB.sam {m n : Nat} {kd : Str} {d : D} (h : CelB m kd d) : sam (n + 1) d := by
  rcases h with rfl | ⟨_, i, rfl, _⟩ | ⟨_, t, rfl, _⟩ <;> trivial
/-! promises -/
def dsSumC : DSp := fun args b k _ => ∃ (sg : Str) (x y : D), args = [.val (.str sg), .val x, .val y] ∧ isSg sg ∧ CelB 524288 sNum x ∧ CelB 524288 sNum y ∧ k (.s (sumD sg x y)) b
def dsFc (n : Nat) : DSp := fun args b k _ => ∃ (s : Sl) (row : List D) (f : Fm) (ks : List Str) (kd : Str), args = [s, .val f.d] ∧ SeqIs s row ∧ f.dp < n ∧ f.ok ks kd ∧ RowOk ks row ∧ n ≤ 13 ∧ k (.s (f.ev row)) b
def dsValue : DSp := fun args b k _ => ∃ kd : Str, args = [.st, .val (.str kd)] ∧ isKd kd ∧ b + 100 < 100000000 ∧ ∀ (d : D) (b' : Nat), OkD kd d → b' ≤ b + 32 → k (.s d) b'
def dsKinds : DSp := fun args b k _ => args = [.st] ∧ b + 100 < 100000000 ∧ ∀ (ks : List Str) (b' : Nat), Kinds ks → b' ≤ b + 12 → k (.o (ks.map D.str)) b'
def Rows (ks : List Str) (rs : List D) : Prop := ∀ r ∈ rs, ∃ row, r = .tup row ∧ RowOk ks row
def dsRows : DSp := fun args b k _ => ∃ (s : Sl) (ks : List Str) (m : Nat), args = [.st, s, .val (.int m)] ∧ SeqIs s (ks.map D.str) ∧ Kinds ks ∧ m ≤ 70 ∧ b + 20000 < 100000000 ∧ ∀ (rs : List D) (b' : Nat), rs.length = m → Rows ks rs → b' ≤ b + 13000 → k (.o rs) b'
def dsTable : DSp := fun args b k _ => args = [.st] ∧ b + 30000 < 100000000 ∧ ∀ (ks : List Str) (rs : List D) (b' : Nat), Kinds ks → rs.length ≤ 70 → Rows ks rs → b' ≤ b + 14000 → k (.s (.tup [.lst (ks.map D.str), .lst rs])) b'
def dsForm (n : Nat) : DSp := fun args b k _ => ∃ (s : Sl) (ks : List Str) (m : Nat), args = [.st, s, .val (.int m)] ∧ SeqIs s (ks.map D.str) ∧ Kinds ks ∧ m < n ∧ n ≤ 10 ∧ b + 100 * 2 ^ m + 1000 < 100000000 ∧ ∀ (f : Fm) (kd : Str) (b' : Nat), f.ok ks kd → isKd kd → f.dp ≤ m → b' + 66 ≤ b + 100 * 2 ^ m → k (.s (.tup [f.d, .str kd])) b'
def dsFormOf (n : Nat) : DSp := fun args b k _ => ∃ (s : Sl) (ks : List Str) (m : Nat) (kd : Str), args = [.st, s, .val (.int m), .val (.str kd)] ∧ SeqIs s (ks.map D.str) ∧ Kinds ks ∧ isKd kd ∧ m < n ∧ n ≤ 10 ∧ b + 100 * 2 ^ m + 1000 < 100000000 ∧ ∀ (f : Fm) (b' : Nat), f.ok ks kd → f.dp ≤ m → b' + 34 ≤ b + 100 * 2 ^ m → k (.s f.d) b'
end Dd

namespace Dd
open PySem L2 Pk
/-! ### a, b = x, y -/
def kPar (i j : Nat) (E : DEnds) (A : List Sl) : List Rs → Nat → Prop := fun rs b => ∃ x y, rs = [.s x, .s y] ∧ E.nx ((A.set i (.val x)).set j (.val y)) b
def dPar (i j : Nat) (da : DA) : DS := fun E A b => da A b (kPar i j E A)
section
variable {X : Cx} {c : Dc}
end
theorem q_par {i j : Nat} {da : DA} {E : DEnds} {A : List Sl} {b : Nat} : dPar i j da E A b = da A b (kPar i j E A) := rfl
theorem q_kPar {i j : Nat} {E : DEnds} {A : List Sl} {b : Nat} {x y : D} : kPar i j E A [.s x, .s y] b = E.nx ((A.set i (.val x)).set j (.val y)) b := propext ⟨fun ⟨_, _, e, h⟩ => by cases e; exact h, fun h => ⟨x, y, rfl, h⟩⟩
def RowPre (ks : List Str) (cs : List D) : Prop := ∀ (p : Nat) (kd : Str) (d : D), ks[p]? = some kd → cs[p]? = some d → OkD kd d
theorem RowPre.snoc {ks : List Str} {cs : List D} {kd : Str} {d : D} (h : RowPre ks cs) (e : ks[cs.length]? = some kd) (ok : OkD kd d) : RowPre ks (cs ++ [d]) := fun p kd' d' h1 h2 => by
  rcases Nat.lt_or_ge p cs.length with q | q
  · rw [List.getElem?_append_left q] at h2
    exact h p kd' d' h1 h2
  · rw [List.getElem?_append_right q] at h2
    have : p - cs.length = 0 := by
      cases z : p - cs.length with
      | zero => rfl
      | succ n => rw [z] at h2; simp at h2
    have hp : p = cs.length := by omega
    subst hp
    rw [e] at h1
    cases h1
    simp at h2
    subst h2
    exact ok
/-! a comprehension within a comprehension -/
def relab (scope sc : Scope) : Scope := { scope with names := scope.names.map fun (n, k) => if (k == NameKind.free && sc.kind == .function && sc.names.lookup n == some .cell) then (n, NameKind.cell) else (n, k) }
def lcScope : Expr → Scope
  | .ListComp _ _ s _ => s
  | _ => { kind := .function, names := [], isGenerator := false, isCoroutine := false }
def asgV : Stmt → Expr
  | .Assign _ v _ => v
  | .Return (some v) _ => v
  | .Expr v _ => v
  | _ => .Constant .none 0 ⟨0, 0, 0, 0⟩
def bodyAt (st : Stmt) (i : Nat) : Stmt := (defBody st).getD i (.Pass ⟨0, 0, 0, 0⟩)
def ColsOk (ks : List Str) (m : Nat) (cols : List D) : Prop := ∀ (p : Nat) (kd : Str) (d : D), ks[p]? = some kd → cols[p]? = some d → ∃ col, d = .lst col ∧ col.length = m ∧ ∀ x ∈ col, OkD kd x
theorem ColsOk.snoc {ks : List Str} {m : Nat} {cs : List D} {kd : Str} {col : List D} (h : ColsOk ks m cs) (e : ks[cs.length]? = some kd) (hl : col.length = m) (ok : ∀ x ∈ col, OkD kd x) : ColsOk ks m (cs ++ [.lst col]) := fun p kd' d' h1 h2 => by
  rcases Nat.lt_or_ge p cs.length with q | q
  · rw [List.getElem?_append_left q] at h2
    exact h p kd' d' h1 h2
  · rw [List.getElem?_append_right q] at h2
    have : p - cs.length = 0 := by
      cases z : p - cs.length with
      | zero => rfl
      | succ n => rw [z] at h2; simp at h2
    have hp : p = cs.length := by omega
    subst hp
    rw [e] at h1
    cases h1
    simp at h2
    subst h2
    exact ⟨col, rfl, hl, ok⟩
def colAt (i : Nat) : D → D
  | .lst col => (col[i]?).getD .non
  | _ => .non
theorem ColsOk.mem {ks : List Str} {m : Nat} {cols : List D} {d : D} (h : ColsOk ks m cols) (hl : cols.length = ks.length) (hd : d ∈ cols) : ∃ col, d = .lst col ∧ col.length = m := by
  obtain ⟨p, hp⟩ := List.getElem?_of_mem hd
  have hlt := (List.getElem?_eq_some_iff.mp hp).1
  obtain ⟨col, e, hc, _⟩ := h p (ks[p]'(by omega)) d (List.getElem?_eq_getElem _) hp
  exact ⟨col, e, hc⟩
theorem ColsOk.row {ks : List Str} {m i : Nat} {cols : List D} (h : ColsOk ks m cols) (hl : cols.length = ks.length) (hi : i < m) : RowOk ks (cols.map (colAt i)) := by
  refine ⟨by rw [List.length_map, hl], fun p kd d h1 h2 => ?_⟩
  rw [List.getElem?_map] at h2
  cases e : cols[p]? with
  | none => rw [e] at h2; cases h2
  | some c =>
    rw [e] at h2
    cases h2
    obtain ⟨col, rfl, hc, ok⟩ := h p kd c h1 e
    have hi' : i < col.length := by omega
    show OkD kd ((col[i]?).getD .non)
    rw [List.getElem?_eq_getElem hi']
    exact ok _ (List.getElem_mem hi')
theorem Rows.set {ks : List Str} {rs : List D} {n : Nat} {r : D} (h : Rows ks rs) (hr : r ∈ rs) : Rows ks (rs.set n r) := fun x hx => by
  rcases List.mem_or_eq_of_mem_set hx with z | z
  · exact h x z
  · rw [z]; exact h r hr
end Dd

namespace Dd
open PySem L2 Pk
/-! ### x = {..}; x.update({..}) -/
section
variable {X : Cx} {c : Dc}
def rDupd : V → List V → Hp → VK → Prop := fun x xs H Q => ∃ (a e : Addr) (kvs more : List (Key × V)), x = .ref a ∧ xs = [.ref e] ∧ a ≠ e ∧ H a = some (.dK kvs) ∧ H e = some (.dK more) ∧ kvs.length + more.length ≤ 1000 ∧ Q .non (upd H a (.dK (mergeK kvs more)))
theorem RpK.append {K : PySem.W.Frag} {F : Hp} : ∀ {vs ws : List (Key × V)} {ds es : List (Key × D)}, RpK K F vs ds → RpK K F ws es → RpK K F (vs ++ ws) (ds ++ es)
  | _, _, _, _, .nil, q => q
  | _, _, _, _, .cons a r, q => .cons a (r.append q)
def kDu3 (i : Nat) (u : DS) (E : DEnds) (A : List Sl) (kds1 : List (Key × D)) : PK := fun kds2 b => ((kds1 ++ kds2).map (·.1)).Nodup ∧ kds2.length ≤ 15 ∧ u E (A.set i (.val (.dk (kds1 ++ kds2)))) b
def kDu2 (i : Nat) (drs2 : List (DE × DE)) (u : DS) (E : DEnds) (A : List Sl) : PK := fun kds1 b => i < A.length ∧ (kds1.map (·.1)).Nodup ∧ kds1.length ≤ 15 ∧ dPairs drs2 (A.set i .no) b (kDu3 i u E A kds1)
def dDu (i : Nat) (drs1 drs2 : List (DE × DE)) (u : DS) : DS := fun E A b => dPairs drs1 A b (kDu2 i drs2 u E A)
end
section
variable {A : List Sl} {b i : Nat} {E : DEnds} {u : DS} {drs1 drs2 : List (DE × DE)} {kds kds1 : List (Key × D)}
theorem q_du : dDu i drs1 drs2 u E A b = dPairs drs1 A b (kDu2 i drs2 u E A) := rfl
theorem q_kDu2 : kDu2 i drs2 u E A kds b = (i < A.length ∧ (kds.map (·.1)).Nodup ∧ kds.length ≤ 15 ∧ dPairs drs2 (A.set i .no) b (kDu3 i u E A kds)) := rfl
theorem q_kDu3 : kDu3 i u E A kds1 kds b = (((kds1 ++ kds).map (·.1)).Nodup ∧ kds.length ≤ 15 ∧ u E (A.set i (.val (.dk (kds1 ++ kds)))) b) := rfl
end
/-! ### is True, is False -/
section
variable {X : Cx} {c : Dc}
def fIsB : D2 := fun x y k => ∃ s t, x = .s (.bl s) ∧ y = .s (.bl t) ∧ k (.s (.bl (s == t)))
end
theorem q_isB {s t : Bool} {kr : Rs → Prop} : fIsB (.s (.bl s)) (.s (.bl t)) kr = kr (.s (.bl (s == t))) := propext ⟨fun ⟨_, _, e1, e2, h⟩ => by cases e1; cases e2; exact h, fun h => ⟨s, t, rfl, rfl, h⟩⟩
/-! ### a slice of a tuple, not the whole -/
def fSlT (x : Rs) (lo hi : Option Int) (k : Rs → Prop) : Prop := ∃ xs, x.d = .tup xs ∧ ¬ (HT.sIx xs.length 0 lo = 0 ∧ HT.sIx xs.length xs.length hi = xs.length) ∧ k (.s (.tup (cutD xs lo hi)))
def kSlT3 (x : Rs) (lo : Option Int) (k : DK) : Option Int → Nat → Prop := fun hi b => fSlT x lo hi (kOp3 k b)
def kSlT2 (x : Rs) (dh : DOp) (A : List Sl) (k : DK) : Option Int → Nat → Prop := fun lo b => dh A b (kSlT3 x lo k)
def kSlT1 (dl dh : DOp) (A : List Sl) (k : DK) : DK := fun x b => dl A b (kSlT2 x dh A k)
def dSlT (de : DE) (dl dh : DOp) : DE := fun A b k => de A b (kSlT1 dl dh A k)
theorem q_slT {de : DE} {dl dh : DOp} {A : List Sl} {b : Nat} {k : DK} : dSlT de dl dh A b k = de A b (kSlT1 dl dh A k) := rfl
theorem q_kSlT1 {dl dh : DOp} {A : List Sl} {b : Nat} {k : DK} {x : Rs} : kSlT1 dl dh A k x b = dl A b (kSlT2 x dh A k) := rfl
theorem q_kSlT2 {dh : DOp} {A : List Sl} {b : Nat} {k : DK} {x : Rs} {lo : Option Int} : kSlT2 x dh A k lo b = dh A b (kSlT3 x lo k) := rfl
theorem q_kSlT3 {b : Nat} {k : DK} {xs : List D} {lo hi : Option Int} : kSlT3 (.s (.tup xs)) lo k hi b = (¬ (HT.sIx xs.length 0 lo = 0 ∧ HT.sIx xs.length xs.length hi = xs.length) ∧ k (.s (.tup (cutD xs lo hi))) b) := propext ⟨fun ⟨_, e, h⟩ => by cases e; exact h, fun h => ⟨xs, rfl, h⟩⟩
end Dd

namespace Dd
open PySem L2 Pk
/-! ### tests of cells, tests of rows -/
abbrev sS (s : String) : Str := Str.ofString s
def cmpI (w : Str) (i j : Int) : Bool := if w = sS "=" then decide (i = j) else if w = sS "<>" then !decide (i = j) else if w = sS "<" then decide (i < j) else if w = sS "<=" then decide (i ≤ j) else if w = sS ">" then decide (j < i) else decide (j ≤ i)
def cmpS (w : Str) (i j : Str) : Bool := if w = sS "=" then decide (i = j) else if w = sS "<>" then !decide (i = j) else if w = sS "<" then ltS i j else if w = sS "<=" then !ltS j i else if w = sS ">" then ltS j i else !ltS i j
def cmpD (w : Str) (x y : D) : Bool := match x, y with
  | .int i, .int j => cmpI w i j
  | .str i, .str j => cmpS w i j
  | _, _ => false
def isCmp (w : Str) : Prop := w = sS "=" ∨ w = sS "<>" ∨ w = sS "<" ∨ w = sS "<=" ∨ w = sS ">" ∨ w = sS ">="
inductive CT where
  | opn | sg (w : Str) (v : D) | amg (vs : List D) | amt (vs : List D)
def CT.d : CT → D
  | .opn => .tup [.str (sS "open")]
  | .sg w v => .tup [.str w, v]
  | .amg vs => .tup [.str (sS "among"), .lst vs]
  | .amt vs => .tup [.str (sS "among"), .tup vs]
def Kn (kd : Str) (d : D) : Prop := OkD kd d ∧ isN d = false
def CT.ok (kd : Str) : CT → Prop
  | .opn => True
  | .sg w v => isCmp w ∧ Kn kd v
  | .amg vs => vs.length ≤ 100 ∧ ∀ v ∈ vs, Kn kd v
  | .amt vs => vs.length ≤ 100 ∧ ∀ v ∈ vs, Kn kd v
def CT.ev (c : D) : CT → Bool
  | .opn => isN c
  | .sg w v => !isN c && cmpD w c v
  | .amg vs => !isN c && ind c vs
  | .amt vs => !isN c && ind c vs
inductive RT where
  | alw | cel (p : Nat) (t : CT) | cls (p : Nat) (w : Str) (q : Nat) | neg (a : RT) | both (a b : RT) | eith (a b : RT)
def RT.d : RT → D
  | .alw => .tup [.str (sS "always")]
  | .cel p t => .tup [.str (sS "cell"), .int p, t.d]
  | .cls p w q => .tup [.str (sS "cells"), .int p, .str w, .int q]
  | .neg a => .tup [.str (sS "not"), a.d]
  | .both a b => .tup [.str (sS "both"), a.d, b.d]
  | .eith a b => .tup [.str (sS "either"), a.d, b.d]
def RT.ok (ks : List Str) : RT → Prop
  | .alw => True
  | .cel p t => ∃ kd, ks[p]? = some kd ∧ isKd kd ∧ t.ok kd
  | .cls p w q => ∃ kd, ks[p]? = some kd ∧ ks[q]? = some kd ∧ isKd kd ∧ isCmp w
  | .neg a => a.ok ks
  | .both a b => a.ok ks ∧ b.ok ks
  | .eith a b => a.ok ks ∧ b.ok ks
def cellAt (row : List D) (p : Nat) : D := (row[p]?).getD .non
def RT.ev (row : List D) : RT → Bool
  | .alw => true
  | .cel p t => t.ev (cellAt row p)
  | .cls p w q => !isN (cellAt row q) && (CT.sg w (cellAt row q)).ev (cellAt row p)
  | .neg a => !a.ev row
  | .both a b => a.ev row && b.ev row
  | .eith a b => a.ev row || b.ev row
def RT.dp : RT → Nat
  | .neg a => a.dp + 1
  | .both a b => max a.dp b.dp + 1
  | .eith a b => max a.dp b.dp + 1
  | _ => 0
theorem Kn.cases {kd : Str} {d : D} (h : Kn kd d) : (kd = sNum ∧ ∃ n : Int, d = .int n ∧ n.natAbs < 10 ^ 18) ∨ (kd = sTxt ∧ ∃ t, d = .str t ∧ OkT t) := by
  rcases h.1 with rfl | h' | h'
  · cases h.2
  · exact .inl h'
  · exact .inr h'
theorem OkD.kn {kd : Str} {d : D} (h : OkD kd d) (n : isN d = false) : Kn kd d := ⟨h, n⟩
theorem Kn.flt {kd : Str} {d : D} (h : OkD kd d) : flt d = true := by
  rcases h with rfl | ⟨_, n, rfl, _⟩ | ⟨_, t, rfl, _⟩ <;> rfl
/-- two known cells of a kind -/
theorem Kn.two {kd : Str} {x y : D} (hx : Kn kd x) (hy : Kn kd y) : (∃ i j : Int, x = .int i ∧ y = .int j) ∨ ∃ s t : Str, x = .str s ∧ y = .str t := by
  rcases hx.cases with ⟨e, n, rfl, _⟩ | ⟨e, n, rfl, _⟩ <;> rcases hy.cases with ⟨e', m, rfl, _⟩ | ⟨e', m, rfl, _⟩
  · exact .inl ⟨_, _, rfl, rfl⟩
  · rw [e] at e'; exact absurd e' kd_ne
  · rw [e] at e'; exact absurd e'.symm kd_ne
  · exact .inr ⟨_, _, rfl, rfl⟩
/-! promises -/
def dsStands : DSp := fun args b k _ => ∃ (kd w : Str) (x y : D), args = [.val x, .val (.str w), .val y] ∧ isCmp w ∧ Kn kd x ∧ Kn kd y ∧ k (.s (.bl (cmpD w x y))) b
def dsMeets : DSp := fun args b k _ => ∃ (kd : Str) (x : D) (t : CT), args = [.val x, .val t.d] ∧ OkD kd x ∧ t.ok kd ∧ k (.s (.bl (t.ev x))) b
def dsCsso : DSp := fun args b k _ => ∃ (kd w : Str) (x y : D), args = [.val x, .val (.str w), .val y] ∧ isCmp w ∧ OkD kd x ∧ OkD kd y ∧ k (.s (.bl (!isN y && (CT.sg w y).ev x))) b
def dsRt (n : Nat) : DSp := fun args b k _ => ∃ (s : Sl) (row : List D) (t : RT) (ks : List Str), args = [s, .val t.d] ∧ SeqIs s row ∧ t.dp < n ∧ t.ok ks ∧ RowOk ks row ∧ k (.s (.bl (t.ev row))) b
def dsNear : DSp := fun args b k _ => ∃ (kd : Str) (s : Sl) (cs : List D), args = [.st, .val (.str kd), s] ∧ isKd kd ∧ SeqIs s cs ∧ cs.length ≤ 1000 ∧ (∀ d ∈ cs, OkD kd d) ∧ b + 100 < 100000000 ∧ ∀ (d : D) (b' : Nat), Kn kd d → b' ≤ b + 32 → k (.s d) b'
def dsCellTest : DSp := fun args b k _ => ∃ (kd : Str) (s : Sl) (cs : List D), args = [.st, .val (.str kd), s] ∧ isKd kd ∧ SeqIs s cs ∧ cs.length ≤ 1000 ∧ (∀ d ∈ cs, OkD kd d) ∧ b + 1000 < 100000000 ∧ ∀ (t : CT) (b' : Nat), t.ok kd → b' ≤ b + 500 → k (.s t.d) b'
def dsTest (n : Nat) : DSp := fun args b k _ => ∃ (ks : List Str) (cols : List D) (h m : Nat), args = [.st, .bb (ks.map D.str), .bb cols, .val (.int m)] ∧ Kinds ks ∧ cols.length = ks.length ∧ ColsOk ks h cols ∧ h ≤ 1000 ∧ m < n ∧ n ≤ 13 ∧ b + 1000 * 2 ^ m + 2000 < 100000000 ∧ ∀ (t : RT) (b' : Nat), t.ok ks → t.dp ≤ m → b' + 400 ≤ b + 1000 * 2 ^ m → k (.s t.d) b'
def dsHand (n : Nat) : DSp := fun args b k _ => ∃ d, args = [.val d] ∧ sam n d ∧ k (.s d) b
def dsShape : DSp := fun args b k _ => args = [.st] ∧ b + 100 < 100000000 ∧ ∀ (m : Nat) (l : Int) (b' : Nat), m ≤ 70 → b' ≤ b + 20 → k (.s (.tup [.int m, .int l])) b'
theorem isCmp.ne {w : Str} (h : isCmp w) : (¬ w = sS "open") ∧ ¬ w = sS "among" := by
  rcases h with rfl | rfl | rfl | rfl | rfl | rfl <;> constructor <;> decide +kernel
theorem RowOk.at {ks : List Str} {row : List D} {p : Nat} {kd : Str} (h : RowOk ks row) (e : ks[p]? = some kd) : atI row (p : Int) = some (cellAt row p) ∧ OkD kd (cellAt row p) := by
  have hp : p < row.length := by rw [h.1]; exact (List.getElem?_eq_some_iff.mp e).1
  have he : row[p]? = some row[p] := List.getElem?_eq_getElem hp
  have ec : cellAt row p = row[p] := by unfold cellAt; rw [he]; rfl
  rw [ec]
  refine ⟨?_, h.2 p kd _ e he⟩
  unfold atI
  rw [ix_ok (by omega) (by omega)]
  exact he
theorem RowOk.pn {ks : List Str} {row : List D} (hr : RowOk ks row) : Pn 1 (.lst row) := Pn.lst fun x hx => by
  obtain ⟨p, hp⟩ := List.getElem?_of_mem hx
  have hlt := (List.getElem?_eq_some_iff.mp hp).1
  have h1 := hr.1
  exact (hr.2 p (ks[p]'(by omega)) x (List.getElem?_eq_getElem _) hp).pn
theorem okT_cut {z : Str} (hc : ∀ c ∈ z.cps.toList, okC c = true) {hi : Option Int} (hl : HT.sIx z.length z.length hi ≤ 20) : OkT (cutS z none hi) := by
  unfold cutS
  refine ⟨?_, fun c h => hc c ?_⟩
  · show (List.toArray _).size ≤ 20
    rw [List.size_toArray, List.length_take]
    omega
  · have h' : c ∈ (z.cps.toList.drop (HT.sIx z.length 0 none)).take (HT.sIx z.length z.length hi - HT.sIx z.length 0 none) := by simpa using h
    exact List.mem_of_mem_drop (List.mem_of_mem_take h')
theorem OkT.cut {t : Str} (h : OkT t) (hi : Option Int) : OkT (cutS t none hi) := okT_cut h.c (Nat.le_trans (HT.sIx_le _ _ (Nat.le_refl _) _) h.l)
theorem Kn.sam {kd : Str} {d : D} {n : Nat} (h : Kn kd d) : sam (n + 1) d := h.1.sam
theorem CT.sam {kd : Str} {t : CT} {n : Nat} (h : t.ok kd) : sam (n + 3) t.d := by
  cases t with
  | opn => exact ⟨by show 1 < 100000; decide, fun x hx => by simp at hx; subst hx; trivial⟩
  | sg w v => exact ⟨by show 2 < 100000; decide, fun x hx => by
      simp at hx
      rcases hx with rfl | rfl
      · trivial
      · exact h.2.sam⟩
  | amg vs => exact ⟨by show 2 < 100000; decide, fun x hx => by
      simp at hx
      rcases hx with rfl | rfl
      · trivial
      · exact ⟨by have := h.1; omega, fun v hv => (h.2 v hv).sam⟩⟩
  | amt vs => exact ⟨by show 2 < 100000; decide, fun x hx => by
      simp at hx
      rcases hx with rfl | rfl
      · trivial
      · exact ⟨by have := h.1; omega, fun v hv => (h.2 v hv).sam⟩⟩
theorem RT.sam {ks : List Str} : ∀ {t : RT} {n : Nat}, t.ok ks → t.dp + 4 ≤ n → Dd.sam n t.d
  | .alw, n + 1, _, _ => ⟨by show 1 < 100000; decide, fun x hx => by simp at hx; subst hx; cases n <;> first | trivial | omega⟩
  | .cel p ct, n + 4, h, _ => ⟨by show 3 < 100000; decide, fun x hx => by
      obtain ⟨kd, _, _, hc⟩ := h
      simp at hx
      rcases hx with rfl | rfl | rfl
      · trivial
      · trivial
      · exact CT.sam (n := n) hc⟩
  | .cls p w q, n + 2, h, _ => ⟨by show 4 < 100000; decide, fun x hx => by
      simp at hx
      rcases hx with rfl | rfl | rfl | rfl <;> trivial⟩
  | .neg a, n + 2, h, l => ⟨by show 2 < 100000; decide, fun x hx => by
      have l' : a.dp + 1 + 4 ≤ n + 2 := l
      simp at hx
      rcases hx with rfl | rfl
      · trivial
      · exact RT.sam (n := n + 1) (t := a) h (by omega)⟩
  | .both a b, n + 2, h, l => ⟨by show 3 < 100000; decide, fun x hx => by
      have l' : max a.dp b.dp + 1 + 4 ≤ n + 2 := l
      simp at hx
      rcases hx with rfl | rfl | rfl
      · trivial
      · exact RT.sam (n := n + 1) (t := a) h.1 (by omega)
      · exact RT.sam (n := n + 1) (t := b) h.2 (by omega)⟩
  | .eith a b, n + 2, h, l => ⟨by show 3 < 100000; decide, fun x hx => by
      have l' : max a.dp b.dp + 1 + 4 ≤ n + 2 := l
      simp at hx
      rcases hx with rfl | rfl | rfl
      · trivial
      · exact RT.sam (n := n + 1) (t := a) h.1 (by omega)
      · exact RT.sam (n := n + 1) (t := b) h.2 (by omega)⟩
theorem pn_str {s : Str} (h : PyData.strOk s = true) : Pn 0 (.str s) := ⟨rfl, by simp [py, PyData.canLay0, h], by simp [py, PyData.depth]⟩
theorem isCmp.pn {w : Str} (h : isCmp w) : Pn 0 (.str w) := by
  rcases h with rfl | rfl | rfl | rfl | rfl | rfl <;> exact pn_str (by decide +kernel)
theorem CT.pn {kd : Str} {t : CT} (h : t.ok kd) : Pn 2 t.d := by
  cases t with
  | opn => exact (Pn.tup (n := 0) fun x hx => by simp at hx; subst hx; exact pn_str (by decide +kernel)).mono (by decide)
  | sg w v => exact (Pn.tup (n := 0) fun x hx => by
      simp at hx
      rcases hx with rfl | rfl
      · exact h.1.pn
      · exact h.2.1.pn).mono (by decide)
  | amg vs => exact (Pn.tup (n := 1) fun x hx => by
      simp at hx
      rcases hx with rfl | rfl
      · exact (pn_str (by decide +kernel)).mono (by decide)
      · exact Pn.lst fun v hv => (h.2 v hv).1.pn)
  | amt vs => exact (Pn.tup (n := 1) fun x hx => by
      simp at hx
      rcases hx with rfl | rfl
      · exact (pn_str (by decide +kernel)).mono (by decide)
      · exact Pn.tup fun v hv => (h.2 v hv).1.pn)
theorem RT.pn {ks : List Str} : ∀ {t : RT}, t.ok ks → Pn (t.dp + 3) t.d
  | .alw, _ => (Pn.tup (n := 0) fun x hx => by simp at hx; subst hx; exact pn_str (by decide +kernel)).mono (by decide)
  | .cel p ct, h => Pn.tup (n := 2) fun x hx => by
      obtain ⟨kd, _, _, hc⟩ := h
      simp at hx
      rcases hx with rfl | rfl | rfl
      · exact (pn_str (by decide +kernel)).mono (by decide)
      · exact pn_int.mono (by decide)
      · exact CT.pn hc
  | .cls p w q, h => (Pn.tup (n := 0) fun x hx => by
      obtain ⟨kd, _, _, _, hw⟩ := h
      simp at hx
      rcases hx with rfl | rfl | rfl | rfl
      · exact pn_str (by decide +kernel)
      · exact pn_int
      · exact hw.pn
      · exact pn_int).mono (by show 1 ≤ _; omega)
  | .neg a, h => (Pn.tup (n := a.dp + 3) fun x hx => by
      simp at hx
      rcases hx with rfl | rfl
      · exact (pn_str (by decide +kernel)).mono (by omega)
      · exact RT.pn (t := a) h).mono (by show a.dp + 3 + 1 ≤ a.dp + 1 + 3; omega)
  | .both a b, h => (Pn.tup (n := max a.dp b.dp + 3) fun x hx => by
      simp at hx
      rcases hx with rfl | rfl | rfl
      · exact (pn_str (by decide +kernel)).mono (by omega)
      · exact (RT.pn (t := a) h.1).mono (by omega)
      · exact (RT.pn (t := b) h.2).mono (by omega)).mono (by show max a.dp b.dp + 3 + 1 ≤ max a.dp b.dp + 1 + 3; omega)
  | .eith a b, h => (Pn.tup (n := max a.dp b.dp + 3) fun x hx => by
      simp at hx
      rcases hx with rfl | rfl | rfl
      · exact (pn_str (by decide +kernel)).mono (by omega)
      · exact (RT.pn (t := a) h.1).mono (by omega)
      · exact (RT.pn (t := b) h.2).mono (by omega)).mono (by show max a.dp b.dp + 3 + 1 ≤ max a.dp b.dp + 1 + 3; omega)
end Dd

namespace Dd
open PySem L2 Pk
/-! ### str() of a list or a tuple -/
section
variable {X : Cx} {c : Dc}
def rStrD (K : PySem.W.Frag) : List V → Hp → VK → Prop := fun vs H Q => ∃ (a : Addr) (d : PyData), vs = [.ref a] ∧ Dp K H (.ref a) d ∧ d.showable = true ∧ d.hasDict = false ∧ d.depth ≤ 50 ∧ d.shown.length ≤ sizeLine ∧ Q (.str d.shown) H
/-- data that can be told by str() -/
def Shw (d : D) : Prop := pl d = true ∧ (py d).showable = true ∧ (py d).hasDict = false ∧ (py d).depth ≤ 50 ∧ (py d).shown.length ≤ sizeLine
def fStrD : DC := fun rs k => ∃ r xs, rs = [r] ∧ (r.d = .lst xs ∨ r.d = .tup xs) ∧ r ≠ .g ∧ Shw r.d ∧ k (.s (.str (py r.d).shown))
end
theorem q_strT {xs : List D} {kr : Rs → Prop} : fStrD [.s (.tup xs)] kr = (Shw (.tup xs) ∧ kr (.s (.str (py (.tup xs)).shown))) := propext ⟨fun ⟨_, _, e, _, _, h1, h2⟩ => by cases e; exact ⟨h1, h2⟩, fun ⟨h1, h2⟩ => ⟨_, xs, rfl, .inr rfl, by simp, h1, h2⟩⟩
/-! what may be told -/
/-- of so many levels and so much weight -/
def ShN (n w : Nat) (d : D) : Prop := pl d = true ∧ (py d).showable = true ∧ (py d).hasDict = false ∧ (py d).depth ≤ n ∧ (py d).leavesShort 20 = true ∧ (py d).weight ≤ w
theorem shns {n w : Nat} : ∀ {xs : List D}, (∀ x ∈ xs, ShN n w x) → pls xs = true ∧ PyData.showableAll (pys xs) = true ∧ PyData.hasDictAll (pys xs) = false ∧ PyData.depthAll (pys xs) ≤ n ∧ PyData.leavesShortAll 20 (pys xs) = true ∧ PyData.weightAll (pys xs) ≤ xs.length * (w + 1)
  | [], _ => ⟨rfl, rfl, rfl, Nat.zero_le _, rfl, Nat.zero_le _⟩
  | x :: xs, h => by
    obtain ⟨h1, h2, h3, h4, h5, h6⟩ := h x (by simp)
    obtain ⟨g1, g2, g3, g4, g5, g6⟩ := shns fun y hy => h y (List.mem_cons_of_mem _ hy)
    refine ⟨by unfold pls; rw [h1, g1]; rfl, by unfold pys PyData.showableAll; rw [h2, g2]; rfl, by unfold pys PyData.hasDictAll; rw [h3, g3]; rfl, ?_, by unfold pys PyData.leavesShortAll; rw [h5, g5]; rfl, ?_⟩
    · unfold pys PyData.depthAll; exact Nat.max_le.mpr ⟨h4, g4⟩
    · unfold pys PyData.weightAll
      rw [List.length_cons, Nat.add_mul]
      omega
theorem ShN.tup {n w : Nat} {xs : List D} (h : ∀ x ∈ xs, ShN n w x) : ShN (n + 1) (xs.length * (w + 1)) (.tup xs) := by
  obtain ⟨h1, h2, h3, h4, h5, h6⟩ := shns h
  refine ⟨by unfold pl; exact h1, by unfold py PyData.showable; exact h2, by unfold py PyData.hasDict; exact h3, ?_, by unfold py PyData.leavesShort; exact h5, by unfold py PyData.weight; exact h6⟩
  unfold py PyData.depth; omega
theorem ShN.lst {n w : Nat} {xs : List D} (h : ∀ x ∈ xs, ShN n w x) : ShN (n + 1) (xs.length * (w + 1)) (.lst xs) := by
  obtain ⟨h1, h2, h3, h4, h5, h6⟩ := shns h
  refine ⟨by unfold pl; exact h1, by unfold py PyData.showable; exact h2, by unfold py PyData.hasDict; exact h3, ?_, by unfold py PyData.leavesShort; exact h5, by unfold py PyData.weight; exact h6⟩
  unfold py PyData.depth; omega
theorem ShN.mono {n m w v : Nat} {d : D} (h : ShN n w d) (l : n ≤ m) (l' : w ≤ v) : ShN m v d := by
  obtain ⟨h1, h2, h3, h4, h5, h6⟩ := h
  exact ⟨h1, h2, h3, by omega, h5, by omega⟩
end Dd

namespace Dd
open PySem L2 Pk
/-! ### a cell's place to a value, as -1, 0, 1 -/
/-- below, above, alike: just one of them -/
def Tri (a b e : Bool) : Prop := (a = true ∧ b = false ∧ e = false) ∨ (a = false ∧ b = true ∧ e = false) ∨ (a = false ∧ b = false ∧ e = true)
def ordI (a b : Bool) : Int := (if b = true then 1 else 0) - (if a = true then 1 else 0)
/-- the same by one look at each -/
def alikeD (x v : D) : Bool := eqV (toV v) (toV x)
def dsToldSo : DSp := fun args b k _ => ∃ (kd : Str) (x : D) (t : CT), args = [.val x, .val t.d] ∧ OkD kd x ∧ t.ok kd ∧ k (.s (.bl true)) b
end Dd

namespace Dd
open PySem L2 Pk
/-! ### a module's dict, read by a key -/
inductive Ent (w : World) : List DictEntry → List (Key × V) → Prop
  | nil : Ent w [] []
  | cons {e : DictEntry} {es : List DictEntry} {k : Key} {v : V} {kvs : List (Key × V)} : keyIs k e.key = true → e.hash = keyH w k → RelV v e.val → Ent w es kvs → Ent w (e :: es) ((k, v) :: kvs)
/-- the name's value is a dict of the text's own, as it was laid -/
def GDict (K : PySem.W.Frag) (w : World) (mg : Str → Option Value) (x : Str) (kvs : List (Key × V)) : Prop :=
  ∃ (a : Addr) (es : Array DictEntry) (ep : Nat), mg x = some (.ref a) ∧ K.lookup a = some ⟨.type "dict", none, .dict es ep, #[]⟩ ∧ Ent w es.toList kvs ∧ (kvs.map (·.1)).Nodup
theorem Ent.pairs {P : Program} {w : World} : ∀ {es : List DictEntry} {kvs : List (Key × V)}, Ent w es kvs → ∃ vs : List (Key × Value), Pairs (mixKind P w) es vs ∧ KV kvs vs ∧ vs.map (·.1) = kvs.map (·.1) ∧ ∀ e ∈ es, ∃ k, (mixKind P w).is k e.key = true ∧ e.hash = (mixKind P w).hash k
  | _, _, .nil => ⟨[], .nil, .nil, rfl, fun e he => by cases he⟩
  | _, _, .cons (e := e) (k := k) (v := v) h1 h2 h3 r => by
    obtain ⟨vs, p, kv, hk, ha⟩ := r.pairs (P := P)
    refine ⟨(k, e.val) :: vs, .cons h1 rfl p, .cons ⟨rfl, h3⟩ kv, by rw [List.map_cons, List.map_cons, hk], fun e' he' => ?_⟩
    rcases List.mem_cons.mp he' with rfl | z
    · exact ⟨k, h1, h2⟩
    · exact ha e' z
section
variable {X : Cx} {c : Dc}
def tGD (kvs : List (Key × V)) (ty : TE) : TE := fun σ H Q => ty σ H fun y H1 => ∃ k v, y = kV k ∧ valV kvs k = some v ∧ Q v H1
def fGD (kds : List (Key × D)) : Rs → (Rs → Prop) → Prop := fun y k => ∃ key d, keyD y = some key ∧ valD kds key = some d ∧ k (.s d)
def kGD (kds : List (Key × D)) (k : DK) : DK := fun y b => fGD kds y (kOp3 k b)
def dGD (kds : List (Key × D)) (db : DE) : DE := fun A b k => db A b (kGD kds k)
/-- texts by texts -/
def txK (kts : List (Key × Str)) : List (Key × V) := kts.map fun p => (p.1, V.str p.2)
def txD (kts : List (Key × Str)) : List (Key × D) := kts.map fun p => (p.1, D.str p.2)
end
theorem q_gd {kds : List (Key × D)} {db : DE} {A : List Sl} {b : Nat} {k : DK} : dGD kds db A b k = db A b (kGD kds k) := rfl
theorem q_kGD {kds : List (Key × D)} {b : Nat} {k : DK} {s : Str} : kGD kds k (.s (.str s)) b = ∃ d, valD kds (.inr s) = some d ∧ k (.s d) b := propext ⟨fun ⟨_, d, e, h⟩ => by cases e; exact ⟨d, h⟩, fun ⟨d, h⟩ => ⟨_, d, rfl, h⟩⟩
end Dd

namespace Dd
open PySem L2 Pk
/-! ### what a note tells of a test -/
def ltD (x y : D) : Bool := match x, y with
  | .int i, .int j => decide (i < j)
  | .str i, .str j => ltS i j
  | _, _ => false
def eqC (x y : D) : Bool := match x, y with
  | .int i, .int j => decide (i = j)
  | .str i, .str j => decide (i = j)
  | _, _ => false
def allB (lo hi : D) : CT → Bool
  | .opn => false
  | .sg w v => if w = sS "<>" then ltD v lo || ltD hi v else cmpD w lo v && cmpD w hi v
  | .amg vs => eqC lo hi && ind lo vs
  | .amt vs => eqC lo hi && ind lo vs
def opp (w : Str) : Str := if w = sS "=" then sS "<>" else if w = sS "<>" then sS "=" else if w = sS "<" then sS ">=" else if w = sS ">=" then sS "<" else if w = sS ">" then sS "<=" else sS ">"
def within (lo hi v : D) : Bool := !ltD v lo && !ltD hi v
def nonB (lo hi : D) : CT → Bool
  | .opn => false
  | .sg w v => allB lo hi (.sg (opp w) v)
  | .amg vs => !((vs.map (within lo hi)).any id)
  | .amt vs => !((vs.map (within lo hi)).any id)
def isOpn : CT → Bool
  | .opn => true
  | _ => false
/-- the word: many, opened, the ends -/
def lookW (n u : Int) (lo hi : D) (t : CT) : Str :=
  if isOpn t = true then (if u = 0 then sS "none" else if u = n then sS "all" else sS "some")
  else if u = n then sS "none" else if nonB lo hi t = true then sS "none" else if u = 0 ∧ allB lo hi t = true then sS "all" else sS "some"
def dsBetween (f : D → D → CT → Bool) : DSp := fun args b k _ => ∃ (kd : Str) (lo hi : D) (t : CT), args = [.val lo, .val hi, .val t.d] ∧ Kn kd lo ∧ Kn kd hi ∧ t.ok kd ∧ isOpn t = false ∧ k (.s (.bl (f lo hi t))) b
def dsLfo : DSp := fun args b k _ => ∃ n u : Int, args = [.val (.int n), .val (.int u)] ∧ k (.s (.str (if u = 0 then sS "none" else if u = n then sS "all" else sS "some"))) b
/-! the ends, in order -/
structure Ends (kd : Str) (a z : D) : Prop where
  lo : Kn kd a
  hi : Kn kd z
  le : ltD z a = false
def dsLooked : DSp := fun args b k _ => ∃ (kd : Str) (n u : Int) (lo hi : D) (t : CT), args = [.val (.tup [.int n, .int u, lo, hi]), .val t.d] ∧ 0 < n ∧ 0 ≤ u ∧ u ≤ n ∧ t.ok kd ∧ (u = n ∨ Ends kd lo hi) ∧ k (.s (.str (lookW n u lo hi t))) b
end Dd

namespace Dd
open PySem L2 Pk
/-! ### the law's own way to look at the ends -/
def cmpT (w : Str) (a a' e : Bool) : Bool := if w = sS "=" then e else if w = sS "<>" then !e else if w = sS "<" then a else if w = sS "<=" then !a' else if w = sS ">" then a' else !a
structure Bet (a a' ea c c' ec e : Bool) : Prop where
  t1 : Tri a a' ea
  t2 : Tri c c' ec
  up : c = true → a = true
  dn : a' = true → c' = true
  eq : ea = true → ec = true → e = true
def insB (w : Str) (lo hi v : D) : Bool := (decide (w = sS "=") || decide (w = sS "<>")) && (ltD lo v && ltD v hi)
def noneL (w : Str) (lo hi v : D) : Bool := !(cmpD w lo v || cmpD w hi v) && (!(insB w lo hi v && decide (w = sS "=")) && !(decide (w = sS "<>") && !eqC lo hi))
def everyL (w : Str) (lo hi v : D) : Bool := (cmpD w lo v && cmpD w hi v) && (!(insB w lo hi v && decide (w = sS "<>")) && !(decide (w = sS "=") && !eqC lo hi))
/-- among: each value beyond the ends, or within -/
def beyond (lo hi v : D) : Bool := ltD v lo || ltD hi v
end Dd

namespace Bm
/-! numbers of w bits each, one behind the other -/
def vl (w : Nat) : List Nat → Nat
  | [] => 0
  | n :: r => n + 2 ^ w * vl w r
/-- the first k bytes of a number -/
def bts : Nat → Nat → List Nat
  | 0, _ => []
  | k + 1, t => (t % 256) :: bts k (t / 256)
/-- its first k bits -/
def bl : Nat → Nat → List Nat
  | 0, _ => []
  | k + 1, t => (t % 2) :: bl k (t / 2)
theorem bts_mod (a t u : Nat) : bts a (t + 256 ^ a * u) = bts a t := by
  induction a generalizing t u with
  | zero => rfl
  | succ a ih =>
    have e : t + 256 ^ (a + 1) * u = t + 256 * (256 ^ a * u) := by rw [Nat.pow_succ, Nat.mul_comm (256 ^ a) 256, Nat.mul_assoc]
    rw [bts, bts, e, Nat.add_mul_mod_self_left, Nat.add_mul_div_left _ _ (by decide), ih]
theorem vl_lt {w : Nat} : ∀ {ns : List Nat}, (∀ n ∈ ns, n < 2 ^ w) → vl w ns < 2 ^ (w * ns.length)
  | [], _ => by simp [vl]
  | n :: r, h => by
    have h1 := h n List.mem_cons_self
    have h2 := vl_lt (ns := r) fun m hm => h m (List.mem_cons_of_mem _ hm)
    rw [vl, List.length_cons, Nat.mul_succ, Nat.add_comm (w * r.length), Nat.pow_add]
    have : 2 ^ w * (vl w r + 1) ≤ 2 ^ w * 2 ^ (w * r.length) := Nat.mul_le_mul_left _ h2
    rw [Nat.mul_add] at this
    omega
theorem vl_snoc (w : Nat) : ∀ (ns : List Nat) (n : Nat), vl w (ns ++ [n]) = vl w ns + n * 2 ^ (w * ns.length)
  | [], n => by simp [vl]
  | m :: r, n => by
    show m + 2 ^ w * vl w (r ++ [n]) = m + 2 ^ w * vl w r + _
    rw [vl_snoc w r n, List.length_cons, Nat.mul_succ, Nat.add_comm (w * r.length), Nat.pow_add, Nat.mul_add, Nat.mul_left_comm, Nat.add_assoc]
/-- what bits are worth, the first one the least -/
def worth : List Nat → Nat
  | [] => 0
  | b :: r => b + 2 * worth r
theorem p256 (k : Nat) : 256 ^ k = 2 ^ (8 * k) := by rw [Nat.pow_mul]
/-- r bytes are read and j numbers told -/
structure Rdp (w : Nat) (ns : List Nat) (j r held bits : Nat) : Prop where
  b : bits + w * j = 8 * r
  h : held = vl w ns % 256 ^ r / 2 ^ (w * j)
theorem Rdp.pow {w : Nat} {ns : List Nat} {j r held bits : Nat} (R : Rdp w ns j r held bits) : 256 ^ r = 2 ^ (w * j) * 2 ^ bits := by
  rw [p256, ← R.b, Nat.pow_add, Nat.mul_comm]
theorem Rdp.lt {w : Nat} {ns : List Nat} {j r held bits : Nat} (R : Rdp w ns j r held bits) : held < 2 ^ bits := by
  rw [R.h]
  refine (Nat.div_lt_iff_lt_mul (Nat.two_pow_pos _)).mpr ?_
  rw [Nat.mul_comm, ← R.pow]
  exact Nat.mod_lt _ (Nat.pow_pos (by decide))
theorem Rdp.done {w : Nat} {ns : List Nat} {r held bits : Nat} (R : Rdp w ns ns.length r held bits) (hn : ∀ n ∈ ns, n < 2 ^ w) : held = 0 := by
  rw [R.h]
  exact Nat.div_eq_of_lt (Nat.lt_of_le_of_lt (Nat.mod_le _ _) (vl_lt hn))
end Bm

namespace Pk
open PySem PySem.Spec PyProof.Rows L2
/-! ### a walk over a list or a tuple that stays -/
def iSq (K : PySem.W.Frag) (tl : TE) : TI := fun σ H R => iList K tl σ H R ∨ iTup K tl σ H R
/-! ### a walk from the last item to the first -/
/-! ### how many bits -/
/-! ### numbers packed -/
open Bm
def nv (n : Nat) : V := .int (n : Int)
def ic (n : Nat) : Int := (n : Int)
def spBits : Sp := fun vs H Q _ => ∃ n : Int, vs = [.int n] ∧ Q (.int (Builtin.Int.intBits n)) H
def spPacked : Sp := fun vs H Q _ => ∃ (a : Addr) (w : Nat) (ns : List Nat), vs = [.ref a, .int w] ∧ w ≤ 62 ∧ Sq H a (ns.map nv) ∧ (∀ n ∈ ns, n < 2 ^ w) ∧ ns.length ≤ 64 ∧
  ∀ p H', Same H H' → H p = none → H' p = some (.lst ((bts ((w * ns.length + 7) / 8) (vl w ns)).map nv)) → Q (.ref p) H'
def spTakeP : Sp := fun vs H Q _ => ∃ (r : Addr) (w : Nat) (ns : List Nat) (pre post : List Int), vs = [.ref r, .int pre.length, .int ns.length, .int w] ∧ w ≤ 62 ∧ Sq H r ((pre ++ ((bts ((w * ns.length + 7) / 8) (vl w ns)).map ic ++ post)).map V.int) ∧ (∀ n ∈ ns, n < 2 ^ w) ∧ ns.length ≤ 64 ∧
  ∀ p q H', Same H H' → H p = none → H q = none → H' q = some (.lst (ns.map nv)) → H' p = some (.tup [.ref q, .int (pre.length + ((w * ns.length + 7) / 8 : Nat))]) → Q (.ref p) H'
def spPower : Sp := fun vs H Q _ => ∃ w : Nat, vs = [.int w] ∧ w ≤ 1000 ∧ Q (.int (2 ^ w)) H
def spNumbers : Sp := fun vs H Q _ => ∃ (d c : Addr) (b w : Nat), vs = [.ref d, .int w] ∧ w ≤ 62 ∧ StA H d c b ∧ b + 200 < 100000000 ∧
  ∀ p (ns : List Nat) H', StA H' d c (b + 140) → Fr d c H H' → H p = none → H' p = some (.lst (ns.map nv)) → ns.length ≤ 64 → (∀ n ∈ ns, n < 2 ^ w) → Q (.ref p) H'
/-- between two numbers: m bytes are told of the first i numbers, bits bits are held -/
structure Pkd (w : Nat) (ns : List Nat) (i T m held bits : Nat) : Prop where
  t : T = vl w (ns.take i)
  b : bits + 8 * m = w * i
  h : held = T / 256 ^ m
theorem Pkd.lt {w : Nat} {ns : List Nat} {i T m held bits : Nat} (P : Pkd w ns i T m held bits) (hn : ∀ n ∈ ns, n < 2 ^ w) (hi : i ≤ ns.length) : held < 2 ^ bits := by
  have h1 := vl_lt (ns := ns.take i) fun n h => hn n (List.mem_of_mem_take h)
  rw [List.length_take, Nat.min_eq_left hi, ← P.b, ← P.t, Nat.pow_add, ← p256] at h1
  rw [P.h]
  exact (Nat.div_lt_iff_lt_mul (Nat.pow_pos (by decide))).mpr h1
/-- one more number comes -/
theorem Pkd.next {w : Nat} {ns : List Nat} {i T m held bits n : Nat} (P : Pkd w ns i T m held bits) (hi : ns[i]? = some n) :
    Pkd w ns (i + 1) (T + n * 2 ^ (w * i)) m (held + n * 2 ^ bits) (bits + w) ∧ bts m (T + n * 2 ^ (w * i)) = bts m T := by
  have hl : i < ns.length := (List.getElem?_eq_some_iff.mp hi).1
  have e : n * 2 ^ (w * i) = 256 ^ m * (n * 2 ^ bits) := by
    rw [← P.b, Nat.pow_add, ← p256, Nat.mul_left_comm, Nat.mul_comm (256 ^ m), Nat.mul_assoc]
    rw [Nat.mul_left_comm]
  refine ⟨⟨?_, ?_, ?_⟩, ?_⟩
  · rw [List.take_add_one, hi]
    show _ = vl w (ns.take i ++ [n])
    rw [vl_snoc, P.t, List.length_take, Nat.min_eq_left (Nat.le_of_lt hl)]
  · have := P.b
    rw [Nat.mul_succ]
    omega
  · rw [P.h, e, Nat.add_mul_div_left _ _ (Nat.pow_pos (by decide))]
  · rw [e, bts_mod]
end Pk
namespace Pk
open PySem L2 Bm
end Pk

namespace Dd
open PySem L2 Pk
/-! ### min of a tuple of ints -/
section
variable {prog : Program} {w : World} {A : Around} {E : Value → Shared → Prop} {s : Shared} {l : Addr} {its : List Value} {ns : List Int}
end
section
variable {X : Cx} {c : Dc}
def rMinT (K : PySem.W.Frag) : List V → Hp → VK → Prop := fun vs H Q => ∃ (a : Addr) (ns : List Int), vs = [V.ref a] ∧ SqT K H a (ns.map V.int) ∧ 0 < ns.length ∧ ∀ m, m ∈ ns → (∀ y, y ∈ ns → m ≤ y) → Q (.int m) H
theorem CallR.or {id : Value} {r r' : List V → Hp → VK → Prop} (h : CallR X id r) (h' : CallR X id r') : CallR X id (fun vs H Q => r vs H Q ∨ r' vs H Q) := by
  intro pins s σ H vs us Q I rv q
  rcases q with q | q
  · exact h pins s σ H vs us Q I rv q
  · exact h' pins s σ H vs us Q I rv q
/-- min of a list or a tuple of ints -/
def fMinQ : DC := fun rs k => ∃ (r : Rs) (ns : List Int), rs = [r] ∧ (r.d = .lst (ns.map D.int) ∨ r.d = .tup (ns.map D.int)) ∧ 0 < ns.length ∧ ∀ m, m ∈ ns → (∀ y, y ∈ ns → m ≤ y) → k (.s (.int m))
end
/-! ### zip over two tuples, one of them shorter -/
section
variable {pr : Program} {w : World} {A : Around} {E : Value → Shared → Prop} {s : Shared}
open PyProof.Rows PySem.Spec in
theorem zt_end2 {z TI TO i1 i2 l1 l2 : Addr} {k1 k2 : Nat} {xs ys : Array Value} {x a b : Value} {Q : Option Value → Shared → Prop} (hh : A.handled = none) (D : ZipApart z TI TO i1 i2 l1 l2) (hz : IsZip s.heap z TI TO .none) (hTI : IsPair s.heap TI (.ref i1) (.ref i2)) (hTO : IsPair s.heap TO a b)
    (h1 : IsTupIter s.heap i1 l1 k1) (h2 : IsTupIter s.heap i2 l2 k2) (t1 : IsTup s.heap l1 xs) (t2 : IsTup s.heap l2 ys) (hx : xs[k1]? = some x) (hy : ys[k2]? = none)
    (k : ∀ h', (∀ c o, c ≠ z → c ≠ TO → c ≠ i1 → c ≠ i2 → s.heap.get? c = some o → h'.get? c = some o) → Q none { s with heap := h' }) : wpAny (model pr w) A (pyNext (.ref z)) Q E s := by
  have ty : s.TypeIs (.ref z) "zip" := ⟨_, hz, rfl⟩
  unfold pyNext
  refine wpAny_bind (wpAny_attempt (wpAny_callSpecial?_slot (name := Str.ofString "__next__") ty F.slot_zip_next (wpAny_call_entry F.slot_zip_next ty F.entry_zip_next ?_ (F.args_zip_next_1 _))))
  show wpAny _ _ (field (.ref z) 2 >>= _) _ _ _; refine wpAny_bind (wpAny_field hz rfl (x := .bool false) rfl ?_)
  show wpAny _ _ (field (.ref z) 3 >>= _) _ _ _; refine wpAny_bind (wpAny_field hz rfl (x := .ref TI) rfl ?_); refine wpAny_bind (wpAny_seqItems hTI rfl ?_)
  show wpAny _ _ (Builtin.SmallTypes.ownedTupleIsFree (.ref z) >>= _) _ _ _; refine wpAny_bind ?_; unfold Builtin.SmallTypes.ownedTupleIsFree
  refine wpAny_bind (wpAny_field hz rfl (x := .none) rfl (wpAny_pure ?_)); simp only [if_true]; refine wpAny_bind (wpAny_rule ?_)
  refine wpAny_bind (wpAny_field hz rfl (x := .ref TO) rfl ?_); refine wpAny_bind (wpAny_setField_rec hz (by simp) fun ha za sa => ?_)
  replace za : IsZip ha z TI TO .ellipsis := za
  refine wpAny_bind ?_; simp only [List.zipIdx_cons, List.zipIdx_nil, List.forIn_cons, List.forIn_nil]
  refine wpAny_bind (wpAny_bind (wpAny_onRaise ?_)); show wpAny _ _ (Builtin.SmallTypes.nextOf (.ref i1) >>= _) _ _ _
  refine wpAny_bind (tn_item (h1.extBut sa.extBut D.i1z) (t1.extBut sa.extBut D.l1z) hx fun hb1 ib sb => wpAny_pure ?_)
  have pb : IsPair hb1 TO a b := sb.extBut _ _ D.TOi1 (sa.extBut _ _ D.TOz hTO)
  refine wpAny_bind (wpAny_seqItems pb rfl ?_); refine wpAny_bind (wpAny_updateSeq_pair pb fun hc pc sc => ?_)
  refine wpAny_bind (wpAny_letGo (wpAny_pure ?_))
  refine wpAny_bind (wpAny_bind (wpAny_onRaise ?_)); show wpAny _ _ (Builtin.SmallTypes.nextOf (.ref i2) >>= _) _ _ _
  refine wpAny_bind (tn_end hh (((h2.extBut sa.extBut D.i2z).extBut sb.extBut D.i12.symm).extBut sc.extBut D.TOi2.symm) (((t2.extBut sa.extBut D.l2z).extBut sb.extBut D.l2i1).extBut sc.extBut D.l2TO) hy fun hd1 e sd he => ?_)
  obtain ⟨oe, ge, ce⟩ := he
  have zb : IsZip hd1 z TI TO .ellipsis := sd _ _ D.i2z.symm (sc.extBut _ _ D.TOz.symm (sb.extBut _ _ D.i1z.symm za))
  have nez : e ≠ z := fun q => by subst q; rw [zb] at ge; cases ge; simp at ce
  refine wpAny_setField_rec zb (by simp) fun hf _ sf => ?_
  refine wpAny_bind (wpAny_isInstance (T := "StopIteration") (b := true) ⟨oe, sf.extBut _ _ nez ge, ce⟩ isSubtype_stop ?_)
  exact wpAny_pure (k _ fun c o c1 c2 c3 c4 q => sf.extBut _ _ c1 (sd _ _ c4 (sc.extBut _ _ c2 (sb.extBut _ _ c3 (sa.extBut _ _ c1 q)))))
end
section
variable {X : Cx} {c : Dc}
def ItzU (K : PySem.W.Frag) (a b : Addr) : It := ⟨(ItzT K a b).go, (ItzT K a b).yld, fun i H => ∃ xs ys : List V, SqT K H a xs ∧ SqT K H b ys ∧ (xs.length ≤ i ∨ ys.length ≤ i)⟩
open PyProof.Rows PySem.Spec in
theorem turn_zipU {P : Program} {w : World} {K : PySem.W.Frag} {elts : List Expr} {kk : Nat} {tpos : Pos} {a b z TI TO i1 i2 : Addr} (D : ZipApart z TI TO i1 i2 a b) :
    Turn P w K (.Tuple elts kk tpos) (ItzU K a b) [z, TI, TO, i1, i2] z (fun i h => IsZip h z TI TO .none ∧ IsPair h TI (.ref i1) (.ref i2) ∧ (∃ x y, IsPair h TO x y) ∧ IsTupIter h i1 a i ∧ IsTupIter h i2 b i) where
  mem := (turn_zipT (P := P) (w := w) (K := K) (elts := elts) (kk := kk) (tpos := tpos) D).mem
  obj := (turn_zipT (P := P) (w := w) (K := K) (elts := elts) (kk := kk) (tpos := tpos) D).obj
  keep := (turn_zipT (P := P) (w := w) (K := K) (elts := elts) (kk := kk) (tpos := tpos) D).keep
  item := (turn_zipT (P := P) (w := w) (K := K) (elts := elts) (kk := kk) (tpos := tpos) D).item
  done := by
    intro X hP hw hK hc i pins s σ H E I hf st hg
    subst hP hw hK
    obtain ⟨hz, hTI, ⟨x0, y0, hTO⟩, h1, h2⟩ := st
    obtain ⟨xs, ys, hqx, hqy, hend⟩ := hg
    obtain ⟨its, rv, p, _⟩ := I.tuple hqx
    obtain ⟨its2, rv2, p2, _⟩ := I.tuple hqy
    have l1 := rv.length
    have l2 := rv2.length
    cases hx : its.toArray[i]? with
    | none => exact zt_end (I.ok.hd hc) D hz hTI hTO h1 h2 p p2 hx fun h' hk => ⟨rfl, I.turnedL (t' := s.toks) (ch := [z, TI, TO, i1, i2]) (fun c o hb q =>
      hk c o (fun q' => hb (by simp [q'])) (fun q' => hb (by simp [q'])) (fun q' => hb (by simp [q'])) (fun q' => hb (by simp [q'])) q) hf⟩
    | some x =>
      have hy : its2.toArray[i]? = none := by
        have : i < its.toArray.size := (Array.getElem?_eq_some_iff.mp hx).1
        have h3 : i < its.length := by simpa using this
        simp
        omega
      exact zt_end2 (I.ok.hd hc) D hz hTI hTO h1 h2 p p2 hx hy fun h' hk => ⟨rfl, I.turnedL (t' := s.toks) (ch := [z, TI, TO, i1, i2]) (fun c o hb q =>
      hk c o (fun q' => hb (by simp [q'])) (fun q' => hb (by simp [q'])) (fun q' => hb (by simp [q'])) (fun q' => hb (by simp [q'])) q) hf⟩
  self := (turn_zipT (P := P) (w := w) (K := K) (elts := elts) (kk := kk) (tpos := tpos) D).self
def iZipV (K : PySem.W.Frag) (ta : TA) : TI := fun σ H R => ta σ H fun vs H1 => ∃ a b xs ys, vs = [.ref a, .ref b] ∧ ((SqL K H1 a xs ∧ SqL K H1 b ys ∧ R (Itz K a b) H1) ∨ (SqT K H1 a xs ∧ SqT K H1 b ys ∧ R (ItzU K a b) H1))
/-- zip over two lists, or over two tuples -/
def kZipQ (f : Rs → Option (List D)) (k : IK) : AK := fun rs b => ∃ r s xs ys, rs = [r, s] ∧ ((f r = some xs ∧ f s = some ys) ∨ (r = .s (.tup xs) ∧ s = .s (.tup ys))) ∧ k (zipped xs ys) b
def dZipQ (f : Rs → Option (List D)) (da : DA) : DI := fun A b k => da A b (kZipQ f k)
theorem q_zipQ {f : Rs → Option (List D)} {da : DA} {A : List Sl} {b : Nat} {k : IK} : dZipQ f da A b k = da A b (kZipQ f k) := rfl
theorem q_kZipQ {f : Rs → Option (List D)} {k : IK} {b : Nat} {r r1 : Rs} : kZipQ f k [r, r1] b = ∃ xs ys, ((f r = some xs ∧ f r1 = some ys) ∨ (r = .s (.tup xs) ∧ r1 = .s (.tup ys))) ∧ k (zipped xs ys) b := propext ⟨fun ⟨_, _, xs, ys, e, h⟩ => by cases e; exact ⟨xs, ys, h⟩, fun ⟨xs, ys, h⟩ => ⟨_, _, xs, ys, rfl, h⟩⟩
end
section
variable {X : Cx} {c : Dc}
/-! ### range with a step -/
def upC (lo st : Int) (n : Nat) : List D := (List.range n).map fun (i : Nat) => .int (lo + (i : Int) * st)
def kR3 (k : IK) : AK := fun rs b => ∃ (i j s : Int) (n : Nat), rs = [.s (.int i), .s (.int j), .s (.int s)] ∧ RgC i j s n ∧ k (upC i s n) b
def dR3 (da : DA) : DI := fun A b k => da A b (kR3 k)
end
theorem q_r3 {da : DA} {A : List Sl} {b : Nat} {k : IK} : dR3 da A b k = da A b (kR3 k) := rfl
theorem q_kR3 {b : Nat} {k : IK} {i j s : Int} : kR3 k [.s (.int i), .s (.int j), .s (.int s)] b = ∃ n, RgC i j s n ∧ k (upC i s n) b := propext ⟨fun ⟨_, _, _, n, e, h⟩ => by cases e; exact ⟨n, h⟩, fun ⟨n, h⟩ => ⟨_, _, _, n, rfl, h⟩⟩
end Dd

namespace Dd
open PySem L2 Pk
section
variable {X : Cx} {c : Dc}
/-! ### a slice of a list, or of a tuple that is not the whole -/
def fSlQ (x : Rs) (lo hi : Option Int) (k : Rs → Prop) : Prop := (∃ xs, x.d = .lst xs ∧ k (.o (cutD xs lo hi))) ∨ fSlT x lo hi k
def kSlQ3 (x : Rs) (lo : Option Int) (k : DK) : Option Int → Nat → Prop := fun hi b => fSlQ x lo hi (kOp3 k b)
def kSlQ2 (x : Rs) (dh : DOp) (A : List Sl) (k : DK) : Option Int → Nat → Prop := fun lo b => dh A b (kSlQ3 x lo k)
def kSlQ1 (dl dh : DOp) (A : List Sl) (k : DK) : DK := fun x b => dl A b (kSlQ2 x dh A k)
def dSlQ (de : DE) (dl dh : DOp) : DE := fun A b k => de A b (kSlQ1 dl dh A k)
theorem q_slQ {de : DE} {dl dh : DOp} {A : List Sl} {b : Nat} {k : DK} : dSlQ de dl dh A b k = de A b (kSlQ1 dl dh A k) := rfl
theorem q_kSlQ1 {dl dh : DOp} {A : List Sl} {b : Nat} {k : DK} {x : Rs} : kSlQ1 dl dh A k x b = dl A b (kSlQ2 x dh A k) := rfl
theorem q_kSlQ2 {dh : DOp} {A : List Sl} {b : Nat} {k : DK} {x : Rs} {lo : Option Int} : kSlQ2 x dh A k lo b = dh A b (kSlQ3 x lo k) := rfl
theorem q_kSlQT {b : Nat} {k : DK} {xs : List D} {lo hi : Option Int} : kSlQ3 (.s (.tup xs)) lo k hi b = (¬ (HT.sIx xs.length 0 lo = 0 ∧ HT.sIx xs.length xs.length hi = xs.length) ∧ k (.s (.tup (cutD xs lo hi))) b) := by
  refine propext ⟨fun h => ?_, fun h => .inr ⟨xs, rfl, h⟩⟩
  rcases h with ⟨_, e, _⟩ | ⟨_, e, h⟩
  · cases e
  · cases e; exact h
theorem q_kSlQL {b : Nat} {k : DK} {xs : List D} {lo hi : Option Int} {r : Rs} (e : r.d = .lst xs) : kSlQ3 r lo k hi b = k (.o (cutD xs lo hi)) b := by
  refine propext ⟨fun h => ?_, fun h => .inl ⟨xs, e, h⟩⟩
  rcases h with ⟨_, e', h⟩ | ⟨_, e', _⟩
  · rw [e] at e'; cases e'; exact h
  · rw [e] at e'; cases e'
theorem q_kSlQp {b : Nat} {k : DK} {xs : List D} {lo hi : Option Int} : kSlQ3 (.p xs) lo k hi b = k (.o (cutD xs lo hi)) b := q_kSlQL rfl
theorem q_kSlQs {b : Nat} {k : DK} {xs : List D} {lo hi : Option Int} : kSlQ3 (.s (.lst xs)) lo k hi b = k (.o (cutD xs lo hi)) b := q_kSlQL rfl
/-! ### one of two readings -/
def dAlt (d1 d2 : DE) : DE := fun A b k => d1 A b k ∨ d2 A b k
/-! ### a def that stands in a name is called -/
def dCallV (i : Nat) (f : Addr) (ds : DSp) (kx : DX) (da : DA) : DE := fun A b k => A[i]? = some (.val (.fn f)) ∧ dCall ds kx da A b k
/-! ### a module's tuple of defs -/
def GTF (K : PySem.W.Frag) (mg : Str → Option Value) (x : Str) (fs : List Addr) : Prop := ∃ a, mg x = some (.ref a) ∧ ∀ H, SqT K H a (fs.map V.ref)
def GTup (K : PySem.W.Frag) (mg : Str → Option Value) (x : Str) (ns : List Str) : Prop := ∃ fs, GTF K mg x fs ∧ ns.map mg = fs.map fun f => some (.ref f)
theorem GTup.f {K : PySem.W.Frag} {mg : Str → Option Value} {x : Str} {ns : List Str} {fs : List Addr} (h : GTup K mg x ns) (e : ns.map mg = fs.map fun f => some (.ref f)) : GTF K mg x fs := by
  obtain ⟨gs, h1, h2⟩ := h
  rw [h2] at e
  have : ∀ {xs ys : List Addr}, (xs.map fun f => some (Value.ref f)) = (ys.map fun f => some (Value.ref f)) → xs = ys := by
    intro xs
    induction xs with
    | nil => intro ys h; cases ys with
      | nil => rfl
      | cons y ys => cases h
    | cons x xs ih => intro ys h; cases ys with
      | nil => cases h
      | cons y ys =>
        rw [List.map_cons, List.map_cons] at h
        injection h with h1 h2
        cases h1
        rw [ih h2]
  rw [← this e]
  exact h1
def dGT (fs : List Addr) (db : DE) : DE := fun A b k => db A b fun r b1 => ∃ i f, r = .s (.int i) ∧ atI fs i = some f ∧ k (.s (.fn f)) b1
def kGT (fs : List Addr) (k : DK) : DK := fun r b => ∃ i f, r = .s (.int i) ∧ atI fs i = some f ∧ k (.s (.fn f)) b
end
theorem q_gt {fs : List Addr} {db : DE} {A : List Sl} {b : Nat} {k : DK} : dGT fs db A b k = db A b (kGT fs k) := rfl
theorem q_kGT {fs : List Addr} {k : DK} {i : Int} {b : Nat} : kGT fs k (.s (.int i)) b = ∃ f, atI fs i = some f ∧ k (.s (.fn f)) b := propext ⟨fun ⟨_, f, e, h⟩ => by cases e; exact ⟨f, h⟩, fun ⟨f, h⟩ => ⟨i, f, rfl, h⟩⟩
theorem q_callV {i : Nat} {f : Addr} {ds : DSp} {kx : DX} {da : DA} {A : List Sl} {b : Nat} {k : DK} : dCallV i f ds kx da A b k = (A[i]? = some (.val (.fn f)) ∧ da A b (kCall ds kx k)) := rfl
/-! ### what was shown over the heap: bits, packed numbers, kinds -/
def dsBits : DSp := fun args b k _ => ∃ n : Int, args = [.val (.int n)] ∧ k (.s (.int (Builtin.Int.intBits n))) b
/-- the bytes of numbers of w bits each -/
def pkB (w : Nat) (ns : List Int) : List Int := (Bm.bts ((w * ns.length + 7) / 8) (Bm.vl w (ns.map Int.toNat))).map ic
def dsPacked : DSp := fun args b k _ => ∃ (s : Sl) (w : Nat) (ns : List Int), args = [s, .val (.int w)] ∧ RowIs s ns ∧ w ≤ 62 ∧ (∀ n ∈ ns, 0 ≤ n ∧ n < 2 ^ w) ∧ ns.length ≤ 64 ∧ k (.o ((pkB w ns).map D.int)) b
def kindD : D → D
  | .int _ => .str "number"
  | .str _ => .str "text"
  | _ => .non
def dsKindOf : DSp := fun args b k _ => ∃ d, args = [.val d] ∧ OkCd d ∧ k (.s (kindD d)) b
end Dd

namespace Dd
open PySem L2 Pk
/-! ### the least, the greatest of whole numbers -/
def loI (d : Int) (ns : List Int) : Int := match ns with
  | [] => d
  | n :: r => r.foldl (fun a b => if b < a then b else a) n
def hiI (d : Int) (ns : List Int) : Int := match ns with
  | [] => d
  | n :: r => r.foldl (fun a b => if a < b then b else a) n
/-! ### how many bits -/
def dsBitsN : DSp := fun args b k _ => ∃ n : Int, args = [.val (.int n)] ∧ 0 ≤ n ∧ n < 18446744073709551616 ∧ k (.s (.int (Builtin.Int.intBits n))) b
/-! ### numbers packed, with how wide ahead -/
def wd (ns : List Int) : Nat := Builtin.Int.intBits (hiI 0 ns)
def smB (ns : List Int) : List Int := (wd ns : Int) :: pkB (wd ns) ns
/-- numbers that may be packed -/
def Pkb (ns : List Int) : Prop := ns.length ≤ 64 ∧ ∀ n ∈ ns, 0 ≤ n ∧ n < 4611686018427387904
def dsSmall : DSp := fun args b k _ => ∃ (s : Sl) (ns : List Int), args = [s] ∧ s = .val (.lst (ns.map D.int)) ∧ Pkb ns ∧ k (.o ((smB ns).map D.int)) b
def ni (l : List Nat) : List D := l.map fun (n : Nat) => D.int (n : Int)
/-! ### by a base, by steps -/
def NumsOk (ns : List Int) : Prop := 0 < ns.length ∧ ns.length ≤ 64 ∧ ∀ n ∈ ns, n.natAbs < 10 ^ 18
def stp (ns : List Int) : List Int := List.zipWith (fun a b => b - a) ns ns.tail
def nbz (n : Int) : List Int := nb (zig n)
def bd3 (ns : List Int) : List Int := nbz (loI 0 ns) ++ smB (ns.map fun n => n - loI 0 ns)
def bd4 (ns : List Int) : List Int := nbz (ns.headD 0) ++ nbz (loI 0 (stp ns)) ++ smB ((stp ns).map fun n => n - loI 0 (stp ns))
def dsBy (f : List Int → List Int) : DSp := fun args b k _ => ∃ (s : Sl) (ns : List Int), args = [s] ∧ SeqIs s (ns.map D.int) ∧ NumsOk ns ∧ k (.o ((f ns).map D.int)) b
def dsVoid : DSp := fun _ _ _ _ => False
end Dd
namespace Dd
open PySem L2 Pk
def isI : D → Bool
  | .int _ => true
  | _ => false
def toI : D → Int
  | .int n => n
  | _ => 0
/-- what is pressed by a way of numbers -/
def prN (w : Int) (ds : List D) : Rs := if ds.all isI = true then .o ((w :: (nbz ds.length ++ (if w = 3 then bd3 (ds.map toI) else bd4 (ds.map toI)))).map D.int) else .s .non
def dsPressN : DSp := fun args b k _ => ∃ (w : Int) (s : Sl) (kd : Str) (ds : List D), args = [.val (.int w), s] ∧ (w = 3 ∨ w = 4) ∧ SeqIs s ds ∧ isKd kd ∧ Cells kd ds ∧ 0 < ds.length ∧ ds.length ≤ 64 ∧ k (prN w ds) b
def dsHna : DSp := fun args b k _ => ∃ (s : Sl) (kd : Str) (ds : List D), args = [s] ∧ SeqIs s ds ∧ isKd kd ∧ Cells kd ds ∧ 0 < ds.length ∧ ds.length ≤ 64 ∧ k (.s (.bl (ds.all isI))) b
/-- a stretch of cells is drawn -/
def dsStretch : DSp := fun args b k _ => args = [.st] ∧ b + 1510 < 100000000 ∧ ∀ (kd : Str) (ds : List D) (b' : Nat), isKd kd → Cells kd ds → 0 < ds.length → ds.length ≤ 64 → b' ≤ b + 1510 → k (.o ds) b'
def dsWide : DSp := fun args b k _ => args = [.st] ∧ b + 100 < 100000000 ∧ ∀ (ns : List Int) (b' : Nat), NumsOk ns → b' ≤ b + 100 → k (.o (ns.map D.int)) b'
end Dd
namespace Dd
open PySem L2 Pk
end Dd
namespace Dd
open PySem L2 Pk
end Dd
namespace Dd
open PySem L2 Pk
end Dd

namespace Dd
open PySem L2 Pk
theorem q_bits {n : Int} {b : Nat} {k : DK} {kx : DX} : dsBits [.val (.int n)] b k kx = k (.s (.int (Builtin.Int.intBits n))) b := propext ⟨fun ⟨_, e, h⟩ => by cases e; exact h, fun h => ⟨n, rfl, h⟩⟩
theorem q_bitsN {n : Int} {b : Nat} {k : DK} {kx : DX} : dsBitsN [.val (.int n)] b k kx = (0 ≤ n ∧ n < 18446744073709551616 ∧ k (.s (.int (Builtin.Int.intBits n))) b) := propext ⟨fun ⟨_, e, h⟩ => by cases e; exact h, fun h => ⟨n, rfl, h⟩⟩
theorem q_nbz {n : Int} {b : Nat} {k : DK} {kx : DX} : dsNb [.val (.int n)] b k kx = (Small n ∧ k (.o ((nbz n).map D.int)) b) := propext ⟨fun ⟨_, e, h⟩ => by cases e; exact h, fun h => ⟨n, rfl, h⟩⟩
end Dd
namespace Dd
open PySem L2 Pk
theorem q_isTb {xs : List D} {kr : Rs → Prop} : fIs true (.b xs) (.s .non) kr = kr (.s (.bl true)) := by simp [fIs, Rs.d, isN]
theorem q_isFb {xs : List D} {kr : Rs → Prop} : fIs false (.b xs) (.s .non) kr = kr (.s (.bl false)) := by simp [fIs, Rs.d, isN]
end Dd

namespace Dd
open PySem L2 Pk
def subD : D → Int
  | .tup [.int a, .int b] => b - a
  | _ => 0
/-- packed by the law's own def: a new list is handed in -/
def dsPackL : DSp := fun args b k _ => ∃ (w : Nat) (ns : List Int), args = [.val (.lst (ns.map D.int)), .val (.int w)] ∧ w ≤ 62 ∧ (∀ n ∈ ns, 0 ≤ n ∧ n < 2 ^ w) ∧ ns.length ≤ 64 ∧ k (.o ((pkB w ns).map D.int)) b
theorem at0 {n : Int} {ns : List Int} : atI ((n :: ns).map D.int) 0 = some (.int n) := by
  unfold atI
  rw [ix_ok (by omega) (by simp)]
  rfl
end Dd
namespace Dd
open PySem L2 Pk
def mulD : D → Int
  | .tup [.int a, .int b] => a * b
  | _ => 0
end Dd
namespace Dd
open PySem L2 Pk
def dsLpressN : DSp := fun args b k _ => ∃ (w : Int) (kd : Str) (ds : List D), args = [.val (.int w), .bb ds] ∧ (w = 3 ∨ w = 4) ∧ isKd kd ∧ Cells kd ds ∧ 0 < ds.length ∧ ds.length ≤ 64 ∧ k (prN w ds) b
end Dd
namespace Dd
open PySem L2 Pk
def stpD (ns : List Int) (d : D) : Int := ns.getD ((toI d).toNat + 1) 0 - ns.getD (toI d).toNat 0
end Dd
namespace Dd
open PySem L2 Pk
/-- a stretch's cells -/
def Cel (ds : List D) : Prop := ∃ kd, isKd kd ∧ Cells kd ds ∧ 0 < ds.length ∧ ds.length ≤ 64
end Dd

namespace Dd
open PySem L2 Pk
/-! ### (a, b) = a list of two -/
section
variable {prog : Program} {w : World} {A : Around} {E : Value → Shared → Prop} {s : Shared}
/-- so many drawn out of any walk -/
theorem draw_walk {I : Addr} {fp wr : List Addr} {n : Nat} {P : Nat → Value → Prop} {St : Nat → Heap → Prop} (W : Walks prog w A I fp wr n P St) :
    ∀ (m i : Nat) (s : Shared) (Q : List Value → Shared → Prop), i + m ≤ n → St i s.heap →
      (∀ vs h' tk, vs.length = m → (∀ j v, vs[j]? = some v → P (i + j) v) → St (i + m) h' → (∀ b o, b ∉ wr → s.heap.get? b = some o → h'.get? b = some o) → Q vs { s with heap := h', toks := tk }) →
      wpAny (model prog w) A (draw (.ref I) m) Q E s
  | 0, i, s, Q, _, st, q => wpAny_pure (q [] s.heap s.toks rfl (fun j v z => by cases z) st fun _ _ _ e => e)
  | m + 1, i, s, Q, le, st, q =>
    wpAny_bind (W.item i s _ _ (by omega) st fun v h1 t1 pv st1 k1 =>
      wpAny_bind (wpAny_holding (draw_walk W m (i + 1) _ _ (by omega) st1 fun vs h2 t2 lv pvs st2 k2 =>
        wpAny_pure (q (v :: vs) h2 t2 (by rw [List.length_cons, lv]) (fun j u z => by
          cases j with
          | zero => cases z; exact pv
          | succ j => have := pvs j u z; rwa [Nat.add_right_comm] at this) (by rwa [Nat.add_right_comm] at st2) fun b o hb e => k2 b o hb (k1 b o hb e)))))
/-- a list, unpacked whole -/
theorem unpackItems_list {t : Addr} {items : Array Value} {Q : List Value → Shared → Prop} (hh : A.handled = none) (ht : s.heap.IsList t items)
    (q : ∀ h' tk, Heap.ExtBut s.heap.objs.size s.heap h' → Q items.toList { s with heap := h', toks := tk }) : wpAny (model prog w) A (unpackItems (.ref t) items.size none) Q E s := by
  have apart : t ≠ s.heap.objs.size := fun e => by obtain ⟨o, ho, _⟩ := ht; exact absurd (Heap.lt_size ho) (e ▸ Nat.lt_irrefl _)
  have W := Walks.list (prog := prog) (w := w) hh s.heap.objs.size t apart items
  unfold unpackItems notIterableAtAll
  refine wpAny_bind (wpAny_bind (wpAny_specialOf ht.typeIs PySem.slot_list_iter.lookup (wpAny_pure ?_)))
  rw [if_neg (by simp)]
  refine wpAny_bind (wpAny_holding (wpAny_pyIter_list ht (wpAny_bind (wpAny_holding (draw_walk W items.size 0 _ _ (by omega) ⟨⟨_, Heap.get?_push_size _ rfl, rfl, rfl⟩, ht.push _⟩ fun vs h1 t1 lv pv st k1 => ?_)))))
  have same : vs = items.toList := List.ext_getElem? fun j => by
    cases z : vs[j]? with
    | some v => have := pv j v z; rw [Nat.zero_add] at this; rw [Array.getElem?_toList]; exact this.symm
    | none => rw [List.getElem?_eq_none_iff, lv] at z; rw [Array.getElem?_toList, Array.getElem?_eq_none z]
  subst same
  rw [if_neg (by simp)]
  refine wpAny_bind (wpAny_holding (W.done _ _ _ (by rw [Nat.zero_add] at st; exact st) fun h2 t2 k2 => ?_))
  rw [if_neg (by simp)]
  exact wpAny_pure (q h2 t2 fun b o hb e => k2 b o (by simpa using hb) (k1 b o (by simpa using hb) (Heap.get?_push_of_some _ e)))
end
section
variable {X : Cx} {c : Dc}
def gLst (K : PySem.W.Frag) (n : Nat) (t : TGs) : TG := fun v σ H Q => ∃ a xs, v = .ref a ∧ SqL K H a xs ∧ xs.length = n ∧ t xs σ H Q
theorem pg_tupL {es : List Expr} {k : Nat} {t : TGs} {n : Nat} {pos : Pos} (hc : X.calm = true) (h : PGs X es t)
    (hn : (assignEach es X.env).length = n := by rfl) (hst : (assignEach es X.env).findIdx? (·.1) = none := by rfl) : PG X (.Tuple es k pos) (gLst X.K n t) := by
  intro pins s σ H v u Q I r hw
  obtain ⟨a, xs, e1, hq, hl, hw⟩ := hw
  subst e1
  cases r
  obtain ⟨its, rv, ht, hz⟩ := I.list hq
  rw [PyProof.Rows.assign_Tuple]
  refine wpAny_bind (wpAny_standAt ?_)
  unfold unpack
  rw [hst, show (assignEach es X.env).length = its.toArray.size by simp [hn, ← hl, rv.length]]
  refine wpAny_bind (wpAny_holding (unpackItems_list (I.ok.hd hc) ht.isList fun h' tk hx => ?_))
  have I1 : Inv X pins σ H { s with heap := h', toks := tk } := I.kept (t' := tk) fun b o e => hx b o (Nat.ne_of_lt (Heap.lt_size e)) e
  exact h pins _ σ H xs _ Q I1 (by simpa using rv) hw
def gLstD (n : Nat) (dr : DGs) : DG := fun d A k => match d with
  | .lst ds => ds.length = n ∧ dr ds A k
  | _ => False
theorem g_tupL {es : List Expr} {kk n : Nat} {pos : Pos} {dr : DGs} {ts : List Nat} (hK : c.K = X.K) (hc : X.calm = true) (h : PGsd X c es dr ts) (hn : (assignEach es X.env).length = n := by rfl) (hst : (assignEach es X.env).findIdx? (·.1) = none := by rfl) : PGd X c (.Tuple es kk pos) (gLstD n dr) ts :=
  let ⟨_, h1, l1⟩ := h
  ⟨_, pg_tupL hc h1 hn hst, fun F σ H A b v d Q k rr rv hd hk => by
    cases d with
    | lst ds =>
      cases rv with
      | lst hq q => exact ⟨_, _, rfl, SqL.of (off_sub (rr.sub _ _ hq)), by rw [q.length]; exact hd.1, l1 F σ H A b _ ds _ _ rr q hd.2 hk⟩
    | _ => exact hd.elim⟩
theorem q_gL {n : Nat} {dr : DGs} {ds : List D} {A : List Sl} {k : List Sl → Prop} : gLstD n dr (.lst ds) A k = (ds.length = n ∧ dr ds A k) := rfl
/-! ### text.find(sign) -/
def rFind : V → List V → Hp → VK → Prop := fun x xs H Q => ∃ (a b : Str), x = .str a ∧ xs = [.str b] ∧ Q (.int (Txt.find a b)) H
def kFd2 (s : Str) (k : DK) : List Rs → Nat → Prop := fun rs b => ∃ t : Str, rs = [.s (.str t)] ∧ k (.s (.int (Txt.find s t))) b
def kFd1 (da : DA) (A : List Sl) (k : DK) : DK := fun r b => ∃ s, r = .s (.str s) ∧ da A b (kFd2 s k)
def dFind (de : DE) (da : DA) : DE := fun A b k => de A b (kFd1 da A k)
/-! ### x[i] += e for a list of the name's own -/
def rGetL (K : PySem.W.Frag) : V → V → Hp → VK → Prop := fun x y H Q => ∃ p xs i v, x = .ref p ∧ y = .int i ∧ SqL K H p xs ∧ atI xs i = some v ∧ Q v H
def kAx4 (j : Nat) (ds : List D) (m : Nat) (E : DEnds) (A : List Sl) (b : Nat) : Rs → Prop := fun z => z.kp ∧ E.nx (A.set j (.own (ds.set m z.d))) b
def kAx3 (j : Nat) (ds : List D) (m : Nat) (d : D) (f : D2) (E : DEnds) (A : List Sl) : DK := fun y b => f (.s d) y fun z => ∃ i, z = .s (.int i) ∧ E.nx (A.set j (.own (ds.set m (.int i)))) b
def kAx2 (j : Nat) (ds : List D) (de : DE) (f : D2) (E : DEnds) (A : List Sl) : DK := fun i b => ∃ n m d, i = .s (.int n) ∧ ixN ds.length n = some m ∧ ds[m]? = some d ∧ de A b (kAx3 j ds m d f E A)
def kAx1 (j : Nat) (di de : DE) (f : D2) (E : DEnds) (A : List Sl) (b : Nat) : List D → Prop := fun ds => di A b (kAx2 j ds de f E A)
def dAugIx (j : Nat) (di de : DE) (f : D2) : DS := fun E A b => own A j (kAx1 j di de f E A b)
end
section
variable {A : List Sl} {b n : Nat} {k : DK} {de di : DE} {da : DA} {s t : Str} {ds : List D} {E : DEnds} {f : D2} {m : Nat} {d : D} {i : Int}
theorem q_find : dFind de da A b k = de A b (kFd1 da A k) := rfl
theorem q_kFd1 : kFd1 da A k (.s (.str s)) b = da A b (kFd2 s k) := propext ⟨fun ⟨_, e, h⟩ => by cases e; exact h, fun h => ⟨s, rfl, h⟩⟩
theorem q_kFd2 : kFd2 s k [.s (.str t)] b = k (.s (.int (Txt.find s t))) b := propext ⟨fun ⟨_, e, h⟩ => by cases e; exact h, fun h => ⟨t, rfl, h⟩⟩
theorem q_augIx {j : Nat} : dAugIx j di de f E A b = own A j (kAx1 j di de f E A b) := rfl
theorem q_kAx1 {j : Nat} : kAx1 j di de f E A b ds = di A b (kAx2 j ds de f E A) := rfl
theorem q_kAx2 {j : Nat} : kAx2 j ds de f E A (.s (.int i)) b = ∃ m d, ixN ds.length i = some m ∧ ds[m]? = some d ∧ de A b (kAx3 j ds m d f E A) := propext ⟨fun ⟨_, m, d, e, h⟩ => by cases e; exact ⟨m, d, h⟩, fun ⟨m, d, h⟩ => ⟨i, m, d, rfl, h⟩⟩
theorem q_kAx3 {j : Nat} {i i' : Int} : kAx3 j ds m (.int i) (fI0 fun i j => .int (i + j)) E A (.s (.int i')) b = E.nx (A.set j (.own (ds.set m (.int (i + i'))))) b := propext ⟨fun ⟨_, e, h⟩ => by cases e; exact h, fun h => ⟨_, rfl, h⟩⟩
end
end Dd

namespace Dd
open PySem L2 Pk
/-! ### a list of runs [cell, how many], whose last one is counted up in its place -/
def rl (rs : List (D × Int)) : List D := rs.map fun p => .lst [p.1, .int p.2]
section
variable {c : Dc} {F H : Hp} {σ : L2.St} {A : List Sl} {b : Nat}
/-- what an own list holds is said otherwise -/
theorem R.told {j : Nat} {ds es : List D} (r : R c F σ H A b) (hj : A[j]? = some (.own ds)) (h : ∀ vs, RpA c.K F vs ds → RpA c.K F vs es) : R c F σ H (A.set j (.own es)) b := by
  obtain ⟨p, vs, hx, h1, h2, h3, q⟩ := r.sl j _ hj
  refine ⟨r.sub, r.bsub, r.f0, r.n0, r.st, fun i s hi => ?_, fun i k p' xs ys g1 g2 e1 e2 => ?_, by rw [List.length_set]; exact r.len⟩
  · rcases get_set hi with ⟨rfl, rfl⟩ | ⟨ne, hi⟩
    · exact ⟨p, vs, hx, h1, h2, h3, h vs q⟩
    · exact r.sl i s hi
  · have f : ∀ {m : Nat} {zs : List D}, (A.set j (.own es))[m]? = some (.own zs) → ∃ zs', A[m]? = some (.own zs') := fun {m zs} z => by
      rcases get_set z with ⟨rfl, _⟩ | ⟨_, z⟩
      · exact ⟨_, hj⟩
      · exact ⟨_, z⟩
    obtain ⟨xs', q1⟩ := f g1
    obtain ⟨ys', q2⟩ := f g2
    exact r.ds i k p' xs' ys' q1 q2 e1 e2
/-- the heap grows, nothing else -/
theorem R.grow {H' : Hp} {b' : Nat} (r : R c F σ H A b) (h : ∀ a o, off c.G H a = some o → off c.G H' a = some o) (g : gst c.K c.G F H' b') : R c F σ H' A b' :=
  r.ext ⟨fun _ _ z => z, h, fun _ _ z => .inl z⟩ (fun a o z => h a o (r.sub a o z)) g
/-- the runs so far stand in slot j; the last one is still nobody's -/
inductive Zr (c : Dc) (F : Hp) (σ : L2.St) (H : Hp) (A : List Sl) (b j : Nat) : List (D × Int) → Prop
  | nil : R c F σ H (A.set j (.own [])) b → Zr c F σ H A b j []
  | snoc {init : List (D × Int)} {d : D} {n : Int} {q : Addr} {v : V} : R c F σ H (A.set j (.own (rl init ++ [.fn q]))) b → F q = none → c.B q = none → off c.G H q = some (.lst [v, .int n]) → Rp c.K F v d →
      (∀ (i : Nat) (xs : List D), (A.set j (.own (rl init ++ [.fn q])))[i]? = some (.own xs) → σ[i]? ≠ some (some (.ref q))) → Zr c F σ H A b j (init ++ [(d, n)])
theorem Zr.grow {H' : Hp} {b' j : Nat} {rs : List (D × Int)} (z : Zr c F σ H A b j rs) (h : ∀ a o, off c.G H a = some o → off c.G H' a = some o) (g : gst c.K c.G F H' b') : Zr c F σ H' A b' j rs := by
  cases z with
  | nil r => exact .nil (r.grow h g)
  | snoc r h1 h2 h3 rv n => exact .snoc (r.grow h g) h1 h2 (h _ _ h3) rv n
theorem rpa_last {K : PySem.W.Frag} {F : Hp} : ∀ {ds : List D} {vs : List V} {d : D}, RpA K F vs (ds ++ [d]) → ∃ ws w, vs = ws ++ [w] ∧ RpA K F ws ds ∧ Rp K F w d
  | [], _, _, .cons a .nil => ⟨[], _, rfl, .nil, a⟩
  | _ :: ds, _, _, .cons a r => by
    obtain ⟨ws, w, rfl, h1, h2⟩ := rpa_last (ds := ds) r
    exact ⟨_ :: ws, w, rfl, .cons a h1, h2⟩
theorem Zr.ext {F' H' : Hp} {b' j : Nat} {rs : List (D × Int)} (z : Zr c F σ H A b j rs) (e : Ext c F H F' H') (hs : ∀ a o, F' a = some o → off c.G H' a = some o) (g : gst c.K c.G F' H' b') : Zr c F' σ H' A b' j rs := by
  cases z with
  | nil r => exact .nil (r.ext e hs g)
  | snoc r h1 h2 h3 rv n => exact .snoc (r.ext e hs g) (e.keep h1 h3) h2 (e.h _ _ h3) (rv.mono e.f) n
theorem Zr.base {j : Nat} {rs : List (D × Int)} (z : Zr c F σ H A b j rs) : Sub F (off c.G H) ∧ Sub c.B (off c.G H) ∧ gst c.K c.G F H b := by
  cases z with
  | nil r => exact ⟨r.sub, r.bsub, r.st⟩
  | snoc r => exact ⟨r.sub, r.bsub, r.st⟩
theorem set_swap {i j : Nat} {x y z : Sl} (h : j ≠ i) : ((A.set i x).set j y).set i z = (A.set i z).set j y := by
  rw [List.set_comm _ _ h, List.set_set]
/-- the cell's name is given a value -/
theorem Zr.put {i j : Nat} {s : Sl} {rs : List (D × Int)} {x : V} {d : D} (hij : j ≠ i) (z : Zr c F σ H (A.set i s) b j rs) (rv : Rp c.K F x d) : Zr c F (σ.set i (some x)) H (A.set i (.val d)) b j rs := by
  have pu : ∀ {o : Sl}, R c F σ H ((A.set i s).set j o) b → R c F (σ.set i (some x)) H ((A.set i (.val d)).set j o) b := fun {o} r => by
    have := r.put (i := i) (v := x) (s := .val d) ⟨x, rfl, rv⟩ fun xs z => by cases z
    rw [set_swap hij] at this
    exact this
  cases z with
  | nil r => exact .nil (pu r)
  | @snoc init e n q v r h1 h2 h3 rv' nn =>
    refine .snoc (pu r) h1 h2 h3 rv' fun k xs hk => ?_
    by_cases e1 : j = k
    · subst e1
      rw [List.getElem?_set_ne (Ne.symm hij)]
      have hl : j < A.length := by
        rcases Nat.lt_or_ge j A.length with q | q
        · exact q
        · rw [List.getElem?_eq_none (by simpa using q)] at hk; cases hk
      exact nn j (rl init ++ [.fn q]) (by rw [List.getElem?_set_self (by rw [List.length_set]; exact hl)])
    · rw [List.getElem?_set_ne e1] at hk
      rcases get_set hk with ⟨_, z⟩ | ⟨ne, hk⟩
      · cases z
      · rw [List.getElem?_set_ne ne]
        exact nn k xs (by rw [List.getElem?_set_ne e1, List.getElem?_set_ne ne]; exact hk)
/-- the last one stays, too -/
theorem Zr.frz {j : Nat} {rs : List (D × Int)} (hj : j < A.length) (z : Zr c F σ H A b j rs) : ∃ F', Sub F F' ∧ R c F' σ H (A.set j (.own (rl rs))) b := by
  cases z with
  | nil r => exact ⟨F, fun _ _ z => z, r⟩
  | @snoc init d n q v r h1 h2 h3 rv nn =>
    have m : Sub F (upd F q (.lst [v, .int n])) := fun a u h => by rw [upd_ne (ne_of_none h h1)]; exact h
    have r2 := r.stay h1 h2 h3 nn
    refine ⟨_, m, ?_⟩
    have r3 := r2.told (j := j) (ds := rl init ++ [.fn q]) (es := rl (init ++ [(d, n)])) (by rw [List.getElem?_set_self hj]) fun vs hv => by
      obtain ⟨ws, w, rfl, g1, g2⟩ := rpa_last hv
      cases g2
      unfold rl
      rw [List.map_append]
      exact g1.append (.one (.lst upd_same (.cons (rv.mono m) (.one (.int n)))))
    rw [List.set_set] at r3
    exact r3
end
def stepR (nw : List (D × Int) → D → Bool) (rs : List (D × Int)) (d : D) : List (D × Int) :=
  let rs := if nw rs d = true then rs ++ [(d, 0)] else rs
  rs.dropLast ++ (rs.getLast?.map fun p => (p.1, p.2 + 1)).toList
section
variable {X : Cx} {c : Dc}
/-- the loop that gathers runs: nw says where a new one begins -/
def dRuns (di : DI) (ic jr : Nat) (dt : DT) (de : DE) (nw : List (D × Int) → D → Bool) : DS := fun E A b => A[jr]? = some (.own []) ∧ jr ≠ ic ∧ (∃ s, A[ic]? = some s) ∧ di A b fun ds b1 => b1 < MB ∧ ∃ P : Nat → List (D × Int) → Prop, P 0 [] ∧
  (∀ i rs d, ds[i]? = some d → P i rs → (rs = [] → nw rs d = true) ∧ rs.length < 100000 ∧ dt ((A.set ic (.val d)).set jr (.own (rl rs))) b1 (fun t b2 => b2 = b1 ∧ t = nw rs d) ∧
    (∀ init e n, (if nw rs d = true then rs ++ [(d, 0)] else rs) = init ++ [(e, n)] → de ((A.set ic (.val d)).set jr (.own (rl (init ++ [(e, n)])))) b1 fun r b2 => b2 = b1 ∧ r = .s (.int (n + 1))) ∧ P (i + 1) (stepR nw rs d)) ∧
  ∀ rs s, P ds.length rs → E.nx ((A.set ic s).set jr (.own (rl rs))) b1
end
end Dd
namespace Dd
end Dd

namespace So
open PySem PySem.Spec PyProof.Rows L2
/-! ### sorted by a key: the end, where all keys are there -/
section
variable {prog : Program} {w : World} {A : Around} {E : Value → Shared → Prop} {s : Shared} {a kS : Addr} {b : Bool} {vs : List Value} {keys : Array Value} {e e1 : Nat} {P : PySem.Fin → Shared → Prop} {κ : KeyKind} {kd : SortKind}
/-- what the row of pairs starts as -/
def first (b : Bool) (keys : Array Value) (vs : List Value) : Array Keyed := if b = true then (keys.zip vs.toArray).reverse else keys.zip vs.toArray
def shown (b : Bool) (xs : Array Keyed) : Array Value := if b then (xs.map (·.2)).reverse else xs.map (·.2)
structure Sorted (κ : KeyKind) (b : Bool) (keys : Array Value) (vs : List Value) (xs : Array Keyed) : Prop where
  perm : xs.Perm (keys.zip vs.toArray)
  up : SortedToK κ xs xs.size
  st : Stable κ xs (first b keys vs)
end
end So

namespace So
open PySem PySem.Spec PyProof.Rows L2
/-! ### keys that are tuples of ints and texts, over values -/
def itV : V → Option (Int ⊕ List Nat)
  | .int n => some (.inl n)
  | .str x => some (.inr x.cps.toList)
  | _ => none
def keyV (H : Hp) : V → List (Int ⊕ List Nat)
  | .ref t => match H t with
    | some (.tup ws) => ws.filterMap itV
    | _ => []
  | _ => []
def ShV (shape : Nat → Bool) : Nat → List V → Prop
  | _, [] => True
  | i, .int _ :: r => shape i = false ∧ ShV shape (i + 1) r
  | i, .str _ :: r => shape i = true ∧ ShV shape (i + 1) r
  | _, _ => False
def IsKey (shape : Nat → Bool) (H : Hp) (v : V) : Prop := ∃ t w ws, v = .ref t ∧ H t = some (.tup (w :: ws)) ∧ ShV shape 0 (w :: ws)
theorem shp_items {shape : Nat → Bool} : ∀ {ws : List V} {us : List Value} {i : Nat}, ShV shape i ws → Vals ws us → tupItems shape i us = some (ws.filterMap itV)
  | [], _, _, _, .nil => rfl
  | .int n :: r, _, i, h, .cons r1 r2 => by
    obtain ⟨t, rfl⟩ := r1
    unfold tupItems
    rw [if_neg (by rw [h.1]; exact Bool.false_ne_true), shp_items h.2 r2]
    rfl
  | .str x :: r, _, i, h, .cons r1 r2 => by
    obtain ⟨t, rfl⟩ := r1
    unfold tupItems
    rw [if_pos h.1, shp_items h.2 r2]
    rfl
  | .non :: _, _, _, h, _ => h.elim
  | .bl _ :: _, _, _, h, _ => h.elim
  | .byt _ :: _, _, _, h, _ => h.elim
  | .flt _ :: _, _, _, h, _ => h.elim
  | .ref _ :: _, _, _, h, _ => h.elim
  | .ty _ :: _, _, _, h, _ => h.elim
section
variable {P : Program} {w : World} {H : Hp} {h : Heap} {shape : Nat → Bool} {v : V} {u : Value}
theorem key_of (ok : HOk P w H h) (hk : IsKey shape H v) (r : RelV v u) : G.tupKeyC h shape u = some (keyV H v) ∧ ∃ f, TupOf h shape u f := by
  obtain ⟨t, v1, ws, rfl, ht, hs⟩ := hk
  cases (show u = Value.ref t from r)
  obtain ⟨_, its, rv, o, ho, hc, n, hd⟩ := ok t _ ht
  have ei := shp_items hs rv
  refine ⟨?_, ?_⟩
  · unfold G.tupKeyC
    rw [if_pos (by simp [G.isTupObj, ho, hc])]
    unfold tupKey
    simp only [ho, hd]
    rw [ei]
    unfold keyV
    simp only [ht]
  · cases rv with
    | cons r1 r2 =>
      rename_i u1 us
      refine ⟨u1, t, o, _, n, rfl, ho, hc, hd, rfl, fun z => ?_, fun z => ?_⟩
      · cases v1 with
        | int k => obtain ⟨tk, rfl⟩ := r1; exact ⟨k, tk, rfl⟩
        | str x => have := hs.1; rw [z] at this; cases this
        | _ => exact hs.elim
      · cases v1 with
        | str x => obtain ⟨tk, rfl⟩ := r1; exact ⟨x, tk, rfl⟩
        | int x => have := hs.1; rw [z] at this; cases this
        | _ => exact hs.elim
end
/-! ### pairs of values, and theirs -/
def lexGt (x y : List (Int ⊕ List Nat)) : Bool := lexLt itemOrd y x
end So

namespace Dd
open PySem L2 Pk Xc
/-! ### what a row of bytes tells as a number -/
inductive RdR where
  | er (why : Str) | ok (v : Int) (c : Nat)
abbrev wL : Str := Str.ofString "long"
abbrev wSh : Str := Str.ofString "short"
def rdGo : Nat → Nat → List Int → RdR
  | 0, _, _ => .er wL
  | _ + 1, _, [] => .er wSh
  | m + 1, n, x :: xs => if x < 128 then (if x = 0 ∧ 0 < n then .er wL else .ok x (n + 1)) else
    match rdGo m (n + 1) xs with
    | .er w => .er w
    | .ok v c => .ok (x % 128 + 128 * v) c
def glue (p : Int) (n : Nat) : RdR → RdR
  | .er w => .er w
  | .ok v c => .ok (p + 128 ^ n * v) c
def unz (v : Int) : Int := if v % 2 = 0 then v / 2 else -1 - v / 2
def rdD (a : Nat) : RdR → D
  | .er w => .str w
  | .ok v c => .tup [.int (unz v), .int ((a : Int) + (c : Int))]
/-! sevens, the lowest ones first -/
def val7 : List Int → Int
  | [] => 0
  | s :: ss => s + 128 * val7 ss
/-! ### promises -/
abbrev Bt (ns : List Int) : Prop := ∀ x ∈ ns, 0 ≤ x ∧ x < 256
def why (C : Addr) (w : Str) : Ex := ⟨C, [(.inr "why", .str w)]⟩
def dsByteX (C : Addr) : DSp := fun args b k kx => ∃ (s : Sl) (ns : List Int) (a : Nat), args = [s, .val (.int a)] ∧ RowIs s ns ∧ match ns[a]? with
  | some x => k (.s (.tup [.int x, .int ((a : Int) + 1)])) b
  | none => kx (why C wSh) b
def endX (C : Addr) (k : DK) (kx : DX) (b : Nat) (a : Nat) : RdR → Prop
  | .er w => kx (why C w) b
  | .ok v c => k (.s (.tup [.int (unz v), .int ((a : Int) + (c : Int))])) b
def dsNumX (C : Addr) : DSp := fun args b k kx => ∃ (s : Sl) (ns : List Int) (a : Nat), args = [s, .val (.int a)] ∧ RowIs s ns ∧ Bt ns ∧ endX C k kx b a (rdGo 9 0 (ns.drop a))
def dsNumAt : DSp := fun args b k _ => ∃ (s : Sl) (ns : List Int) (a : Nat), args = [s, .val (.int a)] ∧ RowIs s ns ∧ Bt ns ∧ ns.length ≤ 100000 ∧ a ≤ 100000 ∧ k (.s (rdD a (rdGo 9 0 (ns.drop a)))) b
def dsToldN : DSp := fun args b k _ => ∃ (s : Sl) (ns : List Int) (a : Nat), args = [s, .val (.int a)] ∧ RowIs s ns ∧ Bt ns ∧ k (.s (rdD a (rdGo 9 0 (ns.drop a)))) b
def dsWhyOf (C : Addr) : DSp := fun args b k _ => ∃ w : Str, args = [.val (.er C [(.inr "why", .str w)])] ∧ k (.s (.str w)) b
def dsAny : DSp := fun args b k _ => args = [.st] ∧ b + 20 < 100000000 ∧ ∀ n : Int, Small n → k (.s (.int n)) (b + 12)
def dsRowN : DSp := fun args b k _ => args = [.st] ∧ b + 100 < 100000000 ∧ ∀ (ns : List Int) (b' : Nat), Bt ns → ns.length ≤ 200 → b' ≤ b + 100 → k (.o (ns.map D.int)) b'
end Dd

namespace Dd
open PySem L2 Pk Xc Bm
/-! ### numbers of so many bits each, read out of any row -/
structure RdT (T w j r held bits : Nat) : Prop where
  b : bits + w * j = 8 * r
  h : held = T % 256 ^ r / 2 ^ (w * j)
theorem RdT.pow {T w j r held bits : Nat} (R : RdT T w j r held bits) : 256 ^ r = 2 ^ (w * j) * 2 ^ bits := by
  rw [p256, ← R.b, Nat.pow_add, Nat.mul_comm]
theorem RdT.lt {T w j r held bits : Nat} (R : RdT T w j r held bits) : held < 2 ^ bits := by
  rw [R.h]
  refine (Nat.div_lt_iff_lt_mul (Nat.two_pow_pos _)).mpr ?_
  rw [Nat.mul_comm, ← R.pow]
  exact Nat.mod_lt _ (Nat.pow_pos (by decide))
/-- the value of a row of bytes, the lowest one first -/
abbrev le8 (xs : List Nat) : Nat := vl 8 xs
/-- so many bytes hold so many numbers -/
abbrev kb (many wide : Nat) : Nat := (many * wide + 7) / 8
abbrev wTl : Str := Str.ofString "tail"
inductive PkR where
  | er (why : Str) | ok (ns : List Nat) (b : Nat)
def pkR (xs : List Nat) (a many wide : Nat) : PkR :=
  if xs.length < a + kb many wide then .er wSh
  else if le8 ((xs.drop a).take (kb many wide)) / 2 ^ (wide * many) ≠ 0 then .er wTl
  else .ok ((List.range many).map fun j => le8 ((xs.drop a).take (kb many wide)) / 2 ^ (wide * j) % 2 ^ wide) (a + kb many wide)
def pkD : PkR → D
  | .er w => .str w
  | .ok ns b => .tup [.lst (ns.map fun (n : Nat) => D.int (n : Int)), .int (b : Int)]
def endP (C : Addr) (k : DK) (kx : DX) (b : Nat) : PkR → Prop
  | .er w => kx (why C w) b
  | .ok ns p => k (.s (.tup [.lst (ns.map fun (n : Nat) => D.int (n : Int)), .int (p : Int)])) b
abbrev B8 (xs : List Nat) : Prop := ∀ x ∈ xs, x < 256
def dsPackX (C : Addr) : DSp := fun args b k kx => ∃ (s : Sl) (xs : List Nat) (a many wide : Nat), args = [s, .val (.int a), .val (.int many), .val (.int wide)] ∧ RowIs s (xs.map ic) ∧ B8 xs ∧ xs.length ≤ 10000 ∧ a ≤ 10000 ∧ many ≤ 64 ∧ wide ≤ 62 ∧ endP C k kx b (pkR xs a many wide)
def dsDueP : DSp := fun args b k _ => ∃ (xs : List Nat) (a many wide : Nat), args = [.bb ((xs.map ic).map D.int), .val (.int a), .val (.int many), .val (.int wide)] ∧ B8 xs ∧ xs.length ≤ 1000 ∧ a ≤ xs.length ∧ many ≤ 64 ∧ wide ≤ 62 ∧ k (.s (pkD (pkR xs a many wide))) b
def dsToldP : DSp := fun args b k _ => ∃ (s : Sl) (xs : List Nat) (a many wide : Nat), args = [s, .val (.int a), .val (.int many), .val (.int wide)] ∧ RowIs s (xs.map ic) ∧ B8 xs ∧ xs.length ≤ 10000 ∧ a ≤ 10000 ∧ many ≤ 64 ∧ wide ≤ 62 ∧ k (.s (pkD (pkR xs a many wide))) b
def dsOneP : DSp := fun args b k _ => args = [.st] ∧ b + 4000 < 100000000 ∧ ∀ (xs : List Nat) (a many wide b' : Nat), B8 xs → xs.length ≤ 1000 → a ≤ xs.length → a ≤ 10 → many ≤ 31 → wide ≤ 62 → b' ≤ b + 4000 → k (.s (.tup [.lst ((xs.map ic).map D.int), .int a, .int many, .int wide])) b'
/-! ### the bits of a row -/
def dsNoiseM : DSp := fun args b k _ => ∃ m : Int, args = [.st, .val (.int m)] ∧ 0 ≤ m ∧ m ≤ 1000 ∧ b + 4 * m.toNat + 10 < 100000000 ∧ ∀ ns : List Int, Bt ns → ns.length = m.toNat → k (.o (ns.map D.int)) (b + 4 * m.toNat)
end Dd

namespace Dd
open PySem L2 Pk Xc
section
variable {X : Cx} {c : Dc}
/-! ### a call without arguments; a call of what an expression gives -/
def kCallE (f : Addr) (ds : DSp) (kx : DX) (da : DA) (A : List Sl) (k : DK) : DK := fun r b => r = .s (.fn f) ∧ dCall ds kx da A b k
def dCallE (f : Addr) (de : DE) (ds : DSp) (kx : DX) (da : DA) : DE := fun A b k => de A b (kCallE f ds kx da A k)
end
theorem q_callE {f : Addr} {de : DE} {ds : DSp} {kx : DX} {da : DA} {A : List Sl} {b : Nat} {k : DK} : dCallE f de ds kx da A b k = de A b (kCallE f ds kx da A k) := rfl
theorem q_kCallE {f : Addr} {ds : DSp} {kx : DX} {da : DA} {A : List Sl} {b : Nat} {k : DK} {r : Rs} : kCallE f ds kx da A k r b = (r = .s (.fn f) ∧ da A b (kCall ds kx k)) := rfl
/-! ### what a row of bytes tells as a text, as a cell -/
abbrev wCt : Str := Str.ofString "count"
abbrev wSg : Str := Str.ofString "sign"
abbrev wKd : Str := Str.ofString "kind"
inductive XR where
  | er (why : Str) | ok (d : D)
def xrD : XR → D
  | .er w => .str w
  | .ok d => d
def endR (C : Addr) (k : DK) (kx : DX) (b : Nat) : XR → Prop
  | .er w => kx (why C w) b
  | .ok d => k (.s d) b
def numR (ns : List Int) (a : Nat) : XR := match rdGo 9 0 (ns.drop a) with
  | .er w => .er w
  | .ok v c => .ok (.tup [.int (unz v), .int ((a : Int) + (c : Int))])
inductive SgR where
  | er (why : Str) | ok (cs : List Int)
def sgGo : Nat → List Int → SgR
  | 0, _ => .ok []
  | _ + 1, [] => .er wSh
  | m + 1, x :: xs => if 93 < x then .er wSg else match sgGo m xs with
    | .er w => .er w
    | .ok cs => .ok (x :: cs)
def sglue (bs : List Int) : SgR → SgR
  | .er w => .er w
  | .ok cs => .ok (bs ++ cs)
def sgc (x : Int) : Nat := sgT.cps.toList.getD x.toNat 0
def sgs (bs : List Int) : List Str := bs.map fun x => sgn1 (sgc x)
def txt (bs : List Int) : Str := Txt.join (Str.ofString "") (sgs bs)
def txR (ns : List Int) (a : Nat) : XR := match rdGo 9 0 (ns.drop a) with
  | .er w => .er w
  | .ok v c => if 0 ≤ unz v ∧ unz v ≤ 20 then (match sgGo (unz v).toNat (ns.drop (a + c)) with
    | .er w => .er w
    | .ok bs => .ok (.tup [.str (txt bs), .int (((a + c : Nat) : Int) + unz v)])) else .er wCt
def clR (ns : List Int) (a : Nat) : XR := match ns[a]? with
  | none => .er wSh
  | some x => if x = 0 then .ok (.tup [.non, .int ((a : Int) + 1)]) else if x = 1 then numR ns (a + 1) else if x = 2 then txR ns (a + 1) else .er wKd
/-! ### promises -/
def dsSigns : DSp := fun args b k _ => args = [] ∧ k (.s (.str sgT)) b
def dsTb : DSp := fun args b k _ => ∃ t, args = [.val (.str t)] ∧ OkT t ∧ k (.o ((tb t).map D.int)) b
def dsTxtX (C : Addr) : DSp := fun args b k kx => ∃ (s : Sl) (ns : List Int) (a : Nat), args = [s, .val (.int a)] ∧ RowIs s ns ∧ Bt ns ∧ endR C k kx b (txR ns a)
def dsCellX (C : Addr) : DSp := fun args b k kx => ∃ (s : Sl) (ns : List Int) (a : Nat), args = [s, .val (.int a)] ∧ RowIs s ns ∧ Bt ns ∧ endR C k kx b (clR ns a)
def dsTxtAt : DSp := fun args b k _ => ∃ (ns : List Int) (a : Nat), args = [.bb (ns.map D.int), .val (.int a)] ∧ Bt ns ∧ ns.length ≤ 9000 ∧ a ≤ ns.length ∧ k (.s (xrD (txR ns a))) b
def dsCellAt : DSp := fun args b k _ => ∃ (ns : List Int) (a : Nat), args = [.bb (ns.map D.int), .val (.int a)] ∧ Bt ns ∧ ns.length ≤ 9000 ∧ a ≤ ns.length ∧ k (.s (xrD (clR ns a))) b
def dsToldT : DSp := fun args b k _ => ∃ (w : Str) (ns : List Int) (a : Nat), args = [.val (.str w), .bb (ns.map D.int), .val (.int a)] ∧ Bt ns ∧ ((w = Str.ofString "text" ∧ k (.s (xrD (txR ns a))) b) ∨ (w = Str.ofString "cell" ∧ k (.s (xrD (clR ns a))) b))
def dsRowT : DSp := fun args b k _ => args = [.st] ∧ b + 300 < 100000000 ∧ ∀ (ns : List Int) (b' : Nat), Bt ns → ns.length ≤ 200 → b' ≤ b + 200 → k (.o (ns.map D.int)) b'
end Dd

namespace Dd
open PySem L2 Pk PyProof.Rows So
/-! ### keys, over data -/
def itD : D → Option (Int ⊕ List Nat)
  | .int n => some (.inl n)
  | .str x => some (.inr x.cps.toList)
  | _ => none
def keyT : D → List (Int ⊕ List Nat)
  | .tup ds => ds.filterMap itD
  | _ => []
def ShD (shape : Nat → Bool) : Nat → List D → Prop
  | _, [] => True
  | i, .int _ :: r => shape i = false ∧ ShD shape (i + 1) r
  | i, .str _ :: r => shape i = true ∧ ShD shape (i + 1) r
  | _, _ => False
def KeyD (shape : Nat → Bool) (d : D) : Prop := ∃ x xs, d = .tup (x :: xs) ∧ ShD shape 0 (x :: xs)
/-- a list that is being sorted, to the very object -/
def Srt (a : Addr) (e : Nat) (h : Heap) : Prop := h.get? a = some (seqObj "list" #[] e)
section
variable {X : Cx} {c : Dc}
def leK (x y : D) : Prop := lexGt (keyT x) (keyT y) = false
def kSrtK (Kd : D → Prop) (g : D → D) (k : DK) : DK := fun r b => ∃ xs, r.d = .lst xs ∧ (∀ d ∈ xs, Kd d) ∧ ∀ ys : List D, ys.Perm xs → (ys.Pairwise fun x y => leK (g x) (g y)) → k (.o ys) b
def dSrtK (Kd : D → Prop) (g : D → D) (de : DE) : DE := fun A b k => de A b (kSrtK Kd g k)
end
end Dd

namespace Dd
open PySem L2 Pk PyProof.Rows Cc
/-! ### sets written as comprehensions, over data -/
section
variable {Kk : Type} [DecidableEq Kk] {X : Cx} {c : Dc}
def kScR (dv : Kk → D) (ks : List Kk) (Q : List Kk → Nat → Prop) : DK := fun r b => ∃ k, r = .s (dv k) ∧ ks.length < 4000 ∧ Q (Ds.plus ks k) b
def kScE (de : DE) (A : List Sl) (dv : Kk → D) (ks : List Kk) (Q : List Kk → Nat → Prop) : BK := fun t b => if t = true then de A b (kScR dv ks Q) else Q ks b
def kScT (dt : DT) (de : DE) (dv : Kk → D) (ks : List Kk) (Q : List Kk → Nat → Prop) (b : Nat) : GK := fun A' => dt A' b (kScE de A' dv ks Q)
def scD (dv : Kk → D) (ds : List D) (dg : DG) (dt : DT) (de : DE) (ws : List Nat) (A : List Sl) (b : Nat) (Fin : List Kk → Nat → Prop) : Prop := ∃ I : Nat → List Kk → Nat → Prop, I 0 [] b ∧
  (∀ i d ks b, ds[i]? = some d → I i ks b → dg d (wipeS A ws) (kScT dt de dv ks (I (i + 1)) b)) ∧ ∀ ks b, I ds.length ks b → Fin ks b
end
section
variable {X : Cx} {c : Dc}
def kSrtI (dg : DG) (dt : DT) (de : DE) (ws : List Nat) (A : List Sl) (k : DK) : IK := fun ds b => scD D.int ds dg dt de ws A b fun ks b => ∀ ns : List Int, ns.Perm ks → ns.Pairwise (· ≤ ·) → k (.o (ns.map D.int)) b
def kSrtS (dg : DG) (dt : DT) (de : DE) (ws : List Nat) (A : List Sl) (k : DK) : IK := fun ds b => scD D.str ds dg dt de ws A b fun ks b => ∀ ns : List Str, ns.Perm ks → sortedS ns = true → k (.o (ns.map D.str)) b
def dSrtI (di : DI) (dg : DG) (dt : DT) (de : DE) (ws : List Nat) : DE := fun A b k => di A b (kSrtI dg dt de ws A k)
def dSrtS (di : DI) (dg : DG) (dt : DT) (de : DE) (ws : List Nat) : DE := fun A b k => di A b (kSrtS dg dt de ws A k)
/-! ### sorted(.., key = f) -/
end
section
variable {Kk : Type} [DecidableEq Kk] {A : List Sl} {b : Nat} {k : DK} {dg : DG} {dt : DT} {de : DE} {di : DI} {ws : List Nat} {dv : Kk → D} {ks : List Kk} {Q : List Kk → Nat → Prop} {xs : List D} {Kd : D → Prop} {g : D → D} {r : Rs} {t : Bool}
theorem q_srtI : dSrtI di dg dt de ws A b k = di A b (kSrtI dg dt de ws A k) := rfl
theorem q_srtS : dSrtS di dg dt de ws A b k = di A b (kSrtS dg dt de ws A k) := rfl
theorem q_kSrtI : kSrtI dg dt de ws A k xs b = scD D.int xs dg dt de ws A b fun ks b => ∀ ns : List Int, ns.Perm ks → ns.Pairwise (· ≤ ·) → k (.o (ns.map D.int)) b := rfl
theorem q_kSrtS : kSrtS dg dt de ws A k xs b = scD D.str xs dg dt de ws A b fun ks b => ∀ ns : List Str, ns.Perm ks → sortedS ns = true → k (.o (ns.map D.str)) b := rfl
theorem q_kScT : kScT dt de dv ks Q b A = dt A b (kScE de A dv ks Q) := rfl
theorem q_kScE : kScE de A dv ks Q t b = (if t = true then de A b (kScR dv ks Q) else Q ks b) := rfl
theorem q_kScR : kScR dv ks Q r b = ∃ k, r = .s (dv k) ∧ ks.length < 4000 ∧ Q (Ds.plus ks k) b := rfl
theorem q_srtK : dSrtK Kd g de A b k = de A b (kSrtK Kd g k) := rfl
theorem q_kSrtK : kSrtK Kd g k r b = ∃ xs, r.d = .lst xs ∧ (∀ d ∈ xs, Kd d) ∧ ∀ ys : List D, ys.Perm xs → (ys.Pairwise fun x y => leK (g x) (g y)) → k (.o ys) b := rfl
end
end Dd

namespace Dd
open PySem L2 Pk PyProof.Rows Oc Cd
/-! ### dicts with open keys, over data -/
def okD : OKey → D
  | none => .non
  | some (.inl i) => .int i
  | some (.inr s) => .str s
def putO (kvs : List (OKey × D)) (k : OKey) (d : D) : List (OKey × D) := if (kvs.any fun kv => decide (kv.1 = k)) = true then kvs.map (fun kv => if kv.1 = k then (kv.1, d) else kv) else kvs ++ [(k, d)]
def valO (kvs : List (OKey × D)) (k : OKey) : Option D := (kvs.find? fun kv => decide (kv.1 = k)).map (·.2)
theorem RpO.any {K : PySem.W.Frag} {F : Hp} {k : OKey} : ∀ {vs : List (OKey × V)} {ds : List (OKey × D)}, RpO K F vs ds → (vs.any fun kv => decide (kv.1 = k)) = ds.any fun kv => decide (kv.1 = k)
  | _, _, .nil => rfl
  | _, _, .cons a r => by rw [List.any_cons, List.any_cons, r.any]
theorem RpO.length {K : PySem.W.Frag} {F : Hp} : ∀ {vs : List (OKey × V)} {ds : List (OKey × D)}, RpO K F vs ds → vs.length = ds.length
  | _, _, .nil => rfl
  | _, _, .cons a r => by rw [List.length_cons, List.length_cons, r.length]
theorem RpO.snoc {K : PySem.W.Frag} {F : Hp} {k : OKey} {v : V} {d : D} (h : Rp K F v d) : ∀ {vs : List (OKey × V)} {ds : List (OKey × D)}, RpO K F vs ds → RpO K F (vs ++ [(k, v)]) (ds ++ [(k, d)])
  | _, _, .nil => .cons h .nil
  | _, _, .cons a r => .cons a (r.snoc h)
theorem RpO.repl {K : PySem.W.Frag} {F : Hp} {k : OKey} {v : V} {d : D} (h : Rp K F v d) : ∀ {vs : List (OKey × V)} {ds : List (OKey × D)}, RpO K F vs ds → RpO K F (vs.map fun kv => if kv.1 = k then (kv.1, v) else kv) (ds.map fun kv => if kv.1 = k then (kv.1, d) else kv)
  | _, _, .nil => .nil
  | _, _, .cons (k := k') a r => by
    rw [List.map_cons, List.map_cons]
    by_cases e : k' = k
    · rw [if_pos e, if_pos e]; exact .cons h (r.repl h)
    · rw [if_neg e, if_neg e]; exact .cons a (r.repl h)
theorem RpO.put {K : PySem.W.Frag} {F : Hp} {k : OKey} {v : V} {d : D} {vs : List (OKey × V)} {ds : List (OKey × D)} (r : RpO K F vs ds) (h : Rp K F v d) : RpO K F (putK vs k v) (putO ds k d) := by
  unfold putK putO
  rw [r.any]
  split
  · exact r.repl h
  · exact r.snoc h
theorem RpO.val {K : PySem.W.Frag} {F : Hp} {k : OKey} {d : D} : ∀ {vs : List (OKey × V)} {ds : List (OKey × D)}, RpO K F vs ds → valO ds k = some d → ∃ v, valV vs k = some v ∧ Rp K F v d
  | _, _, .nil, e => by cases e
  | (k', v) :: _, (_, d') :: _, .cons a r, e => by
    unfold valO valV at *
    by_cases z : k' = k
    · rw [List.find?_cons_of_pos (by simpa using z)] at e ⊢
      cases e
      exact ⟨v, rfl, a⟩
    · rw [List.find?_cons_of_neg (by simpa using z)] at e ⊢
      exact r.val e
section
variable {X : Cx} {c : Dc}
abbrev OK' := List (OKey × D) → Nat → Prop
def kDc2 (key : OKey) (acc : List (OKey × D)) (Q : OK') : DK := fun r b => ∃ d, r = .s d ∧ acc.length < sizeLine ∧ Q (putO acc key d) b
def kDc1 (dv : DE) (A : List Sl) (acc : List (OKey × D)) (Q : OK') : DK := fun r b => ∃ key, r = .s (okD key) ∧ dv A b (kDc2 key acc Q)
def kDcE (dk dv : DE) (A : List Sl) (acc : List (OKey × D)) (Q : OK') : BK := fun t b => if t = true then dk A b (kDc1 dv A acc Q) else Q acc b
def kDcT (dt : DT) (dk dv : DE) (acc : List (OKey × D)) (Q : OK') (b : Nat) : GK := fun A' => dt A' b (kDcE dk dv A' acc Q)
def kDc (w : World) (dg : DG) (dt : DT) (dk dv : DE) (ws : List Nat) (A : List Sl) (k : DK) : IK := fun ds b => ∃ I : Nat → List (OKey × D) → Nat → Prop, I 0 [] b ∧
  (∀ i d acc b, ds[i]? = some d → I i acc b → dg d (wipeS A ws) (kDcT dt dk dv acc (I (i + 1)) b)) ∧ ∀ acc b, I ds.length acc b → k (.s (.om w acc)) b
def dDc (w : World) (di : DI) (dg : DG) (dt : DT) (dk dv : DE) (ws : List Nat) : DE := fun A b k => di A b (kDc w dg dt dk dv ws A k)
/-! d[k] -/
def tOGet (w : World) (td ty : TE) : TE := fun σ H Q => td σ H fun x H1 => ty σ H1 fun y H2 => ∃ a kvs k v, x = .ref a ∧ H2 a = some (dx w a kvs) ∧ y = okV k ∧ valV kvs k = some v ∧ Q v H2
def kOGet2 (w : World) (kds : List (OKey × D)) (k : DK) : DK := fun y b => ∃ key d, y = .s (okD key) ∧ valO kds key = some d ∧ k (.s d) b
def kOGet1 (w : World) (db : DE) (A : List Sl) (k : DK) : DK := fun x b => ∃ kds, x = .s (.om w kds) ∧ db A b (kOGet2 w kds k)
def dOGet (w : World) (da db : DE) : DE := fun A b k => da A b (kOGet1 w db A k)
/-! xs.index(d), flat -/
def kIdx (xs : List D) (k : DK) : DK := fun y b => ∃ d, ∃ j : Nat, y = .s d ∧ flt d = true ∧ xs.all flt = true ∧ (∃ z, xs[j]? = some z ∧ eqV (toV z) (toV d) = true) ∧ (∀ (m : Nat) (z : D), m < j → xs[m]? = some z → eqV (toV z) (toV d) = false) ∧ k (.s (.int (j : Nat))) b
def kIdx0 (db : DE) (A : List Sl) (k : DK) : DK := fun x b => ∃ xs, x.d = .lst xs ∧ db A b (kIdx xs k)
def dIdx (da db : DE) : DE := fun A b k => da A b (kIdx0 db A k)
end
end Dd

namespace Dd
open PySem L2 Pk PyProof.Rows
section
variable {X : Cx} {c : Dc}
/-! ### x.reverse() -/
def kRvs (j : Nat) (E : DEnds) (A : List Sl) (b : Nat) : List D → Prop := fun ds => E.nx (A.set j (.own ds.reverse)) b
def dRvs (j : Nat) : DS := fun E A b => own A j (kRvs j E A b)
theorem q_rvs {n : Nat} {E : DEnds} {A : List Sl} {b : Nat} : dRvs n E A b = own A n (kRvs n E A b) := rfl
theorem q_kRvs {n : Nat} {E : DEnds} {A : List Sl} {b : Nat} {ds : List D} : kRvs n E A b ds = E.nx (A.set n (.own ds.reverse)) b := rfl
end
/-! ### the places that a test names -/
def RT.nm : RT → List Nat
  | .alw => [] | .cel p _ => [p] | .cls p _ q => [p, q] | .neg a => a.nm | .both a b => a.nm ++ b.nm | .eith a b => a.nm ++ b.nm
def nmD (l : List Nat) : List D := l.map fun (p : Nat) => .int (p : Int)
def upN (n : Nat) (l : List Nat) : List Nat := (List.range n).filter fun p => decide (p ∈ l)
def dsNamed (n : Nat) : DSp := fun args b k _ => ∃ (t : RT) (ks : List Str), args = [.val t.d] ∧ t.dp < n ∧ n ≤ 13 ∧ t.ok ks ∧ k (.o (nmD t.nm)) b
def dsPlaces : DSp := fun args b k _ => ∃ (t : RT) (ks : List Str), args = [.val t.d] ∧ t.dp < 10 ∧ t.ok ks ∧ k (.o (nmD (upN ks.length t.nm))) b
def dsChain : DSp := fun args b k _ => ∃ (ks : List Str) (cols : List D) (h : Nat), args = [.st, .bb (ks.map D.str), .bb cols] ∧ Kinds ks ∧ cols.length = ks.length ∧ ColsOk ks h cols ∧ h ≤ 1000 ∧ b + 200000 < 100000000 ∧ ∀ (t : RT) (b' : Nat), t.ok ks → t.dp ≤ 6 → b' ≤ b + 70000 → k (.s t.d) b'
end Dd
namespace Dd
end Dd
namespace Dd
end Dd
namespace Dd
open PySem L2 Pk
end Dd

namespace Dd
open PySem L2 Pk PyProof.Rows Oc Cd
section
variable {X : Cx} {c : Dc}
/-! x.clear() -/
def kClr (j : Nat) (E : DEnds) (A : List Sl) (b : Nat) : List D → Prop := fun _ => E.nx (A.set j (.own [])) b
def dClr (j : Nat) : DS := fun E A b => own A j (kClr j E A b)
theorem q_clr {n : Nat} {E : DEnds} {A : List Sl} {b : Nat} : dClr n E A b = own A n (kClr n E A b) := rfl
theorem q_kClr {n : Nat} {E : DEnds} {A : List Sl} {b : Nat} {ds : List D} : kClr n E A b ds = E.nx (A.set n (.own [])) b := rfl
/-! x.append(y.pop(e)) -/
def kPA2 (j jy : Nat) (E : DEnds) (A : List Sl) (ds es : List D) : DK := fun r b => ∃ i m d, r = .s (.int i) ∧ ixN es.length i = some m ∧ es[m]? = some d ∧ ds.length < sizeLine ∧ es.length ≤ sizeLine ∧ E.nx ((A.set jy (.own (es.eraseIdx m))).set j (.own (ds ++ [d]))) b
def kPA1 (j jy : Nat) (di : DE) (E : DEnds) (A : List Sl) (b : Nat) (ds : List D) : List D → Prop := fun es => di A b (kPA2 j jy E A ds es)
def kPA0 (j jy : Nat) (di : DE) (E : DEnds) (A : List Sl) (b : Nat) : List D → Prop := fun ds => own A jy (kPA1 j jy di E A b ds)
def dPA (j jy : Nat) (di : DE) : DS := fun E A b => own A j (kPA0 j jy di E A b)
theorem q_pa {j jy : Nat} {di : DE} {E : DEnds} {A : List Sl} {b : Nat} : dPA j jy di E A b = own A j (kPA0 j jy di E A b) := rfl
theorem q_kPA0 {j jy : Nat} {di : DE} {E : DEnds} {A : List Sl} {b : Nat} {ds : List D} : kPA0 j jy di E A b ds = own A jy (kPA1 j jy di E A b ds) := rfl
theorem q_kPA1 {j jy : Nat} {di : DE} {E : DEnds} {A : List Sl} {b : Nat} {ds es : List D} : kPA1 j jy di E A b ds es = di A b (kPA2 j jy E A ds es) := rfl
theorem q_kPA2 {j jy : Nat} {E : DEnds} {A : List Sl} {b : Nat} {ds es : List D} {r : Rs} : kPA2 j jy E A ds es r b = ∃ i m d, r = .s (.int i) ∧ ixN es.length i = some m ∧ es[m]? = some d ∧ ds.length < sizeLine ∧ es.length ≤ sizeLine ∧ E.nx ((A.set jy (.own (es.eraseIdx m))).set j (.own (ds ++ [d]))) b := rfl
end
section
variable {w : World} {A : List Sl} {b : Nat} {k : DK} {dg : DG} {dt : DT} {dk dv da db : DE} {di : DI} {ws : List Nat} {acc kds : List (OKey × D)} {Q : OK'} {xs : List D} {key : OKey} {r : Rs} {t : Bool}
def dcD (w : World) (ds : List D) (dg : DG) (dt : DT) (dk dv : DE) (ws : List Nat) (A : List Sl) (b : Nat) (k : DK) : Prop := kDc w dg dt dk dv ws A k ds b
theorem q_dc : dDc w di dg dt dk dv ws A b k = di A b (kDc w dg dt dk dv ws A k) := rfl
theorem q_kDc : kDc w dg dt dk dv ws A k xs b = dcD w xs dg dt dk dv ws A b k := rfl
theorem q_kDcT : kDcT dt dk dv acc Q b A = dt A b (kDcE dk dv A acc Q) := rfl
theorem q_kDcE : kDcE dk dv A acc Q t b = (if t = true then dk A b (kDc1 dv A acc Q) else Q acc b) := rfl
theorem q_kDc1 : kDc1 dv A acc Q r b = ∃ key, r = .s (okD key) ∧ dv A b (kDc2 key acc Q) := rfl
theorem q_kDc2 : kDc2 key acc Q r b = ∃ d, r = .s d ∧ acc.length < sizeLine ∧ Q (putO acc key d) b := rfl
theorem q_oget : dOGet w da db A b k = da A b (kOGet1 w db A k) := rfl
theorem q_kOGet1 : kOGet1 w db A k r b = ∃ kds, r = .s (.om w kds) ∧ db A b (kOGet2 w kds k) := rfl
theorem q_kOGet2 : kOGet2 w kds k r b = ∃ key d, r = .s (okD key) ∧ valO kds key = some d ∧ k (.s d) b := rfl
theorem q_lidx : dIdx da db A b k = da A b (kIdx0 db A k) := rfl
theorem q_kIdx0 : kIdx0 db A k r b = ∃ xs, r.d = .lst xs ∧ db A b (kIdx xs k) := rfl
end
end Dd

namespace Dd
open PySem L2 Pk Xc
/-! ### instances that stay: their attributes, their methods -/
theorem keyed_none {f : Str} : ∀ {fs : List (Str × V)}, valV (keyed fs) (.inr f) = none → fs.lookup f = none
  | [], _ => rfl
  | (g, w) :: fs, h => by
    unfold keyed valV at h
    rw [List.map_cons] at h
    by_cases e : g = f
    · subst e
      rw [List.find?_cons_of_pos (by simp)] at h
      cases h
    · rw [List.find?_cons_of_neg (by simpa using e)] at h
      rw [List.lookup_cons, show (f == g) = false from by simp [Ne.symm e]]
      exact keyed_none h
theorem RpK.valN {K : PySem.W.Frag} {F : Hp} {k : Key} {kvs : List (Key × V)} {kds : List (Key × D)} (q : RpK K F kvs kds) (h : valD kds k = none) : valV kvs k = none := by
  induction kds generalizing kvs with
  | nil => cases q; rfl
  | cons kd kds ih =>
    cases q with
    | cons a r =>
      rename_i v k' d kvs
      unfold valD at h
      by_cases e : v = k
      · subst e
        rw [List.find?_cons_of_pos (by simp)] at h
        cases h
      · rw [List.find?_cons_of_neg (by simpa using e)] at h
        unfold valV
        rw [List.find?_cons_of_neg (by simpa using e)]
        exact ih r h
def kFld (C : Addr) (f : Str) (k : DK) : DK := fun r b1 => ∃ kds d, r = .s (.ob C kds) ∧ valD kds (.inr f) = some d ∧ k (.s d) b1
def dFld (C : Addr) (f : Str) (de : DE) : DE := fun A b k => de A b (kFld C f k)
def dFldS (i : Nat) (C : Addr) (f : Str) : DE := fun A b k => ∃ p kds d, A[i]? = some (.bo p C kds) ∧ valD kds (.inr f) = some d ∧ k (.s d) b
def kMeth2 (C : Addr) (ds : DSp) (kx : DX) (kds : List (Key × D)) (k : DK) : List Rs → Nat → Prop := fun rs b1 => noO rs = true ∧ ds (.val (.ob C kds) :: rs.map toSl) b1 k kx
def kMeth1 (C : Addr) (m : Str) (ds : DSp) (kx : DX) (da : DA) (A : List Sl) (k : DK) : DK := fun r b0 => ∃ kds, r = .s (.ob C kds) ∧ valD kds (.inr m) = none ∧ da A b0 (kMeth2 C ds kx kds k)
def dMeth (C : Addr) (m : Str) (ds : DSp) (kx : DX) (de : DE) (da : DA) : DE := fun A b k => de A b (kMeth1 C m ds kx da A k)
def dMethX (C : Addr) (m : Str) (ds : DSp) (kx : List Sl → DX) (de : DE) (da : DA) : DE := fun A b k => de A b (kMeth1 C m ds (kx A) da A k)
section
variable {X : Cx} {c : Dc}
end
/-! a method that may raise -/
def tMethX (C : Addr) (m : Str) (sp : Sp) (E : L2.St → XK) (ta : TE) (t : TA) : TE := fun σ H Q => ta σ H fun x H1 => ∃ a dx fs, x = .ref a ∧ H1 a = some (.ins C dx fs) ∧ fs.lookup m = none ∧ t σ H1 fun vs H2 => sp (x :: vs) H2 Q (E σ)
theorem q_fld {C : Addr} {f : Str} {de : DE} {A : List Sl} {b : Nat} {k : DK} : dFld C f de A b k = de A b (kFld C f k) := rfl
theorem q_kFld {C : Addr} {f : Str} {k : DK} {kds : List (Key × D)} {b : Nat} : kFld C f k (.s (.ob C kds)) b = ∃ d, valD kds (.inr f) = some d ∧ k (.s d) b := propext ⟨fun ⟨_, d, e, h⟩ => by cases e; exact ⟨d, h⟩, fun ⟨d, h⟩ => ⟨_, d, rfl, h⟩⟩
theorem q_fldS {i : Nat} {C : Addr} {f : Str} {A : List Sl} {b : Nat} {k : DK} : dFldS i C f A b k = ∃ p kds d, A[i]? = some (.bo p C kds) ∧ valD kds (.inr f) = some d ∧ k (.s d) b := rfl
theorem q_meth {C : Addr} {m : Str} {ds : DSp} {kx : DX} {de : DE} {da : DA} {A : List Sl} {b : Nat} {k : DK} : dMeth C m ds kx de da A b k = de A b (kMeth1 C m ds kx da A k) := rfl
theorem q_methX {C : Addr} {m : Str} {ds : DSp} {kx : List Sl → DX} {de : DE} {da : DA} {A : List Sl} {b : Nat} {k : DK} : dMethX C m ds kx de da A b k = de A b (kMeth1 C m ds (kx A) da A k) := rfl
theorem q_kMeth1 {C : Addr} {m : Str} {ds : DSp} {kx : DX} {da : DA} {A : List Sl} {k : DK} {kds : List (Key × D)} {b : Nat} : kMeth1 C m ds kx da A k (.s (.ob C kds)) b = (valD kds (.inr m) = none ∧ da A b (kMeth2 C ds kx kds k)) := propext ⟨fun ⟨_, e, h⟩ => by cases e; exact h, fun h => ⟨_, rfl, h⟩⟩
theorem q_kMeth2 {C : Addr} {ds : DSp} {kx : DX} {kds : List (Key × D)} {k : DK} {rs : List Rs} {b : Nat} : kMeth2 C ds kx kds k rs b = (noO rs = true ∧ ds (.val (.ob C kds) :: rs.map toSl) b k kx) := rfl
end Dd

namespace Dd
open PySem L2 Pk Xc
/-! ### an instance is made, by its class's own __init__; from then on it stays -/
abbrev IKo := List (Key × D) → Nat → Prop
abbrev DSI := List Sl → Nat → IKo → Prop
abbrev DIo := Addr → IKo → List (Key × D) → List Sl → Nat → Prop
def spDI (K : PySem.W.Frag) (C : Addr) (ds : DSI) : Sp := fun vs H Q E => ∃ G F H0 p dx args b k us, vs = .ref p :: us ∧ H0 p = none ∧ H0 dx = none ∧ dx ≠ p ∧ H = upd (upd H0 dx (.own p)) p (.ins C dx []) ∧ ArOk (atCall K G F H0) F H0 us args ∧ Sub F (off G H0) ∧ gst K G F H0 b ∧ ds args b k ∧
  ∀ kds fs b' F' H', k kds b' → Ext (atCall K G F H0) F H0 F' H' → gst K G F' H' b' → Sub F' (off G H') → off G H' p = some (.ins C dx fs) → off G H' dx = some (.own p) → F' p = none → F' dx = none → RpK K F' (keyed fs) kds → Q .non H'
def TW (X : Cx) (st : List Stmt) : TS := fun D σ H => ∃ t, PSs X st t ∧ t D σ H
/-- where an instance stands that is being made -/
structure InM (c : Dc) (F H : Hp) (σ : L2.St) (A : List Sl) (b : Nat) (C p dx : Addr) (fs : List (Str × V)) (kds : List (Key × D)) : Prop where
  r : R c F σ H A b
  a0 : A[0]? = some .no
  s0 : σ[0]? = some (some (.ref p))
  bp : c.B p = none
  bx : c.B dx = none
  fp : F p = none
  fx : F dx = none
  ne : dx ≠ p
  hp : off c.G H p = some (.ins C dx fs)
  hx : off c.G H dx = some (.own p)
  q : RpK c.K F (keyed fs) kds
  l : fs.length ≤ 50
def PSI (X : Cx) (C : Addr) (st : List Stmt) (dI : DIo) : Prop := ∀ (c : Dc) F σ H A b (Dn : L2.Ends) k p dx fs kds, c.K = X.K → InM c F H σ A b C p dx fs kds → dI p k kds A b →
  (∀ F' σ' H' A' b' fs' kds', k kds' b' → (∀ a o, F a = some o → F' a = some o) → InM c F' H' σ' A' b' C p dx fs' kds' → Dn.nx σ' H') → TW X st Dn σ H
def nob : List Sl → Bool
  | [] => true
  | .bo _ _ _ :: _ => false
  | _ :: r => nob r
section
variable {X : Cx} {C : Addr}
def bUp (c : Dc) (p dx : Addr) (o o' : HO) : Dc := ⟨c.K, c.G, c.F0, upd (upd c.B p o) dx o'⟩
theorem InM.up {c : Dc} {F H : Hp} {σ : L2.St} {A : List Sl} {b : Nat} {p dx : Addr} {fs : List (Str × V)} {kds : List (Key × D)} (m : InM c F H σ A b C p dx fs kds) : R (bUp c p dx (.ins C dx fs) (.own p)) F σ H (A.set 0 (.bo p C kds)) b := by
  have r := m.r
  have hB : ∀ a o, c.B a = some o → (bUp c p dx (.ins C dx fs) (.own p)).B a = some o := fun a o z => by
    show upd (upd c.B p _) dx _ a = _
    rw [upd_ne (ne_of_none z m.bx), upd_ne (ne_of_none z m.bp)]
    exact z
  refine ⟨r.sub, fun a o z => ?_, r.f0, fun a o z => ?_, r.st, fun i s h => ?_, fun i j p' xs ys h1 h2 e1 e2 => ?_, by rw [List.length_set]; exact r.len⟩
  · have z : upd (upd c.B p _) dx _ a = some o := z
    by_cases e : a = dx
    · subst e; rw [upd_same] at z; exact m.hx.trans z
    · rw [upd_ne e] at z
      by_cases e : a = p
      · subst e; rw [upd_same] at z; exact m.hp.trans z
      · rw [upd_ne e] at z; exact r.bsub a o z
  · rcases r.n0 a o z with y | y
    · exact .inl y
    · refine .inr ?_
      show upd (upd c.B p _) dx _ a = none
      rw [upd_ne (ne_of_none z m.fx), upd_ne (ne_of_none z m.fp)]
      exact y
  · rcases get_set h with ⟨rfl, rfl⟩ | ⟨ni, h⟩
    · refine ⟨m.s0, dx, fs, ?_, ?_, m.q⟩
      · show upd (upd c.B p _) dx _ p = _
        rw [upd_ne (Ne.symm m.ne), upd_same]
      · show upd (upd c.B p _) dx _ dx = _
        rw [upd_same]
    · have q := r.sl i s h
      cases s with
      | no => trivial
      | val d => exact q
      | own ds =>
        obtain ⟨p', vs, hx, h1, h2, h3, rr⟩ := q
        refine ⟨p', vs, hx, h1, ?_, h3, rr⟩
        show upd (upd c.B p _) dx _ p' = none
        rw [upd_ne (show p' ≠ dx from fun e => by rw [e, m.hx] at h3; cases h3), upd_ne (show p' ≠ p from fun e => by rw [e, m.hp] at h3; cases h3)]
        exact h2
      | bb ds => obtain ⟨p', vs, hx, h1, rr⟩ := q; exact ⟨p', vs, hx, hB _ _ h1, rr⟩
      | st => exact q
      | bo p' C' kds' => obtain ⟨hx, dx', fs', h1, h2, rr⟩ := q; exact ⟨hx, dx', fs', hB _ _ h1, hB _ _ h2, rr⟩
  · have f : ∀ {i : Nat} {xs : List D}, (A.set 0 (.bo p C kds))[i]? = some (.own xs) → A[i]? = some (.own xs) := fun {i xs} z => by
      rcases get_set z with ⟨_, e⟩ | ⟨_, z⟩
      · cases e
      · exact z
    exact r.ds i j p' xs ys (f h1) (f h2) e1 e2
end
end Dd

namespace Dd
open PySem L2 Pk Xc
section
variable {X : Cx} {C : Addr}
/-- a statement on the names alone -/
def kLoc (C : Addr) (dI : DIo) (p : Addr) (k : IKo) (kds : List (Key × D)) : List Sl → Nat → Prop := fun A' b' => A'[0]? = some (.bo p C kds) ∧ nob (A'.set 0 .no) = true ∧ dI p k kds (A'.set 0 .no) b'
def dLoc (C : Addr) (dS : DS) (dI : DIo) : DIo := fun p k kds A b => dS { nx := kLoc C dI p k kds, rt := fun _ _ => False } (A.set 0 (.bo p C kds)) b
/-- self.f = e, f new -/
def kIFld (f : Str) (dI : DIo) (p : Addr) (k : IKo) (kds : List (Key × D)) (A : List Sl) : DK := fun r b1 => r.kp ∧ valD kds (.inr f) = none ∧ kds.length < 20 ∧ dI p k (kds ++ [(.inr f, r.d)]) A b1
def dIFld (C : Addr) (f : Str) (de : DE) (dI : DIo) : DIo := fun p k kds A b => de (A.set 0 (.bo p C kds)) b (kIFld f dI p k kds A)
/-- such an instance, made -/
def kMake (C : Addr) (ds : DSI) (k : DK) : List Rs → Nat → Prop := fun rs b1 => noO rs = true ∧ ds (rs.map toSl) b1 fun kds b2 => k (.s (.ob C kds)) b2
def dMake (C : Addr) (ds : DSI) (da : DA) : DE := fun A b k => da A b (kMake C ds k)
end
theorem q_loc {C : Addr} {dS : DS} {dI : DIo} {p : Addr} {k : IKo} {kds : List (Key × D)} {A : List Sl} {b : Nat} : dLoc C dS dI p k kds A b = dS { nx := kLoc C dI p k kds, rt := fun _ _ => False } (A.set 0 (.bo p C kds)) b := rfl
theorem q_kLoc {C : Addr} {dI : DIo} {p : Addr} {k : IKo} {kds : List (Key × D)} {A : List Sl} {b : Nat} : kLoc C dI p k kds A b = (A[0]? = some (.bo p C kds) ∧ nob (A.set 0 .no) = true ∧ dI p k kds (A.set 0 .no) b) := rfl
theorem q_ifld {C : Addr} {f : Str} {de : DE} {dI : DIo} {p : Addr} {k : IKo} {kds : List (Key × D)} {A : List Sl} {b : Nat} : dIFld C f de dI p k kds A b = de (A.set 0 (.bo p C kds)) b (kIFld f dI p k kds A) := rfl
theorem q_kIFldS {f : Str} {dI : DIo} {p : Addr} {k : IKo} {kds : List (Key × D)} {A : List Sl} {b : Nat} {d : D} : kIFld f dI p k kds A (.s d) b = (valD kds (.inr f) = none ∧ kds.length < 20 ∧ dI p k (kds ++ [(.inr f, d)]) A b) := propext ⟨fun h => h.2, fun h => ⟨trivial, h⟩⟩
theorem q_kIFldO {f : Str} {dI : DIo} {p : Addr} {k : IKo} {kds : List (Key × D)} {A : List Sl} {b : Nat} {ds : List D} : kIFld f dI p k kds A (.o ds) b = (valD kds (.inr f) = none ∧ kds.length < 20 ∧ dI p k (kds ++ [(.inr f, .lst ds)]) A b) := propext ⟨fun h => h.2, fun h => ⟨trivial, h⟩⟩
theorem q_make {C : Addr} {ds : DSI} {da : DA} {A : List Sl} {b : Nat} {k : DK} : dMake C ds da A b k = da A b (kMake C ds k) := rfl
theorem q_kMake {C : Addr} {ds : DSI} {k : DK} {rs : List Rs} {b : Nat} : kMake C ds k rs b = (noO rs = true ∧ ds (rs.map toSl) b fun kds b2 => k (.s (.ob C kds)) b2) := rfl
end Dd

namespace Dd
open PySem L2 Pk Xc
/-! ### a class's defs -/
structure DfM (K : PySem.W.Frag) (C : Addr) (m qual : Str) (st : Stmt) (ps : List Str) (f : Addr) (fd : FuncData) : Prop where
  F : Fun K m qual st f fd
  b : Binds K fd ps []
  me : Meth K C m f
structure DfI (K : PySem.W.Frag) (C : Addr) (qual : Str) (st : Stmt) (ps : List Str) (f : Addr) (fd : FuncData) : Prop where
  F : Fun K "__init__" qual st f fd
  b : Binds K fd ps []
  mkf : Mk K C f
theorem dfM_mk {K : PySem.W.Frag} {C : Addr} {m qual : Str} {st : Stmt} {ps : List Str} {f : Addr} {oc : Value} {od an : Option Addr} {osl : Array (Option Value)} {kV doc pm cdv ct : Value}
    (a : PySem.W.findIn K (.ref C) m = some (some (.ref f))) (i : PySem.W.isFn K (.ref f) = true) (l : K.lookup f = some ⟨oc, od, .func (PySem.W.fnOf m qual (defArgs st) (defBody st) (defScope st) .none kV doc pm an cdv ct), osl⟩)
    (c : PySem.W.codeIn K cdv qual = true) (k : PySem.W.keepIn K (.ref f) = true)
    (hb : ∀ (kV doc pm : Value) (an : Option Addr) (cdv ct : Value) (us : List Value), us.length = ps.length → PySem.bindArgs (PySem.W.fnOf m qual (defArgs st) (defBody st) (defScope st) .none kV doc pm an cdv ct) ⟨us, []⟩ = pure (ps.zip us)) :
    DfM K C m qual st ps f (PySem.W.fnOf m qual (defArgs st) (defBody st) (defScope st) .none kV doc pm an cdv ct) :=
  ⟨fun_mk l c k, (fun_mk l c k).binds hb, ⟨a, i, k⟩⟩
theorem dfI_mk {K : PySem.W.Frag} {C : Addr} {qual : Str} {st : Stmt} {ps : List Str} {f : Addr} {oc : Value} {od an : Option Addr} {osl : Array (Option Value)} {kV doc pm cdv ct : Value}
    (a : PySem.W.findIn K (.ref C) "__init__" = some (some (.ref f))) (i : PySem.W.isFn K (.ref f) = true) (l : K.lookup f = some ⟨oc, od, .func (PySem.W.fnOf "__init__" qual (defArgs st) (defBody st) (defScope st) .none kV doc pm an cdv ct), osl⟩)
    (c : PySem.W.codeIn K cdv qual = true) (k : PySem.W.keepIn K (.ref f) = true) (mk : PySem.W.makesIn K C = true) (kc : PySem.W.keepIn K (.ref C) = true)
    (hb : ∀ (kV doc pm : Value) (an : Option Addr) (cdv ct : Value) (us : List Value), us.length = ps.length → PySem.bindArgs (PySem.W.fnOf "__init__" qual (defArgs st) (defBody st) (defScope st) .none kV doc pm an cdv ct) ⟨us, []⟩ = pure (ps.zip us)) :
    DfI K C qual st ps f (PySem.W.fnOf "__init__" qual (defArgs st) (defBody st) (defScope st) .none kV doc pm an cdv ct) :=
  ⟨fun_mk l c k, (fun_mk l c k).binds hb, ⟨mk, a, i, kc⟩⟩
end Dd

namespace Dd
open PySem L2 Pk Xc
/-! ### things of the store: read, written -/
theorem rem_unm {H : Hp} : rem H (unm H) = H := by
  funext a
  by_cases z : ∃ u, H a = some (.mk u)
  · obtain ⟨u, z⟩ := z
    rw [rem_mk z (unm_mk z), z]
  · have z' : ∀ u, H a ≠ some (.mk u) := fun u e => z ⟨u, e⟩
    rw [rem_nm z', unm_nm z']
theorem rem_put {H : Hp} {p : Addr} {u u' : HO} (h : H p = some (.mk u)) : rem H (upd (unm H) p u') = upd H p (.mk u') := by
  funext a
  by_cases e : a = p
  · subst e
    rw [rem_mk h upd_same, upd_same]
  · rw [upd_ne e]
    have := congrFun (rem_unm (H := H)) a
    unfold rem at this ⊢
    rw [upd_ne e]
    exact this
theorem kept_unm {H : Hp} (x : ∀ a u, H a = some (.mk u) → HO.mut u = true) : Kept H (unm H) := fun a u z => ⟨u, unm_mk z, x a u z⟩
theorem kept_put {H : Hp} (x : ∀ a u, H a = some (.mk u) → HO.mut u = true) {p : Addr} {u' : HO} (m : HO.mut u' = true) : Kept H (upd (unm H) p u') := fun a u z => by
  by_cases e : a = p
  · subst e; exact ⟨u', upd_same, m⟩
  · exact ⟨u, by rw [upd_ne e]; exact unm_mk z, x a u z⟩
section
variable {X : Cx} {pins : List (Addr × Obj)} {σ σ' : L2.St} {H H' : Hp} {s s' : Shared}
theorem inv_unm (I : Inv X pins σ H s) : Inv X pins σ (unm H) s where
  ok := I.ok
  os := I.os
  bare := I.bare
  base := ⟨I.base.keep, I.base.slot, fun b o e n hx => unm_none (I.base.free b o e n hx), I.base.there, fun b xs e => unm_some (I.base.tups b xs e) trivial, fun b o u e => unm_some (I.base.frzs b o u e) trivial, fun b ps e => by
    obtain ⟨m, q⟩ := I.base.tbls b ps e
    exact ⟨m, unm_some q trivial⟩⟩
  loc := I.loc
  cell := I.cell
  free := unm_none I.free
  freeC := fun x c e => unm_none (I.freeC x c e)
  pin := fun p hp => by
    obtain ⟨a, b, r⟩ := I.pin p hp
    exact ⟨a, unm_none b, r⟩
  hok := hok_unm I.hok
  len := I.len
theorem inv_rem {H0 : Hp} (k : Kept H0 H') (I : Inv X pins σ H' s) : Inv X pins σ (rem H0 H') s := by
  have no : ∀ {a : Addr}, H' a = none → rem H0 H' a = none := fun {a} z => by
    rw [rem_nm fun u y => ?_]
    · exact z
    · obtain ⟨u', e, _⟩ := k a u y
      rw [z] at e
      cases e
  have pl : ∀ {a : Addr} {o : HO}, H' a = some o → HO.mut o = false → rem H0 H' a = some o := fun {a o} z n => by
    rw [rem_nm fun u y => ?_]
    · exact z
    · obtain ⟨u', e, m⟩ := k a u y
      rw [z] at e
      cases e
      rw [n] at m
      cases m
  exact ⟨I.ok, I.os, I.bare, ⟨I.base.keep, I.base.slot, fun b o e n hx => no (I.base.free b o e n hx), I.base.there, fun b xs e => pl (I.base.tups b xs e) rfl, fun b o u e => pl (I.base.frzs b o u e) rfl, fun b ps e => by
    obtain ⟨m, q⟩ := I.base.tbls b ps e
    exact ⟨m, pl q rfl⟩⟩, I.loc, I.cell, no I.free, fun x c e => no (I.freeC x c e), fun p hp => by
      obtain ⟨a, b, r⟩ := I.pin p hp
      exact ⟨a, no b, r⟩, hok_rem k I.hok, I.len⟩
theorem _root_.L2.Inv.muts (I : Inv X pins σ H s) : ∀ a u, H a = some (.mk u) → HO.mut u = true := fun a u z => (I.hok a _ z).1
end
/-! the store's state behind a change -/
section
variable {K : PySem.W.Frag} {G : Gh} {F H : Hp} {b b' : Nat}
theorem gst_put {p : Addr} {u u' : HO} {ob : Ob} (s : gst K G F H b) (hp : H p = some (.mk u)) (hn : nOf b' = nOf b) (hm : mOf b' = (p, ob) :: mOf b) (ho : ObAt K F (upd H p (.mk u')) p ob) : gst K G F (upd H p (.mk u')) b' := by
  refine ⟨?_, fun q o z => ?_⟩
  · have s1 := s.1
    have pl := s.plain
    cases e : G.dc with
    | none => trivial
    | some z =>
      obtain ⟨d, c⟩ := z
      rw [e] at s1
      obtain ⟨p1, p2, _⟩ := pl d c e
      show StA _ d c (nOf b')
      rw [hn]
      exact StA.upd s1 ⟨fun e => by subst e; exact p1 _ hp, fun e => by subst e; exact p2 _ hp⟩
  · rw [hm, mget_cons] at z
    by_cases e : q = p
    · subst e; rw [if_pos rfl] at z; cases z; exact ho
    · rw [if_neg e] at z
      have x := s.2 q o z
      have hd : ∀ a r, H a = some (.own r) → upd H p (.mk u') a = some (.own r) := fun a r y => by rw [upd_ne fun e => by subst e; rw [hp] at y; cases y]; exact y
      cases o with
      | ins C kds => obtain ⟨dx, fs, h1, h2, r⟩ := x; exact ⟨dx, fs, by rw [upd_ne e]; exact h1, hd _ _ h2, r⟩
      | lst ds => obtain ⟨vs, h1, r⟩ := x; exact ⟨vs, by rw [upd_ne e]; exact h1, r⟩
      | dic kds => obtain ⟨kvs, h1, r⟩ := x; exact ⟨kvs, by rw [upd_ne e]; exact h1, r⟩
/-- a new thing of the store, that no one saw -/
theorem gst_add {p : Addr} {o : HO} {u' : HO} {ob : Ob} (s : gst K G F H b) (hp : off G H p = some o ∨ H p = none) (no : ∀ q, o ≠ .own q) (hn : nOf b' = nOf b) (hm : mOf b' = (p, ob) :: mOf b) (ho : ObAt K F (upd H p (.mk u')) p ob) : gst K G F (upd H p (.mk u')) b' := by
  have ne : ∀ q u, H q = some (.mk u) → q ≠ p := fun q u z e => by
    subst e
    rcases hp with hp | hp
    · rw [off_mk z] at hp; cases hp
    · rw [hp] at z; cases z
  have nd : ∀ a r, H a = some (.own r) → a ≠ p := fun a r z e => by
    subst e
    rcases hp with hp | hp
    · have := off_sub hp
      rw [z] at this
      cases this
      exact no _ rfl
    · rw [hp] at z; cases z
  refine ⟨?_, fun q o z => ?_⟩
  · have s1 := s.1
    cases e : G.dc with
    | none => trivial
    | some z =>
      obtain ⟨d, c⟩ := z
      rw [e] at s1
      show StA _ d c (nOf b')
      rw [hn]
      refine StA.upd s1 ?_
      rcases hp with hp | hp
      · exact off_dc hp e
      · exact s.ne hp d c e
  · rw [hm, mget_cons] at z
    by_cases e : q = p
    · subst e; rw [if_pos rfl] at z; cases z; exact ho
    · rw [if_neg e] at z
      have x := s.2 q o z
      cases o with
      | ins C kds => obtain ⟨dx, fs, h1, h2, r⟩ := x; exact ⟨dx, fs, by rw [upd_ne e]; exact h1, by rw [upd_ne (nd _ _ h2)]; exact h2, r⟩
      | lst ds => obtain ⟨vs, h1, r⟩ := x; exact ⟨vs, by rw [upd_ne e]; exact h1, r⟩
      | dic kds => obtain ⟨kvs, h1, r⟩ := x; exact ⟨kvs, by rw [upd_ne e]; exact h1, r⟩
end
section
variable {X : Cx} {c : Dc}
theorem R.put_mk {F H : Hp} {σ : L2.St} {A : List Sl} {b b' : Nat} {p : Addr} {u u' : HO} {ob : Ob} (r : R c F σ H A b) (hp : H p = some (.mk u)) (hn : nOf b' = nOf b) (hm : mOf b' = (p, ob) :: mOf b) (ho : ObAt c.K F (upd H p (.mk u')) p ob) : R c F σ (upd H p (.mk u')) A b' := by
  have e : off c.G (upd H p (.mk u')) = off c.G H := off_hid (off_mk hp)
  have g := gst_put r.st hp hn hm ho
  exact r.ext ⟨fun _ _ z => z, fun a o z => by rw [e]; exact z, fun _ _ z => .inl z⟩ (fun a o z => by rw [e]; exact r.sub a o z) g
/-! ### attributes -/
def kFldM (C : Addr) (f : Str) (k : DK) : DK := fun r b => ∃ p kds d, r = .s (.fn p) ∧ mget (mOf b) p = some (.ins C kds) ∧ valD kds (.inr f) = some d ∧ k (.s d) b
def dFldM (C : Addr) (f : Str) (de : DE) : DE := fun A b k => de A b (kFldM C f k)
def tFldM (ta : TE) (C : Addr) (f : Str) : TE := fun σ H Q => ta σ H fun x H1 => ∃ a dx fs v, x = .ref a ∧ H1 a = some (.mk (.ins C dx fs)) ∧ fs.lookup f = some v ∧ Q v H1
theorem pe_fldM {C : Addr} {e : Expr} {f : Str} {pos : Pos} {ta : TE} (he : PE X e ta) (cl : Cls X.K C) (n : NoAttr X.K C f) (hb : attributeBase e f X.env (eval e X.env) = eval e X.env) : PE X (.Attribute e f pos) (tFldM ta C f) := by
  intro pins s σ H Q I h
  refine attr_of hb (thn (he pins s σ H _ I h) fun u s1 ⟨x, H1, I1, rx, a, dx, fs, v, ex, ea, l, q⟩ => ?_)
  subst ex
  obtain rfl : u = Value.ref a := rx
  exact getattr_ok (inv_unm I1) (unm_mk ea) cl n l fun u' s2 I2 ru => ⟨v, H1, by have := inv_rem (kept_unm I1.muts) I2; rwa [rem_unm] at this, ru, q⟩
theorem d_fldM {C : Addr} {o : Expr} {f : Str} {pos : Pos} {de : DE} (cl : Cls X.K C) (n : NoAttr X.K C f) (he : PEd X c o de) (hb : attributeBase o f X.env (eval o X.env) = eval o X.env := by rfl) : PEd X c (.Attribute o f pos) (dFldM C f de) :=
  let ⟨_, h1, l1⟩ := he
  ⟨_, pe_fldM h1 cl n hb, fun F σ H A b Q k rr h hk => l1 F σ H A b _ _ rr h fun r b1 v F1 H1 ⟨p, kds, d, er, hm, hl, h1⟩ g1 => by
    subst er
    have rp : Rp c.K F1 v (.fn p) := g1.ok
    cases rp
    obtain ⟨dx, fs, e1, e2, q⟩ := g1.rr.st.2 p _ hm
    obtain ⟨w, hw, rw'⟩ := q.val hl
    exact ⟨p, dx, fs, w, rfl, e1, keyed_look hw, hk _ _ w F1 H1 h1 ((Got.still g1.rr rw').pre g1.e)⟩⟩
theorem q_fldM {C : Addr} {f : Str} {de : DE} {A : List Sl} {b : Nat} {k : DK} : dFldM C f de A b k = de A b (kFldM C f k) := rfl
theorem q_kFldM {C : Addr} {f : Str} {k : DK} {p : Addr} {b : Nat} : kFldM C f k (.s (.fn p)) b = ∃ kds d, mget (mOf b) p = some (.ins C kds) ∧ valD kds (.inr f) = some d ∧ k (.s d) b := propext ⟨fun ⟨_, kds, d, e, h⟩ => by cases e; exact ⟨kds, d, h⟩, fun ⟨kds, d, h⟩ => ⟨_, kds, d, rfl, h⟩⟩
/-- an attribute is set -/
def putD (f : Str) (d : D) : List (Key × D) → List (Key × D)
  | [] => [(.inr f, d)]
  | (k, x) :: r => if k = .inr f then (k, d) :: r else (k, x) :: putD f d r
theorem putD_put {K : PySem.W.Frag} {F : Hp} {f : Str} {v : V} {d : D} (rv : Rp K F v d) : ∀ {fs : List (Str × V)} {kds : List (Key × D)}, RpK K F (keyed fs) kds → RpK K F (keyed (putF f v fs)) (putD f d kds)
  | [], _, .nil => .cons rv .nil
  | (g, w) :: fs, _, .cons (d := e) (ds := kds) a r => by
    show RpK K F (keyed (if g = f then (g, v) :: fs else (g, w) :: putF f v fs)) (if (Sum.inr g : Key) = .inr f then (.inr g, d) :: kds else (.inr g, e) :: putD f d kds)
    by_cases h : g = f
    · rw [if_pos h, if_pos (by rw [h])]; exact .cons rv r
    · rw [if_neg h, if_neg (by intro z; exact h (Sum.inr.inj z))]; exact .cons a (putD_put rv r)
/-- what a state may become -/
def MPut (b : Nat) (p : Addr) (ob : Ob) (k : Nat → Prop) : Prop := StoO ob ∧ ∀ b', nOf b' = nOf b → mOf b' = (p, ob) :: mOf b → k b'
theorem MPut.get {b : Nat} {p : Addr} {ob : Ob} {k : Nat → Prop} (h : MPut b p ob k) : ∃ b', nOf b' = nOf b ∧ mOf b' = (p, ob) :: mOf b ∧ k b' := by
  have e1 : nOf (mkB (nOf b) ((p, ob) :: mOf b)) = nOf b := nOf_mk nOf_b
  have e2 : mOf (mkB (nOf b) ((p, ob) :: mOf b)) = (p, ob) :: mOf b := mOf_mk nOf_b fun x hx => by
    rcases List.mem_cons.mp hx with rfl | hx
    · exact h.1
    · exact memOf_sto x hx
  exact ⟨_, e1, e2, h.2 _ e1 e2⟩
def kFldSt2 (C : Addr) (f : Str) (d : D) (kn : Nat → Prop) : DK := fun r b => ∃ p kds, r = .s (.fn p) ∧ mget (mOf b) p = some (.ins C kds) ∧ kds.length < 50 ∧ MPut b p (.ins C (putD f d kds)) kn
def kFldSt (C : Addr) (f : Str) (do_ : DE) (A : List Sl) (kn : Nat → Prop) : DK := fun r b => r.kp ∧ do_ A b (kFldSt2 C f r.d kn)
def dFldSt (C : Addr) (f : Str) (de do_ : DE) : DS := fun E A b => de A b (kFldSt C f do_ A (E.nx A))
def sFldM (C : Addr) (ta tv : TE) (f : Str) : TS := fun D σ H => tv σ H fun y H1 => ta σ H1 fun x H2 => ∃ a dx fs, x = .ref a ∧ H2 a = some (.mk (.ins C dx fs)) ∧ fs.length < 1000 ∧ D.nx σ (upd H2 a (.mk (.ins C dx (putF f y fs))))
theorem ps_fldM {C : Addr} {o value : Expr} {f : Str} {pos pos' : Pos} {ta tv : TE} (ha : PE X o ta) (hv : PE X value tv) (cl : Cls X.K C) (n : NoAttr X.K C f) (hs : swapsWith value (some (.Attribute o f pos')) pos.line X.env = pure false) : PS X (.Assign [.Attribute o f pos'] value pos) (sFldM C ta tv f) := by
  intro pins s σ H D I h
  refine plainObj_wpAny_Assign_Attribute (thn (hv pins s σ H _ I h) fun u s1 ⟨y, H1, I1, ry, q⟩ => thn (ha pins s1 σ H1 _ I1 q) fun ov s2 ⟨x, H2, I2, rx, a, dx, fs, ex, ea, l, q2⟩ => ?_) hs
  subst ex
  obtain rfl : ov = Value.ref a := rx
  exact setattr_ok (inv_unm I2) (unm_mk ea) cl n l ry fun s3 I3 => ⟨σ, _, by have := inv_rem (kept_put I2.muts rfl) I3; rwa [rem_put ea] at this, q2⟩
theorem s_fldM {C : Addr} {o e : Expr} {f : Str} {pos pos' : Pos} {de do_ : DE} (cl : Cls X.K C) (n : NoAttr X.K C f) (he : PEd X c e de) (ho : PEd X c o do_) (hs : swapsWith e (some (.Attribute o f pos')) pos.line X.env = pure false := by rfl) : PSd X c (.Assign [.Attribute o f pos'] e pos) (dFldSt C f de do_) :=
  let ⟨_, h1, l1⟩ := he
  let ⟨_, h2, l2⟩ := ho
  ⟨_, ps_fldM h2 h1 cl n hs, fun F σ H A b D E rr eo h => l1 F σ H A b _ _ rr h fun r b1 v F1 H1 ⟨kp, h1⟩ g1 => by
    obtain ⟨F1', m1, g1'⟩ := g1.keep kp
    refine l2 F1' σ H1 A b1 _ _ g1'.rr h1 fun r2 b2 v2 F2 H2 ⟨p, kds, er, hm, hl, hp⟩ g2 => ?_
    subst er
    have rp : Rp c.K F2 v2 (.fn p) := g2.ok
    cases rp
    obtain ⟨dx, fs, e1, e2, q⟩ := g2.rr.st.2 p _ hm
    have lfs : fs.length = kds.length := by
      have := congrArg List.length q.keys
      simpa [keyed] using this
    obtain ⟨b', hn, hm', hk⟩ := hp.get
    have rv : Rp c.K F2 v r.d := (show Rp c.K F1' v r.d from g1'.ok).mono g2.e.f
    have ne : dx ≠ p := fun e => by subst e; rw [e1] at e2; cases e2
    refine ⟨p, dx, fs, rfl, e1, by rw [lfs]; omega, eo.nx F2 σ _ A b' (fun a o z => g2.e.f a o (g1'.e.f a o z)) (g2.rr.put_mk e1 hn hm' ⟨dx, _, upd_same, by rw [upd_ne ne]; exact e2, putD_put rv q⟩) hk⟩⟩
end
end Dd

namespace Dd
open PySem L2 Pk Xc
/-! ### things of the store: made, their methods -/
structure Sim (H H2 : Hp) : Prop where
  n : ∀ b, H b = none → H2 b = none
  t : ∀ b xs, H b = some (.tup xs) → H2 b = some (.tup xs)
  f : ∀ b o u, H b = some (.frz o u) → H2 b = some (.frz o u)
  p : ∀ b ps, H b = some (.tbl ps) → H2 b = some (.tbl ps)
theorem Sim.un {fs ex : List Addr} {H H2 H' : Hp} {h h' : Heap} (s : Sim H H2) (u : Un fs ex H2 H' h h') : Un fs ex H H' h h' :=
  ⟨fun b o z n => u.keep b o z (s.n b n), fun b o z n => u.slot b o z (s.n b n), fun b o z n => u.free b o z (s.n b n), u.there, fun b xs z => u.tups b xs (s.t b xs z), fun b o v z => u.frzs b o v (s.f b o v z), fun b ps z => u.tbls b ps (s.p b ps z)⟩
def CXs (CX : CXT) : Prop := ∀ outer H H2 s E e s', Sim H H2 → CX outer H2 s E e s' → CX outer H s E e s'
theorem cxs0 : CXs CX0 := fun _ _ _ _ _ _ _ _ h => h.elim
theorem sim_mark {H : Hp} {x : Addr} {u : HO} (h : H x = some u) (m : HO.mut u = true) : Sim H (upd H x (.mk u)) := by
  have ne : ∀ {a : Addr} {o : HO}, H a = some o → HO.mut o = false → upd H x (.mk u) a = some o := fun {a o} z n => by
    rw [upd_ne fun e => ?_]
    · exact z
    · subst e
      rw [h] at z
      cases z
      rw [n] at m
      cases m
  exact ⟨fun b z => by rw [upd_ne fun e => by subst e; rw [h] at z; cases z]; exact z, fun b xs z => ne z rfl, fun b o v z => ne z rfl, fun b ps z => ne z rfl⟩
theorem hok_mark {P : Program} {w : World} {H : Hp} {h : Heap} {x : Addr} {u : HO} (ok : HOk P w H h) (e : H x = some u) (m : HO.mut u = true) : HOk P w (upd H x (.mk u)) h := fun a o z => by
  have ne : ∀ {a' : Addr} {o' : HO}, H a' = some o' → HO.mut o' = false → upd H x (.mk u) a' = some o' := fun {a' o'} z' n => by
    rw [upd_ne fun e' => ?_]
    · exact z'
    · subst e'
      rw [e] at z'
      cases z'
      rw [n] at m
      cases m
  by_cases e' : a = x
  · subst e'
    rw [upd_same] at z
    cases z
    exact ⟨m, (ok a _ e).stay (fun _ _ _ q => q) (fun b y => ne y rfl) fun b xs y => ne y rfl⟩
  · rw [upd_ne e'] at z
    exact (ok a _ z).stay (fun _ _ _ q => q) (fun b y => ne y rfl) fun b xs y => ne y rfl
/-- the first argument, an instance, is marked ahead of the call -/
def spMk (sp : Sp) : Sp := fun vs H Q E => ∃ x C dx us fs, vs = .ref x :: us ∧ H x = some (.ins C dx fs) ∧ sp vs (upd H x (.mk (.ins C dx fs))) Q E
theorem _root_.L2.FnOk.marked {P : Program} {w : World} {K : PySem.W.Frag} {mg : Str → Option Value} {base : Heap} {CX : CXT} {j : Nat} {f : Addr} {fd : FuncData} {ps : List Str} {sp : Sp} (F : FnOk P w K mg base CX j f fd ps sp) (cx : CXs CX) : FnOk P w K mg base CX j f fd ps (spMk sp) := by
  refine ⟨fun vs H Q E ⟨x, C, dx, us, fs, _, _, h⟩ => F.len _ _ _ _ h, fun A outer s H args us vs Q E hr he hb hv ⟨x, C, dx, us', fs, e, hx, h⟩ => ?_⟩
  have sm := sim_mark hx rfl
  have he' : Env0 P w K mg base A outer s (upd H x (.mk (.ins C dx fs))) := ⟨he.frames, he.mod, fun b o z => ⟨(he.bs b o z).1, sm.n b (he.bs b o z).2⟩, he.bsz, he.funs, fun b z => sm.n b (he.frf b z), hok_mark he.hok hx rfl, he.bare⟩
  refine codeAny_mono (F.run A outer s _ args us vs _ _ hr he' hb hv h) fun q s' hq => ?_
  match q, hq with
  | .error e, hq => exact cx outer H _ s E e s' sm hq
  | .ok (.ret u), ⟨v, H', os, bare, un, hok, rv, q⟩ => exact ⟨v, H', os, bare, sm.un un, hok, rv, q⟩
  | .ok .next, hq => exact hq.elim
  | .ok .brk, hq => exact hq.elim
  | .ok .cont, hq => exact hq.elim
/-- a call's value -/
theorem Got.call {c : Dc} {F H F1 H1 F' H' : Hp} {σ : L2.St} {A : List Sl} {b1 b' : Nat} {v : V} {r : Rs} (r1 : R c F1 σ H1 A b1) (et : Ext c F H F1 H1) (ex : Ext (atCall c.K c.G F1 H1) F1 H1 F' H') (gs : gst c.K c.G F' H' b') (sb : Sub F' (off c.G H')) (ok : RtOk (atCall c.K c.G F1 H1) F' H' v r) : Got c F H σ A F' H' b' v r := by
  have ex' : Ext c F1 H1 F' H' := ⟨ex.f, ex.h, ex.n⟩
  have r2 := r1.ext ex' sb gs
  cases r with
  | s d => exact ⟨r2, et.trans ex', ok, fun _ _ z => by cases z⟩
  | o es =>
    obtain ⟨p, ws, rfl, z1, z2, z3, q⟩ := ok
    have z2' : off c.G H1 p = none := z2
    refine ⟨r2, et.trans ex', ⟨p, ws, rfl, z1, ?_, z3, q, fun i xs hi z => ?_⟩, fun _ _ _ z => by cases z; exact et.none z2'⟩
    · cases y : c.B p with
      | none => rfl
      | some u => rw [r1.bsub p u y] at z2'; cases z2'
    · obtain ⟨p', vs', hx, _, _, h3, _⟩ := r1.sl i _ hi
      rw [hx] at z
      cases z
      rw [h3] at z2'
      cases z2'
  | b es => exact ok.elim
  | p es => exact ok.elim
  | g => exact ok.elim
/-! methods -/
def kMethM2 (ds : DSp) (kx : DX) (p : Addr) (k : DK) : List Rs → Nat → Prop := fun rs b1 => noO rs = true ∧ ds (.val (.fn p) :: rs.map toSl) b1 k kx
def kMethM1 (C : Addr) (m : Str) (ds : DSp) (kx : DX) (da : DA) (A : List Sl) (k : DK) : DK := fun r b0 => ∃ p kds, r = .s (.fn p) ∧ mget (mOf b0) p = some (.ins C kds) ∧ valD kds (.inr m) = none ∧ da A b0 (kMethM2 ds kx p k)
def dMethM (C : Addr) (m : Str) (ds : DSp) (kx : DX) (de : DE) (da : DA) : DE := fun A b k => de A b (kMethM1 C m ds kx da A k)
def dMethMX (C : Addr) (m : Str) (ds : DSp) (kx : List Sl → DX) (de : DE) (da : DA) : DE := fun A b k => de A b (kMethM1 C m ds (kx A) da A k)
def tMethM (C : Addr) (m : Str) (sp : Sp) (E : L2.St → XK) (ta : TE) (t : TA) : TE := fun σ H Q => ta σ H fun x H1 => ∃ a dx fs, x = .ref a ∧ H1 a = some (.mk (.ins C dx fs)) ∧ fs.lookup m = none ∧ t σ H1 fun vs H2 => sp (x :: vs) H2 Q (E σ)
section
variable {X : Cx} {c : Dc}
theorem pe_methM0 {CX : CXT} {E : XK} {k : Nat} {C f : Addr} {fd : FuncData} {ps : List Str} {sp : Sp} {m : Str} {apos pos : Pos} {o : Expr} {ta : TE} {pl : Sem Bool} (he : PE X o ta) (cl : Cls X.K C) (hm : Meth X.K C m f) (F : FnOk X.prog X.w X.K X.mg X.base CX k f fd ps sp) (hr : Room k X.A) (hb : Binds X.K fd ps []) (hx : Passes CX X E)
    (ht : eval (.Call (.Attribute o m apos) [] [] pos) X.env = (do
      let ov ← eval o X.env
      standAt apos.atName
      let (f, first) ← holding [ov] (getMethod ov m pl)
      callWith pos f first (backTo pos (starEach [] X.env)) (backToKw pos (keywordEach [] X.env))) := by rfl) :
    PE X (.Call (.Attribute o m apos) [] [] pos) (tMethM C m sp (fun _ => E) ta tNil) := by
  intro pins s σ H Q I h
  refine PySem.W.methodCall_KW (pl := pl) (thn (he pins s σ H _ I h) fun u s1 ⟨x, H1, I1, rx, a, dx, fs, ex, ea, l, q⟩ => ?_) ht
  subst ex
  obtain rfl : u = Value.ref a := rx
  refine getmeth_ok (inv_unm I1) (unm_mk ea) cl hm l ?_
  exact PySem.W.callWith_K0 (first := [.ref a]) I1.kIn hm.kp (run_fn (us := [.ref a]) (vs := [.ref a]) (dvs := []) F hr hb .nil hx I1 (.cons rfl .nil) (by rw [List.append_nil]; exact q))
theorem pe_methMX {E : L2.St → XK} {k : Nat} {C f : Addr} {fd : FuncData} {ps : List Str} {sp : Sp} {m : Str} {apos pos : Pos} {o e : Expr} {es : List Expr} {ta : TE} {t : TA} {pl : Sem Bool} (he : PE X o ta) (cl : Cls X.K C) (hm : Meth X.K C m f) (F : FnOk X.prog X.w X.K X.mg X.base (CXE X.prog X.w) k f fd ps sp) (hr : Room k X.A) (hb : Binds X.K fd ps []) (hx : RX X E) (ha : PA X (e :: es) t)
    (hst : starEach (e :: es) X.env = (false, eval e X.env) :: starEach es X.env := by rfl) (hpl : (backTo pos (starEach es X.env)).any (·.1) = false := by rfl)
    (ht : eval (.Call (.Attribute o m apos) (e :: es) [] pos) X.env = (do
      let ov ← eval o X.env
      standAt apos.atName
      let (f, first) ← holding [ov] (getMethod ov m pl)
      callWith pos f first (backTo pos (starEach (e :: es) X.env)) (backToKw pos (keywordEach [] X.env))) := by rfl) :
    PE X (.Call (.Attribute o m apos) (e :: es) [] pos) (tMethM C m sp E ta t) := by
  intro pins s σ H Q I h
  refine PySem.W.methodCall_KW (pl := pl) (thn (he pins s σ H _ I h) fun u s1 ⟨x, H1, I1, rx, a, dx, fs, ex, ea, l, q⟩ => ?_) ht
  subst ex
  obtain rfl : u = Value.ref a := rx
  refine getmeth_ok (inv_unm I1) (unm_mk ea) cl hm l ?_
  refine PySem.W.callWith_K (first := [.ref a]) (h₀ := X.base) I.ok.mod.kin hm.kp (thn (ha pos pins s1 σ H1 _ I1 q) fun us s2 ⟨vs, H2, I2, r, q2⟩ => ⟨I2.kIn, ?_⟩) hst hpl
  exact x_run (us := .ref a :: us) (vs := .ref a :: vs) F hr hb hx I2 (.cons rfl r) q2
theorem lk_methM {C : Addr} {m : Str} {ds : DSp} {kx : DX} {E : L2.St → XK} {te : TE} {ta : TA} {de : DE} {da : DA} (l0 : Lk c te de) (la : LkA c ta da) : Lk c (tMethM C m (spD c.K ds) E te ta) (dMethM C m ds kx de da) := fun F σ H A b Q k rr h hk =>
  l0 F σ H A b _ _ rr h fun r0 b0 v0 F0 H0 ⟨p, kds, er, hm, hn, h0⟩ g0 => by
    subst er
    have rp : Rp c.K F0 v0 (.fn p) := g0.ok
    cases rp
    obtain ⟨dx, fs, e1, e2, q⟩ := g0.rr.st.2 p _ hm
    refine ⟨p, dx, fs, rfl, e1, keyed_none (q.valN hn), ?_⟩
    refine la F0 σ H0 A b0 _ _ g0.rr h0 fun rs b1 vs F1 H1 ⟨no, h1⟩ r1 ea a1 => ?_
    exact ⟨c.G, F1, .val (.fn p) :: rs.map toSl, b1, k, kx, .cons ⟨_, rfl, .fn p⟩ (fun xs z => by cases z) (a1.ar r1 (fun ds z => by cases z) (noO_of no)), r1.sub, r1.st, h1, fun r b' v F' H' hk' ex gs sb ok => hk _ _ _ _ _ hk' (.call r1 (g0.e.trans ea) ex gs sb ok)⟩
theorem lk_methMX {C : Addr} {m : Str} {ds : DSp} {kx : List Sl → DX} {te : TE} {ta : TA} {de : DE} {da : DA} (l0 : Lk c te de) (la : LkA c ta da) : Lk c (tMethM C m (spDx c.K ds) (upX c kx) te ta) (dMethMX C m ds kx de da) := fun F σ H A b Q k rr h hk =>
  l0 F σ H A b _ _ rr h fun r0 b0 v0 F0 H0 ⟨p, kds, er, hm, hn, h0⟩ g0 => by
    subst er
    have rp : Rp c.K F0 v0 (.fn p) := g0.ok
    cases rp
    obtain ⟨dx, fs, e1, e2, q⟩ := g0.rr.st.2 p _ hm
    refine ⟨p, dx, fs, rfl, e1, keyed_none (q.valN hn), ?_⟩
    refine la F0 σ H0 A b0 _ _ g0.rr h0 fun rs b1 vs F1 H1 ⟨no, h1⟩ r1 ea a1 => ?_
    exact ⟨c.G, F1, .val (.fn p) :: rs.map toSl, b1, k, kx A, .cons ⟨_, rfl, .fn p⟩ (fun xs z => by cases z) (a1.ar r1 (fun ds z => by cases z) (noO_of no)), r1.sub, r1.st, h1, fun r b' v F' H' hk' ex gs sb ok => hk _ _ _ _ _ hk' (.call r1 (g0.e.trans ea) ex gs sb ok), fun x b' F' H' C dx hx ex gs sb ok => ⟨F', A, b', x, r1.ext ⟨ex.f, ex.h, ex.n⟩ sb gs, hx, ok⟩⟩
theorem d_methM0 {CX : CXT} {j : Nat} {C f : Addr} {fd : FuncData} {ps : List Str} {ds : DSp} {kx : DX} {E : XK} {m : Str} {apos pos : Pos} {o : Expr} {de : DE} {pl : Sem Bool} (hK : c.K = X.K) (cl : Cls X.K C) (hm : Meth X.K C m f) (Fn : FnOk X.prog X.w X.K X.mg X.base CX j f fd ps (spD X.K ds)) (hr : Room j X.A) (hb : Binds X.K fd ps []) (hx : Passes CX X E)
    (he : PEd X c o de)
    (ht : eval (.Call (.Attribute o m apos) [] [] pos) X.env = (do
      let ov ← eval o X.env
      standAt apos.atName
      let (f, first) ← holding [ov] (getMethod ov m pl)
      callWith pos f first (backTo pos (starEach [] X.env)) (backToKw pos (keywordEach [] X.env))) := by rfl) :
    PEd X c (.Call (.Attribute o m apos) [] [] pos) (dMethM C m ds kx de dNil) :=
  let ⟨_, h0, l0⟩ := he
  ⟨_, pe_methM0 h0 cl hm Fn hr hb hx ht, hK ▸ lk_methM l0 (fun F σ H A b Q k rr h hk => hk _ _ _ _ _ h rr .refl .nil)⟩
theorem d_methMX {j : Nat} {C f : Addr} {fd : FuncData} {ps : List Str} {ds : DSp} {kx : List Sl → DX} {m : Str} {apos pos : Pos} {o e : Expr} {es : List Expr} {de : DE} {da : DA} {pl : Sem Bool} (hK : c.K = X.K) (cl : Cls X.K C) (hm : Meth X.K C m f) (Fn : FnOk X.prog X.w X.K X.mg X.base (CXE X.prog X.w) j f fd ps (spDx X.K ds)) (hr : Room j X.A) (hb : Binds X.K fd ps []) (hx : RX X (upX c kx))
    (he : PEd X c o de) (ha : PAd X c (e :: es) da) (hst : starEach (e :: es) X.env = (false, eval e X.env) :: starEach es X.env := by rfl) (hpl : (backTo pos (starEach es X.env)).any (·.1) = false := by rfl)
    (ht : eval (.Call (.Attribute o m apos) (e :: es) [] pos) X.env = (do
      let ov ← eval o X.env
      standAt apos.atName
      let (f, first) ← holding [ov] (getMethod ov m pl)
      callWith pos f first (backTo pos (starEach (e :: es) X.env)) (backToKw pos (keywordEach [] X.env))) := by rfl) :
    PEd X c (.Call (.Attribute o m apos) (e :: es) [] pos) (dMethMX C m ds kx de da) :=
  let ⟨_, h0, l0⟩ := he
  let ⟨_, h1, l1⟩ := ha
  ⟨_, pe_methMX h0 cl hm Fn hr hb hx h1 hst hpl ht, hK ▸ lk_methMX l0 l1⟩
/-! a new one -/
def kMakeM (C : Addr) (ds : DSp) (kx : DX) (k : DK) : List Rs → Nat → Prop := fun rs b1 => noO rs = true ∧ ∀ p, mget (mOf b1) p = none → MPut b1 p (.ins C []) fun b' => ds (.val (.fn p) :: rs.map toSl) b' (fun r b2 => r = .s .non ∧ k (.s (.fn p)) b2) kx
def dMakeM (C : Addr) (ds : DSp) (kx : DX) (da : DA) : DE := fun A b k => da A b (kMakeM C ds kx k)
theorem lk_makeM {C : Addr} {ds : DSp} {kx : DX} {ta : TA} {da : DA} {E : XK} (la : LkA c ta da) : Lk c (tMake C (spMk (spD c.K ds)) [] E ta) (dMakeM C ds kx da) := fun F σ H A b Q k rr h hfin =>
  la F σ H A b _ _ rr h fun rs b1 vs F1 H1 ⟨no, h1⟩ r1 e1 a1 x dx nx nd ne => by
    rw [List.append_nil]
    have mn : mget (mOf b1) x = none := by
      cases z : mget (mOf b1) x with
      | none => rfl
      | some o =>
        have y := r1.st.2 x o z
        cases o <;> first | (obtain ⟨_, _, y, _⟩ := y; rw [nx] at y; cases y) | (obtain ⟨_, y, _⟩ := y; rw [nx] at y; cases y)
    obtain ⟨b', hn, hm, hd⟩ := (h1 x mn).get
    refine ⟨x, C, dx, vs, [], rfl, upd_same, ?_⟩
    rw [upd_upd]
    have ra := (r1.alloc (o := .own x) nd)
    have nx' : upd H1 dx (.own x) x = none := by rw [upd_ne (Ne.symm ne)]; exact nx
    have oh : off c.G (upd (upd H1 dx (.own x)) x (.mk (.ins C dx []))) = off c.G (upd H1 dx (.own x)) := off_hid (off_none nx')
    have g2 : gst c.K c.G F1 (upd (upd H1 dx (.own x)) x (.mk (.ins C dx []))) b' := gst_add (o := .lst []) ra.2.st (.inr nx') (fun q z => by cases z) hn hm ⟨dx, [], upd_same, by rw [upd_ne ne, upd_same], .nil⟩
    have r3 : R c F1 σ (upd (upd H1 dx (.own x)) x (.mk (.ins C dx []))) A b' := ra.2.ext ⟨fun _ _ z => z, fun a o z => by rw [oh]; exact z, fun _ _ z => .inl z⟩ (fun a o z => by rw [oh]; exact ra.2.sub a o z) g2
    have e3 : Ext c F1 H1 F1 (upd (upd H1 dx (.own x)) x (.mk (.ins C dx []))) := ra.1.trans ⟨fun _ _ z => z, fun a o z => by rw [oh]; exact z, fun _ _ z => .inl z⟩
    have ar := (a1.ext e3).ar r3 (fun ds z => by cases z) (noO_of no)
    refine ⟨c.G, F1, .val (.fn x) :: rs.map toSl, b', _, kx, .cons ⟨_, rfl, .fn x⟩ (fun xs z => by cases z) ar, r3.sub, r3.st, hd, fun r b2 v F' H' ⟨er, hk'⟩ ex gs sb ok => ?_⟩
    subst er
    have rv : Rp _ F' v .non := ok
    cases rv
    exact ⟨rfl, hfin _ _ _ _ _ hk' (.call r3 (e1.trans e3) ex gs sb (r := .s (.fn x)) (Rp.fn x))⟩
theorem d_makeM {CX : CXT} {j : Nat} {C f : Addr} {fd : FuncData} {ps : List Str} {ds : DSp} {kx : DX} {E : XK} {x : Str} {p pos : Pos} {e : Expr} {es : List Expr} {da : DA} (hK : c.K = X.K) (M : Mk X.K C f) (Fn : FnOk X.prog X.w X.K X.mg X.base CX j f fd ps (spD X.K ds)) (cx : CXs CX) (hr : Room (j + 1) X.A) (hg : Gl X x) (hm : X.mg x = some (.ref C)) (hb : Binds X.K fd ps []) (hx : Passes CX X E)
    (ha : PAd X c (e :: es) da) (hdb : (x == ("__debug__" : Str)) = false := by decide) (he : starEach (e :: es) X.env = (false, eval e X.env) :: starEach es X.env := by rfl) (hpl : (backTo pos (starEach es X.env)).any (·.1) = false := by rfl) :
    PEd X c (.Call (.Name x p) (e :: es) [] pos) (dMakeM C ds kx da) :=
  let ⟨_, h1, l1⟩ := ha
  ⟨_, pe_make M (Fn.marked cx) hr hg hm hb .nil hx h1 hdb he hpl, hK ▸ lk_makeM (E := E) l1⟩
/-! an attribute is changed by an operator -/
def kAugM3 (C : Addr) (f : Str) (p : Addr) (b2 : Nat) (kn : Nat → Prop) : Rs → Prop := fun z => z.kp ∧ ∃ kds, mget (mOf b2) p = some (.ins C kds) ∧ kds.length < 50 ∧ MPut b2 p (.ins C (putD f z.d kds)) kn
def kAugM2 (C : Addr) (f : Str) (p : Addr) (d : D) (f2 : D2) (kn : Nat → Prop) : DK := fun y b2 => f2 (.s d) y (kAugM3 C f p b2 kn)
def kAugM1 (C : Addr) (f : Str) (f2 : D2) (da : DE) (A : List Sl) (kn : Nat → Prop) : DK := fun r b => ∃ p kds d, r = .s (.fn p) ∧ mget (mOf b) p = some (.ins C kds) ∧ valD kds (.inr f) = some d ∧ da A b (kAugM2 C f p d f2 kn)
def dAugM (C : Addr) (f : Str) (f2 : D2) (do_ da : DE) : DS := fun E A b => do_ A b (kAugM1 C f f2 da A (E.nx A))
def sFldAugM (C : Addr) (ta tv : TE) (rd : R2) (f : Str) : TS := fun D σ H => ta σ H fun x H1 => ∃ a dx fs v, x = .ref a ∧ H1 a = some (.mk (.ins C dx fs)) ∧ fs.lookup f = some v ∧
  tv σ H1 fun y H2 => rd v y H2 fun z H3 => ∃ dx' fs', H3 a = some (.mk (.ins C dx' fs')) ∧ fs'.length < 1000 ∧ D.nx σ (upd H3 a (.mk (.ins C dx' (putF f z fs'))))
theorem ps_fldaugM {C : Addr} {o value : Expr} {f : Str} {tpos pos : Pos} {op : Operator} {rd : R2} {ta tv : TE} (ha : PE X o ta) (hv : PE X value tv) (hop : OpR X (inplaceOp op) rd) (cl : Cls X.K C) (n : NoAttr X.K C f) : PS X (.AugAssign (.Attribute o f tpos) op value pos) (sFldAugM C ta tv rd f) := by
  intro pins s σ H D I h
  refine wpAny_AugAssign_AttributeAny (thn (ha pins s σ H _ I h) fun ov s1 ⟨x, H1, I1, rx, a, dx, fs, v, ex, ea, l, q⟩ => ?_)
  subst ex
  obtain rfl : ov = Value.ref a := rx
  refine getattr_ok (inv_unm I1) (unm_mk ea) cl n l fun u s2 I2 ru => ?_
  have I2' : Inv X pins σ H1 s2 := by have := inv_rem (kept_unm I1.muts) I2; rwa [rem_unm] at this
  refine thn (hv pins s2 σ H1 _ I2' q) fun w3 s3 ⟨y, H2, I3, ry, q3⟩ => thn (hop pins s3 σ H2 v y u w3 _ I3 ru ry q3) fun w4 s4 ⟨z, H3, I4, rz, dx', fs', ea', l', q4⟩ => ?_
  exact setattr_ok (inv_unm I4) (unm_mk ea') cl n l' rz fun s5 I5 => ⟨σ, _, by have := inv_rem (kept_put I4.muts rfl) I5; rwa [rem_put ea'] at this, q4⟩
theorem s_augM {C : Addr} {o e : Expr} {f : Str} {tpos pos : Pos} {op : Operator} {rd : R2} {f2 : D2} {do_ da : DE} (cl : Cls X.K C) (n : NoAttr X.K C f) (hop : PIp X op rd) (ln : Ln c rd f2) (ho : PEd X c o do_) (he : PEd X c e da) : PSd X c (.AugAssign (.Attribute o f tpos) op e pos) (dAugM C f f2 do_ da) :=
  let ⟨_, h1, l1⟩ := ho
  let ⟨_, h2, l2⟩ := he
  ⟨_, ps_fldaugM h1 h2 hop cl n, fun F σ H A b D E rr eo h => l1 F σ H A b _ _ rr h fun r b1 v F1 H1 ⟨p, kds, d, er, hm, hl, h1⟩ g1 => by
    subst er
    have rp : Rp c.K F1 v (.fn p) := g1.ok
    cases rp
    obtain ⟨dx, fs, e1, e2, q⟩ := g1.rr.st.2 p _ hm
    obtain ⟨w, hw, rw'⟩ := q.val hl
    refine ⟨p, dx, fs, w, rfl, e1, keyed_look hw, l2 F1 σ H1 A b1 _ _ g1.rr h1 fun r2 b2 v2 F2 H2 h2 g2 => ?_⟩
    refine ln F2 σ H2 A b2 w v2 (.s d) r2 _ _ g2.rr (rw'.mono g2.e.f) g2.ok h2 fun z v3 F3 H3 ⟨kp, kds3, hm3, hl3, hp3⟩ g3 => ?_
    obtain ⟨F4, m4, g4⟩ := g3.keep kp
    obtain ⟨dx3, fs3, z1, z2, q3⟩ := g4.rr.st.2 p _ hm3
    have lfs : fs3.length = kds3.length := by
      have := congrArg List.length q3.keys
      simpa [keyed] using this
    obtain ⟨b', hn, hm', hk⟩ := hp3.get
    have ne : dx3 ≠ p := fun e => by subst e; rw [z1] at z2; cases z2
    exact ⟨dx3, fs3, z1, by rw [lfs]; omega, eo.nx F4 σ _ A b' (fun a o z => g4.e.f a o (g2.e.f a o (g1.e.f a o z))) (g4.rr.put_mk z1 hn hm' ⟨dx3, _, upd_same, by rw [upd_ne ne]; exact z2, putD_put g4.ok q3⟩) hk⟩⟩
end
/-! rewrites -/
theorem q_fldSt {C : Addr} {f : Str} {de do_ : DE} {E : DEnds} {A : List Sl} {b : Nat} : dFldSt C f de do_ E A b = de A b (kFldSt C f do_ A (E.nx A)) := rfl
theorem q_kFldSt {C : Addr} {f : Str} {do_ : DE} {A : List Sl} {kn : Nat → Prop} {d : D} {b : Nat} : kFldSt C f do_ A kn (.s d) b = do_ A b (kFldSt2 C f d kn) := propext ⟨fun h => h.2, fun h => ⟨trivial, h⟩⟩
theorem q_kFldStO {C : Addr} {f : Str} {do_ : DE} {A : List Sl} {kn : Nat → Prop} {ds : List D} {b : Nat} : kFldSt C f do_ A kn (.o ds) b = do_ A b (kFldSt2 C f (.lst ds) kn) := propext ⟨fun h => h.2, fun h => ⟨trivial, h⟩⟩
theorem q_kFldSt2 {C : Addr} {f : Str} {d : D} {kn : Nat → Prop} {p : Addr} {b : Nat} : kFldSt2 C f d kn (.s (.fn p)) b = ∃ kds, mget (mOf b) p = some (.ins C kds) ∧ kds.length < 50 ∧ MPut b p (.ins C (putD f d kds)) kn := propext ⟨fun ⟨_, kds, e, h⟩ => by cases e; exact ⟨kds, h⟩, fun ⟨kds, h⟩ => ⟨_, kds, rfl, h⟩⟩
theorem q_methM {C : Addr} {m : Str} {ds : DSp} {kx : DX} {de : DE} {da : DA} {A : List Sl} {b : Nat} {k : DK} : dMethM C m ds kx de da A b k = de A b (kMethM1 C m ds kx da A k) := rfl
theorem q_methMX {C : Addr} {m : Str} {ds : DSp} {kx : List Sl → DX} {de : DE} {da : DA} {A : List Sl} {b : Nat} {k : DK} : dMethMX C m ds kx de da A b k = de A b (kMethM1 C m ds (kx A) da A k) := rfl
theorem q_kMethM1 {C : Addr} {m : Str} {ds : DSp} {kx : DX} {da : DA} {A : List Sl} {k : DK} {p : Addr} {b : Nat} : kMethM1 C m ds kx da A k (.s (.fn p)) b = ∃ kds, mget (mOf b) p = some (.ins C kds) ∧ valD kds (.inr m) = none ∧ da A b (kMethM2 ds kx p k) := propext ⟨fun ⟨_, kds, e, h⟩ => by cases e; exact ⟨kds, h⟩, fun ⟨kds, h⟩ => ⟨_, kds, rfl, h⟩⟩
theorem q_kMethM2 {ds : DSp} {kx : DX} {p : Addr} {k : DK} {rs : List Rs} {b : Nat} : kMethM2 ds kx p k rs b = (noO rs = true ∧ ds (.val (.fn p) :: rs.map toSl) b k kx) := rfl
theorem q_makeM {C : Addr} {ds : DSp} {kx : DX} {da : DA} {A : List Sl} {b : Nat} {k : DK} : dMakeM C ds kx da A b k = da A b (kMakeM C ds kx k) := rfl
theorem q_kMakeM {C : Addr} {ds : DSp} {kx : DX} {k : DK} {rs : List Rs} {b : Nat} : kMakeM C ds kx k rs b = (noO rs = true ∧ ∀ p, mget (mOf b) p = none → MPut b p (.ins C []) fun b' => ds (.val (.fn p) :: rs.map toSl) b' (fun r b2 => r = .s .non ∧ k (.s (.fn p)) b2) kx) := rfl
theorem q_augM {C : Addr} {f : Str} {f2 : D2} {do_ da : DE} {E : DEnds} {A : List Sl} {b : Nat} : dAugM C f f2 do_ da E A b = do_ A b (kAugM1 C f f2 da A (E.nx A)) := rfl
theorem q_kAugM1 {C : Addr} {f : Str} {f2 : D2} {da : DE} {A : List Sl} {kn : Nat → Prop} {p : Addr} {b : Nat} : kAugM1 C f f2 da A kn (.s (.fn p)) b = ∃ kds d, mget (mOf b) p = some (.ins C kds) ∧ valD kds (.inr f) = some d ∧ da A b (kAugM2 C f p d f2 kn) := propext ⟨fun ⟨_, kds, d, e, h⟩ => by cases e; exact ⟨kds, d, h⟩, fun ⟨kds, d, h⟩ => ⟨_, kds, d, rfl, h⟩⟩
theorem q_kAugM2 {C : Addr} {f : Str} {p : Addr} {d : D} {f2 : D2} {kn : Nat → Prop} {y : Rs} {b : Nat} : kAugM2 C f p d f2 kn y b = f2 (.s d) y (kAugM3 C f p b kn) := rfl
theorem q_kAugM3 {C : Addr} {f : Str} {p : Addr} {kn : Nat → Prop} {d : D} {b : Nat} : kAugM3 C f p b kn (.s d) = ∃ kds, mget (mOf b) p = some (.ins C kds) ∧ kds.length < 50 ∧ MPut b p (.ins C (putD f d kds)) kn := propext ⟨fun h => h.2, fun h => ⟨trivial, h⟩⟩
end Dd

namespace Xc
open PySem
section
variable {prog : Program} {w : World} {A : Around} {E : Value → Shared → Prop} {h : Heap} {g : Array GenState} {d : Drawn} {t : Nat} {os : OsState}
variable {nm q : Str} {C N : Addr} {bs bm bmB : List Value} {hdct : Bool} {sn : List Str} {sub : List Value} {ab : Bool} {col : Option Bool} {dd : Option Addr} {k0 k1 k2 k3 k5 : Option Value} {B newId initId : String}
/-- a class of errors without an __init__ of its own, made: the new error stands behind all others -/
theorem xc_tree0 (F : ExcBaseFacts B newId initId bmB) (T : OwnTail h bmB bm) {mN : Str → Option Value} {us : List Value} {Q : Fin → Shared → Prop}
    (hC : h.get? C = some (excClassObj nm q C N bs bm hdct sn sub ab col dd k0 k1 k2 k3 k5 newId)) (hn : h.Ns N mN) (hi : mN "__init__" = none) (hl : us.length ≤ sizeLine)
    (hq : ∀ h' e, h.objs.size ≤ e → (∀ b o, h.get? b = some o → h'.get? b = some o) → (∃ u, h'.get? e = some { cls := .ref C, data := .fields #[.ref u, .none, .none, .none, .bool false, .none] }) → Q (.done (.ret (.ref e))) ⟨h', g, d, t, os⟩) :
    wpAny (model prog w) A (Builtin.«type.__call__» ⟨.ref C :: us, []⟩) Q E ⟨h, g, d, t, os⟩ := by
  repeat (first | with_reducible refine wpAny_loadPart_at hC ?_ | with_reducible refine wpAny_madeBy_exc hC ?_ | wp_step)
  refine codeAny_call_builtin_code (Code.quiet_builtin _ F.quiet) (wpAny_check_new_subT F T hC (codeAny_exc_new_subT F T hC ?_ hl))
  show wpAny _ _ _ _ _ _
  have up : ∀ b o, h.get? b = some o → ((h.push { cls := .type "tuple", data := .seq us.toArray }).push { cls := .ref C, data := .fields #[.ref h.objs.size, .none, .none, .none, .bool false, .none] }).get? b = some o := fun b o e => Heap.get?_push_of_some _ (Heap.get?_push_of_some _ e)
  have he : ((h.push { cls := .type "tuple", data := .seq us.toArray }).push { cls := .ref C, data := .fields #[.ref h.objs.size, .none, .none, .none, .bool false, .none] }).get? (h.objs.size + 1) = some { cls := .ref C, data := .fields #[.ref h.objs.size, .none, .none, .none, .bool false, .none] } := by heap_get
  have hC1 := up _ _ hC
  have hn1 := hn.keeps up
  have T1 := T.keeps up
  have hs : (Value.ref C :: bm).contains (.ref C) = true := by simp
  generalize ((h.push { cls := .type "tuple", data := .seq us.toArray }).push { cls := .ref C, data := .fields #[.ref h.objs.size, .none, .none, .none, .bool false, .none] }) = h1 at *
  unfold isInstance
  repeat (first | with_reducible refine wpAny_loadPart_at he ?_ | (with_reducible refine wpAny_isSubtype_exc hC1 ?_; rw [hs]) | wp_step)
  show wpAny _ _ (typeLookup (.ref C) _) _ _ _
  refine wpAny_typeLookup_tail hC1 hn1 T1 F.mroIs F.init.lookup ?_
  rw [hi]
  refine wpAny_holding (wpAny_bind (wpAny_of_eq (F.init.bind _) (wpAny_bind (wpAny_call (codeAny_call_builtin F.init.plain F.initEntry (wpAny_check_init_subU F T1 hC1 he rfl ?_))))))
  wp_walk
  refine hq _ _ (Nat.le_succ _) (fun b o e => ?_) ⟨h1.objs.size, ?_⟩
  · rw [Heap.get?_update_ne _ _ _ _ (Nat.ne_of_lt (Nat.lt_succ_of_lt (Heap.lt_size e)))]
    exact Heap.get?_push_of_some _ (up b o e)
  · rw [Heap.get?_update_self _ (Heap.get?_push_of_some _ he) rfl]
    rfl
theorem xc_make0 (F : ExcBaseFacts B newId initId bmB) (T : OwnTail h bmB bm) {mN : Str → Option Value} {us : List Value} {Q : Value → Shared → Prop}
    (hC : h.get? C = some (excClassObj nm q C N bs bm hdct sn sub ab col dd k0 k1 k2 k3 k5 newId)) (hn : h.Ns N mN) (hi : mN "__init__" = none) (hl : us.length ≤ sizeLine)
    (hq : ∀ h' e, h.objs.size ≤ e → (∀ b o, h.get? b = some o → h'.get? b = some o) → (∃ u, h'.get? e = some { cls := .ref C, data := .fields #[.ref u, .none, .none, .none, .bool false, .none] }) → Q (.ref e) ⟨h', g, d, t, os⟩) :
    wpAny (model prog w) A (call (.ref C) us) Q E ⟨h, g, d, t, os⟩ := by
  have l1 := tc_lookup
  have l2 := tc_bind (.ref C)
  have ty : (⟨h, g, d, t, os⟩ : Shared).TypeIs (.ref C) "type" := ⟨_, hC, rfl⟩
  refine wpAny_call (codeAny_of_tree ?_)
  show wpAny _ _ (callAny (.ref C) _) _ _ _
  repeat (any_goals (first | assumption | with_reducible refine wpAny_loadPart_at hC ?_ | wp_step))
  exact ⟨rfl, codeAny_call_builtin_at (Code.quiet_builtin _ (by decide +kernel)) entry_typeCall (wpAny_check_type_call_sub hC (xc_tree0 F T hC hn hi hl hq))⟩
end
end Xc

namespace Xc
open PySem PySem.W PySem.Spec PyProof.Rows L2
/-- a class of errors without an __init__ of its own -/
structure ErrCls0 (K : Frag) (mg : Str → Option Value) (x : Str) (C : Addr) : Prop where
  bound : mg x = some (.ref C)
  kp : keepIn K (.ref C) = true
  obj : ∃ nm q N bs bm hdct sn sub ab col dd k0 k1 k2 k3 k5, K.lookup C = some (excClassObj nm q C N bs bm hdct sn sub ab col dd k0 k1 k2 k3 k5 "ValueError.__new__") ∧ bm.contains (.type "BaseException") = true ∧ nsOkIn K N = true ∧ nsIn K N "__init__" = some none ∧ tailIn K VE bm = true
def tRaise0 (C : Addr) (E : L2.St → XK) (t : TA) : TS := fun D σ H => t σ H fun vs H1 => vs.length ≤ 100 ∧ E σ (.ref C) none H1
section
variable {X : Cx}
theorem ps_raise0 {E : L2.St → XK} {C : Addr} {x : Str} {a : Expr} {es : List Expr} {np cpos pos : Pos} {k : Nat} {t : TA} (hx : RX X E) (hc : X.calm = true) (M : ErrCls0 X.K X.mg x C) (hg : Gl X x) (hr : Room k X.A) (ha : PA X (a :: es) t)
    (hdb : (x == ("__debug__" : Str)) = false := by decide) (he : starEach (a :: es) X.env = (false, eval a X.env) :: starEach es X.env := by rfl) (hpl : (backTo cpos (starEach es X.env)).any (·.1) = false := by rfl) : PS X (.Raise (some (.Call (.Name x np) (a :: es) [] cpos)) none pos) (tRaise0 C E t) := by
  intro pins s σ H D I h
  obtain ⟨nm, q, N, bs, bm, hdct, sn, sub, ab, col, dd, k0, k1, k2, k3, k5, hC, hb, hN, hi, hT⟩ := M.obj
  rw [arm_exec_Raise]
  simp only [evalOpt, Option.map]
  refine wpAny_bind (wpAny_standAt (x_raise (C := C) (nm := nm) (q := q) (N := N) (bs := bs) (bm := bm) (hdct := hdct) (sn := sn) (sub := sub) (ab := ab) (col := col) (dd := dd) (k0 := k0) (k1 := k1) (k2 := k2) (k3 := k3) (k5 := k5) (newId := "ValueError.__new__") hb (I.ok.hd hc) ?_))
  refine wpAny_bind (thn (Q := fun v s1 => ∃ e dx, v = .ref e ∧ s1.heap.get? C = some (excClassObj nm q C N bs bm hdct sn sub ab col dd k0 k1 k2 k3 k5 "ValueError.__new__") ∧ Fly s1.heap e (.ref C) dx none ∧ X.xe (.ref e) s1) ?_ fun v s1 h1 => wpAny_bind (wpAny_standAt (wpAny_pure h1)))
  refine wpAny_Call_Name_kw (ld_glob I hg M.bound ?_ hdb)
  refine PySem.W.callWith_K (h₀ := X.base) I.ok.mod.kin M.kp (thn (ha cpos pins s σ H _ I h) fun us s1 ⟨vs, H1, I1, r, q1⟩ => ⟨I1.kIn, ?_⟩) he hpl
  obtain ⟨hl, q1⟩ := q1
  have hC1 := I1.kIn _ _ hC
  obtain ⟨h1, g1, d1, t1, os1⟩ := s1
  have hz : ([] ++ us).length ≤ sizeLine := by
    have z := r.length
    rw [List.nil_append, ← z]
    exact Nat.le_trans hl (by decide)
  refine xc_make0 PySem.F.excBase_ValueError (tail_of_in I1.kIn hT) hC1 (.of_isNs (isNs_of_in I1.kIn hN)) (nsMap_none_of_in I1.kIn hN hi) hz fun h' e z1 kp ⟨u, hE⟩ => ?_
  have F : Fly h' e (.ref C) none none := ⟨⟨_, hE, rfl, rfl⟩, fun T z => by cases z⟩
  have I2 : Inv X pins σ H1 { heap := h', gens := g1, drawn := d1, toks := t1, os := os1 } := I1.kept kp
  exact ⟨e, none, rfl, kp _ _ hC1, F, hx pins σ _ _ e (.ref C) none none I2 (I1.hok.fresh z1) (fun T z => by cases z) (Nat.le_trans I1.sz z1) (fun p hp => ⟨Nat.ne_of_lt (Nat.lt_of_lt_of_le (Heap.lt_size (I1.pin p hp).1) z1), fun z => by cases z⟩) F q1⟩
end
end Xc
namespace Dd
open PySem L2 Pk Xc
section
variable {X : Cx} {c : Dc} {kx : List Sl → DX}
def dRaise0 (C : Addr) (kx : List Sl → DX) (da : DA) : DS := fun _ A b => da A b fun rs b1 => rs.length ≤ 100 ∧ kx A ⟨C, []⟩ b1
theorem s_raise0 {C : Addr} {x : Str} {a : Expr} {es : List Expr} {np cpos pos : Pos} {k : Nat} {da : DA} (hx : RX X (upX c kx)) (hc : X.calm = true) (M : ErrCls0 X.K X.mg x C) (hg : Gl X x) (hr : Room k X.A) (ha : PAd X c (a :: es) da)
    (hdb : (x == ("__debug__" : Str)) = false := by decide) (he : starEach (a :: es) X.env = (false, eval a X.env) :: starEach es X.env := by rfl) (hpl : (backTo cpos (starEach es X.env)).any (·.1) = false := by rfl) : PSd X c (.Raise (some (.Call (.Name x np) (a :: es) [] cpos)) none pos) (dRaise0 C kx da) :=
  let ⟨_, h1, l1⟩ := ha
  ⟨_, ps_raise0 hx hc M hg hr h1 hdb he hpl, fun F σ H A b D E rr eo h => l1 F σ H A b _ _ rr h fun rs b1 vs F1 H1 ⟨hl, h1⟩ r1 e1 a1 => by
    refine ⟨?_, F1, A, b1, _, r1, h1, rfl, .inl ⟨rfl, rfl⟩⟩
    have z := a1.length
    omega⟩
def kRaise0 (C : Addr) (kx : List Sl → DX) (A : List Sl) (rs : List Rs) (b : Nat) : Prop := rs.length ≤ 100 ∧ kx A ⟨C, []⟩ b
variable {C : Addr} {as : DA} {E : DEnds} {A : List Sl} {b : Nat} {d : D}
theorem q_raise0 : dRaise0 C kx as E A b = as A b (kRaise0 C kx A) := rfl
theorem q_kRaise0 : kRaise0 C kx A [.s d] b = kx A ⟨C, []⟩ b := propext ⟨fun h => h.2, fun h => ⟨by simp, h⟩⟩
end
end Dd

namespace Xc
open PySem PySem.W
variable {K : Frag} {N S : Addr}
theorem ns_ok_of {c : Value} {d : Option Addr} {es : Array DictEntry} {p : Nat} {sl : Array (Option Value)} (h : K.lookup N = some ⟨c, d, .dict es p, sl⟩) (a : es.toList.all (fun e => match e.key with | .str _ _ => true | _ => false) = true) : nsOkIn K N = true := by
  unfold nsOkIn
  rw [h]
  show es.all _ = true
  rw [← Array.all_toList]
  exact a
theorem tail_one {nm q : Str} {bs bm : List Value} {hdct : Bool} {sn : List Str} {sub : List Value} {ab : Bool} {col : Option Bool} {dd : Option Addr} {k0 k1 k2 k3 k5 : Option Value} {newId : String} (h : K.lookup S = some (excClassObj nm q S N bs bm hdct sn sub ab col dd k0 k1 k2 k3 k5 newId)) (hN : nsOkIn K N = true) (hi : nsIn K N "__init__" = some none) : tailIn K VE (.ref S :: VE) = true := by
  unfold tailIn
  dsimp only
  rw [h]
  show (_ || (nsOkIn K N && nsIn K N "__init__" == some none && tailIn K VE VE)) = true
  rw [hN, hi]
  have e : tailIn K VE VE = true := by
    unfold tailIn
    simp
  rw [e]
  simp
end Xc

namespace Dd
open PySem L2 Pk Xc
/-! ### the store, told by what it has -/
structure Put (b b' : Nat) (p : Addr) (ob : Ob) : Prop where
  n : nOf b' = nOf b
  m : ∀ q, mget (mOf b') q = if q = p then some ob else mget (mOf b) q
theorem Put.of {b b' : Nat} {p : Addr} {ob : Ob} (hn : nOf b' = nOf b) (hm : mOf b' = (p, ob) :: mOf b) : Put b b' p ob := ⟨hn, fun q => by rw [hm, mget_cons]⟩
theorem Put.trans {b b1 b2 : Nat} {p : Addr} {o1 o2 : Ob} (h : Put b b1 p o1) (h' : Put b1 b2 p o2) : Put b b2 p o2 := ⟨h'.n.trans h.n, fun q => by
  rw [h'.m]
  by_cases e : q = p
  · rw [if_pos e, if_pos e]
  · rw [if_neg e, if_neg e, h.m, if_neg e]⟩
theorem Put.at_ {b b' : Nat} {p : Addr} {ob : Ob} (h : Put b b' p ob) : mget (mOf b') p = some ob := by rw [h.m, if_pos rfl]
theorem Put.off {b b' : Nat} {p q : Addr} {ob : Ob} (h : Put b b' p ob) (ne : q ≠ p) : mget (mOf b') q = mget (mOf b) q := by rw [h.m, if_neg ne]
theorem put_step {b : Nat} {p : Addr} {ob : Ob} {k : Nat → Prop} (s : StoO ob) (h : ∀ b', Put b b' p ob → k b') : MPut b p ob k := ⟨s, fun b' hn hm => h b' (.of hn hm)⟩
/-- the store is as it was -/
structure Same0 (b b' : Nat) : Prop where
  m : ∀ q, mget (mOf b') q = mget (mOf b) q
theorem Same0.trans {b b1 b2 : Nat} (h : Same0 b b1) (h' : Same0 b1 b2) : Same0 b b2 := ⟨fun q => (h'.m q).trans (h.m q)⟩
theorem Same0.refl {b : Nat} : Same0 b b := ⟨fun _ => rfl⟩
theorem q_nOfSet {b n : Nat} : nOf (setN b n) = n % 1000000000 := nOf_setM
theorem q_mOfSet {b n : Nat} : mOf (setN b n) = mOf b := mOf_set
theorem q_nOf0 : nOf 0 = 0 := rfl
theorem q_mOf0 : mOf 0 = [] := mOf_lt (by decide)
theorem q_setSelf {b : Nat} : setN b (nOf b) = b := by unfold setN nOf; rw [Nat.mod_mod]; exact Nat.mod_add_div b MB
theorem q_setSet {b n m : Nat} : setN (setN b n) m = setN b m := setN_set
end Dd

namespace Dd
open PySem L2 Pk Xc
/-! ### rooms -/
def rmF (mo he pk : Int) : List (Key × D) := [(.inr "most_rows", .int mo), (.inr "held_rows", .int he), (.inr "peak_rows", .int pk)]
theorem sto_rm {C : Addr} {mo he pk : Int} : StoO (.ins C (rmF mo he pk)) := ⟨trivial, trivial, trivial, trivial⟩
def IsRm (C : Addr) (b : Nat) (p : Addr) (mo he pk : Int) : Prop := mget (mOf b) p = some (.ins C (rmF mo he pk))
def dsRmInit (C : Addr) : DSp := fun args b k _ => ∃ (p : Addr) (m : Int), args = [.val (.fn p), .val (.int m)] ∧ mget (mOf b) p = some (.ins C []) ∧ ∀ b', Put b b' p (.ins C (rmF m 0 0)) → k (.s .non) b'
def dsHold (C R : Addr) : DSp := fun args b k kx => ∃ (p : Addr) (n mo he pk : Int), args = [.val (.fn p), .val (.int n)] ∧ IsRm C b p mo he pk ∧ (he + n ≤ mo → ∀ b', Put b b' p (.ins C (rmF mo (he + n) (if he + n > pk then he + n else pk))) → k (.s .non) b') ∧ (mo < he + n → kx ⟨R, []⟩ b)
def dsFree (C R : Addr) : DSp := fun args b k kx => ∃ (p : Addr) (n mo he pk : Int), args = [.val (.fn p), .val (.int n)] ∧ IsRm C b p mo he pk ∧ (n ≤ he → ∀ b', Put b b' p (.ins C (rmF mo (he - n) pk)) → k (.s .non) b') ∧ (he < n → kx ⟨R, []⟩ b)
def dsRm (C : Addr) (g : Int → Int → Int → Int) : DSp := fun args b k _ => ∃ (p : Addr) (mo he pk : Int), args = [.val (.fn p)] ∧ IsRm C b p mo he pk ∧ k (.s (.int (g mo he pk))) b
def dsRmTried (C : Addr) : DSp := fun args b k _ => ∃ (p : Addr) (w n mo he pk : Int), args = [.val (.fn p), .val (.int w), .val (.int n)] ∧ (w = 0 ∨ w = 1) ∧ IsRm C b p mo he pk ∧
  (n ≤ (if w = 0 then mo - he else he) → ∀ b', Put b b' p (.ins C (if w = 0 then rmF mo (he + n) (if he + n > pk then he + n else pk) else rmF mo (he - n) pk)) → k (.s (.str (sS "told"))) b') ∧
  ((if w = 0 then mo - he else he) < n → k (.s (.str (sS "refused"))) b)
def dsRmCounted (C : Addr) : DSp := fun args b k _ => ∃ (p : Addr) (mo he pk : Int), args = [.val (.fn p), .val (.lst [.int mo, .int he, .int pk])] ∧ IsRm C b p mo he pk ∧ k (.s (.bl true)) b
/-- rooms, each with what is counted of it -/
structure Rm where
  p : Addr
  mo : Int
  he : Int
  pk : Int
def rmsD (rs : List Rm) : List D := rs.map fun r => .fn r.p
def rmsO (rs : List Rm) : List D := rs.map fun r => .lst [.int r.mo, .int r.he, .int r.pk]
structure RmsOk (C : Addr) (b : Nat) (rs : List Rm) : Prop where
  nd : (rs.map Rm.p).Nodup
  at_ : ∀ r ∈ rs, IsRm C b r.p r.mo r.he r.pk
  ok : ∀ r ∈ rs, 0 ≤ r.he ∧ r.he ≤ r.mo ∧ r.mo ≤ 1000 ∧ r.he ≤ r.pk ∧ r.pk ≤ 1000
theorem RmsOk.nil {C : Addr} {b : Nat} : RmsOk C b [] := ⟨List.nodup_nil, fun r h => (by cases h), fun r h => (by cases h)⟩
theorem RmsOk.set0 {C : Addr} {b n : Nat} {rs : List Rm} (h : RmsOk C b rs) : RmsOk C (setN b n) rs := ⟨h.nd, fun r hr => by unfold IsRm; rw [mOf_set]; exact h.at_ r hr, h.ok⟩
theorem RmsOk.add {C : Addr} {b b' : Nat} {rs : List Rm} {r : Rm} (h : RmsOk C b rs) (n : mget (mOf b) r.p = none) (P : Put b b' r.p (.ins C (rmF r.mo r.he r.pk))) (o : 0 ≤ r.he ∧ r.he ≤ r.mo ∧ r.mo ≤ 1000 ∧ r.he ≤ r.pk ∧ r.pk ≤ 1000) : RmsOk C b' (rs ++ [r]) := by
  have ne : ∀ q ∈ rs, q.p ≠ r.p := fun q hq e => by
    have := h.at_ q hq
    unfold IsRm at this
    rw [e, n] at this
    cases this
  refine ⟨?_, fun q hq => ?_, fun q hq => ?_⟩
  · rw [List.map_append, List.nodup_append]
    refine ⟨h.nd, by simp, fun a ha b hb e => ?_⟩
    obtain ⟨q, hq, rfl⟩ := List.mem_map.mp ha
    rw [List.map_cons, List.map_nil, List.mem_singleton] at hb
    exact ne q hq (e.trans hb)
  · rcases List.mem_append.mp hq with z | z
    · unfold IsRm; rw [P.off (ne q z)]; exact h.at_ q z
    · rw [List.mem_singleton.mp z]; exact P.at_
  · rcases List.mem_append.mp hq with z | z
    · exact h.ok q z
    · rw [List.mem_singleton.mp z]; exact o
theorem RmsOk.put {C : Addr} {b b' : Nat} {rs : List Rm} {r r' : Rm} {i : Nat} (h : RmsOk C b rs) (hi : rs[i]? = some r) (e : r'.p = r.p) (P : Put b b' r.p (.ins C (rmF r'.mo r'.he r'.pk))) (o : 0 ≤ r'.he ∧ r'.he ≤ r'.mo ∧ r'.mo ≤ 1000 ∧ r'.he ≤ r'.pk ∧ r'.pk ≤ 1000) : RmsOk C b' (rs.set i r') := by
  have hil := (List.getElem?_eq_some_iff.mp hi).1
  have em : (rs.set i r').map Rm.p = rs.map Rm.p := by
    rw [List.map_set, e]
    refine List.ext_getElem? fun j => ?_
    by_cases z : i = j
    · subst z; rw [List.getElem?_set_self (by rw [List.length_map]; exact hil), List.getElem?_map, hi]; rfl
    · rw [List.getElem?_set_ne z]
  refine ⟨by rw [em]; exact h.nd, fun q hq => ?_, fun q hq => ?_⟩
  · obtain ⟨j, hj⟩ := List.getElem?_of_mem hq
    by_cases z : i = j
    · subst z
      rw [List.getElem?_set_self hil] at hj
      cases hj
      show mget _ r'.p = _
      rw [e]; exact P.at_
    · rw [List.getElem?_set_ne z] at hj
      have ne : q.p ≠ r.p := fun y => by
        have nd := h.nd
        have jl := (List.getElem?_eq_some_iff.mp hj).1
        have e1 : (rs.map Rm.p)[i]? = some r.p := by rw [List.getElem?_map, hi]; rfl
        have e2 : (rs.map Rm.p)[j]? = some q.p := by rw [List.getElem?_map, hj]; rfl
        have := (List.getElem?_inj (by rw [List.length_map]; exact hil) nd).mp (e1.trans ((congrArg some y.symm).trans e2.symm))
        exact z this
      unfold IsRm
      rw [P.off ne]
      exact h.at_ q (List.mem_of_getElem? hj)
  · rcases List.mem_or_eq_of_mem_set hq with z | rfl
    · exact h.ok q z
    · exact o
theorem sam_ints3 {a b c : Int} : sam 4 (.lst [.int a, .int b, .int c]) := ⟨by show 3 < 100000; decide, fun d hd => by
  simp only [List.mem_cons, List.not_mem_nil, or_false] at hd
  rcases hd with rfl | rfl | rfl <;> trivial⟩
theorem rms_at {rs : List Rm} {r : Rm} {i : Nat} (h : rs[i]? = some r) : atI (rmsD rs) (i : Int) = some (.fn r.p) ∧ atI (rmsO rs) (i : Int) = some (.lst [.int r.mo, .int r.he, .int r.pk]) :=
  ⟨atI_nat (by unfold rmsD; rw [List.getElem?_map, h]; rfl), atI_nat (by unfold rmsO; rw [List.getElem?_map, h]; rfl)⟩
theorem rmsD_len {rs : List Rm} : (rmsD rs).length = rs.length := by unfold rmsD; rw [List.length_map]
theorem rmsO_len {rs : List Rm} : (rmsO rs).length = rs.length := by unfold rmsO; rw [List.length_map]
theorem rms_zip : ∀ {rs : List Rm}, zipped (rmsD rs) (rmsO rs) = rs.map fun r => .tup [.fn r.p, .lst [.int r.mo, .int r.he, .int r.pk]]
  | [] => rfl
  | r :: rs => by
    have ih := rms_zip (rs := rs)
    show _ :: _ = _ :: _
    exact congrArg _ ih
theorem rms_set {rs : List Rm} {r : Rm} {i : Nat} : rmsD (rs.set i r) = (rmsD rs).set i (.fn r.p) ∧ rmsO (rs.set i r) = (rmsO rs).set i (.lst [.int r.mo, .int r.he, .int r.pk]) := by unfold rmsD rmsO; rw [List.map_set, List.map_set]; exact ⟨rfl, rfl⟩
theorem rms_setD {rs : List Rm} {r : Rm} {i : Nat} (h : rs[i]? = some r) : (rmsD rs).set i (.fn r.p) = rmsD rs := by
  refine List.ext_getElem? fun j => ?_
  by_cases e : i = j
  · subst e
    have hl := (List.getElem?_eq_some_iff.mp h).1
    rw [List.getElem?_set_self (by rw [rmsD_len]; exact hl)]
    unfold rmsD
    rw [List.getElem?_map, h]
    rfl
  · rw [List.getElem?_set_ne e]
end Dd


namespace K52
open PySem L2 Pk
def top (i : Nat) : Stmt := PySem.Challenge.pw_pillarstore_k52_rooms.main.body.getD i (.Pass ⟨0, 0, 0, 0⟩)
abbrev s_take : Stmt := top 18
abbrev N_take : List Str := ["_law_state", "_law_many", "_law_turn", "_law_place", "_law_cell", "_law_mixed", "_law_digit"]
theorem sc_take : FnScope N_take ["_law_state", "_law_many"] (defScope s_take) := ⟨rfl, rfl, rfl, by decide +kernel, rfl, by decide +kernel, by decide +kernel⟩
abbrev s_begin : Stmt := top 17
abbrev N_begin : List Str := ["_law_script", "_law_cells"]
theorem sc_begin : FnScope N_begin ["_law_script"] (defScope s_begin) := ⟨rfl, rfl, rfl, by decide +kernel, rfl, by decide +kernel, by decide +kernel⟩
abbrev s_same : Stmt := top 19
abbrev N_same : List Str := ["_law_found", "_law_due", "_law_name", "_law_one", "_law_other"]
theorem sc_same : FnScope N_same ["_law_found", "_law_due"] (defScope s_same) := ⟨rfl, rfl, rfl, by decide +kernel, rfl, by decide +kernel, by decide +kernel⟩
abbrev s_p_Room___init__ : Stmt := Xc.rowIn 0 (top 15)
abbrev N_p_Room___init__ : List Str := ["self", "most"]
theorem sc_p_Room___init__ : FnScope N_p_Room___init__ ["self", "most"] (defScope s_p_Room___init__) := ⟨rfl, rfl, rfl, by decide +kernel, rfl, by decide +kernel, by decide +kernel⟩
abbrev s_p_Room_hold : Stmt := Xc.rowIn 1 (top 15)
abbrev N_p_Room_hold : List Str := ["self", "many"]
theorem sc_p_Room_hold : FnScope N_p_Room_hold ["self", "many"] (defScope s_p_Room_hold) := ⟨rfl, rfl, rfl, by decide +kernel, rfl, by decide +kernel, by decide +kernel⟩
abbrev s_p_Room_free : Stmt := Xc.rowIn 2 (top 15)
abbrev N_p_Room_free : List Str := ["self", "many"]
theorem sc_p_Room_free : FnScope N_p_Room_free ["self", "many"] (defScope s_p_Room_free) := ⟨rfl, rfl, rfl, by decide +kernel, rfl, by decide +kernel, by decide +kernel⟩
abbrev s_p_Room_most : Stmt := Xc.rowIn 3 (top 15)
abbrev N_p_Room_most : List Str := ["self"]
theorem sc_p_Room_most : FnScope N_p_Room_most ["self"] (defScope s_p_Room_most) := ⟨rfl, rfl, rfl, by decide +kernel, rfl, by decide +kernel, by decide +kernel⟩
abbrev s_p_Room_held : Stmt := Xc.rowIn 4 (top 15)
abbrev N_p_Room_held : List Str := ["self"]
theorem sc_p_Room_held : FnScope N_p_Room_held ["self"] (defScope s_p_Room_held) := ⟨rfl, rfl, rfl, by decide +kernel, rfl, by decide +kernel, by decide +kernel⟩
abbrev s_p_Room_peak : Stmt := Xc.rowIn 5 (top 15)
abbrev N_p_Room_peak : List Str := ["self"]
theorem sc_p_Room_peak : FnScope N_p_Room_peak ["self"] (defScope s_p_Room_peak) := ⟨rfl, rfl, rfl, by decide +kernel, rfl, by decide +kernel, by decide +kernel⟩
abbrev s_tried : Stmt := top 20
abbrev N_tried : List Str := ["_law_room", "_law_way", "_law_many", "_law_caught", "e"]
theorem sc_tried : FnScope N_tried ["_law_room", "_law_way", "_law_many"] (defScope s_tried) := ⟨rfl, rfl, rfl, by decide +kernel, rfl, by decide +kernel, by decide +kernel⟩
abbrev s_as_counted : Stmt := top 21
abbrev N_as_counted : List Str := ["_law_room", "_law_own"]
theorem sc_as_counted : FnScope N_as_counted ["_law_room", "_law_own"] (defScope s_as_counted) := ⟨rfl, rfl, rfl, by decide +kernel, rfl, by decide +kernel, by decide +kernel⟩
abbrev s_p_law : Stmt := top 22
abbrev N_p_law : List Str := ["_law_script", "_law_state", "_law_rooms", "_law_owns", "_law_turn", "_law_most", "_law_k", "_law_way", "_law_left", "_law_many", "_law_due", "_law_held", "_law_peak", "_law_room", "_law_own"]
theorem sc_p_law : FnScope N_p_law ["_law_script"] (defScope s_p_law) := ⟨rfl, rfl, rfl, by decide +kernel, rfl, by decide +kernel, by decide +kernel⟩
end K52

set_option maxHeartbeats 1000000
local macro_rules | `(tactic| walk_at "rd") => `(tactic| try simp only [Pk.r_seq, Pk.r_next, Pk.r_var, Pk.r_c, Pk.r_op, Pk.r_un, Pk.r_asg, Pk.r_gname, Pk.r_gnil, Pk.r_gcons, Pk.r_gsub, Pk.r_ifS, Pk.r_ret, Pk.r_retN, Pk.r_drop, Pk.r_break, Pk.r_cont, Pk.r_never, Pk.r_test, Pk.r_tB, Pk.r_and, Pk.r_or, Pk.r_not, Pk.r_andV, Pk.r_orV, Pk.r_notV, Pk.r_ifE, Pk.r_I, Pk.r_I0, Pk.r_U, Pk.r_Eq, Pk.r_Ne, Pk.r_ipI, Pk.r_aug, Pk.r_nil, Pk.r_cons, Pk.r_lst, Pk.r_tup, Pk.r_call, Pk.r_cb, Pk.r_bm, Pk.r_bm0, Pk.r_dget, Pk.r_dput, Pk.r_sl, Pk.r_nopart, Pk.r_part, Pk.r_yes, Pk.r_for1, Pk.r_for2, Pk.r_forL, Pk.r_forT, Pk.r_lc1, Pk.r_lcL, Pk.r_lcT, Pk.r_lcZ,  Pk.w_nil, Pk.w_cons, Pk.m_nil, Pk.m_cons,
  Pk.g0, Pk.g1, Pk.g2, Pk.g3, Pk.g4, Pk.g5, Pk.g6, Pk.g7, Pk.g8, Pk.g9, Pk.g10, Pk.g11, Pk.s0, Pk.s1, Pk.s2, Pk.s3, Pk.s4, Pk.s5, Pk.s6, Pk.s7, Pk.s8, Pk.s9, Pk.s10, Pk.s11,
  Option.some.injEq, L2.V.int.injEq, L2.V.str.injEq, L2.V.bl.injEq, L2.V.ref.injEq, exists_and_left, exists_eq_left', exists_eq_left, exists_eq', exists_eq, List.cons.injEq, and_assoc, and_true, true_and, List.append_nil, decide_eq_true_eq, Bool.not_eq_true', decide_eq_false_iff_not, if_true, if_false, reduceCtorEq, decide_false, decide_true, not_false_eq_true, not_true_eq_false, Bool.not_false, Bool.not_true, ite_self, Bool.false_eq_true, List.cons_append, List.nil_append])
local macro_rules | `(tactic| walk_at "qd") => `(tactic| try simp only [Dd.q_kOp3, Dd.q_kOp2, Dd.q_kOp1, Dd.q_kTest, Dd.q_kNotT, Dd.q_kAndT, Dd.q_kOrT, Dd.q_kTru, Dd.q_kNot, Dd.q_kAnd, Dd.q_kOr, Dd.q_kIf, Dd.q_kNeg, Dd.q_kCh4, Dd.q_kCh3, Dd.q_kCh2, Dd.q_kCh1, Dd.q_kCons2, Dd.q_kCons1, Dd.q_kLst, Dd.q_kTup, Dd.q_kP, Dd.q_kSl3, Dd.q_kSl2, Dd.q_kSl1, Dd.q_kCB, Dd.q_kIsi, Dd.q_kJ2, Dd.q_kJ1, Dd.q_kIt, Dd.q_kR1, Dd.q_kR2, Dd.q_kZip, Dd.q_kEnum, Dd.q_kRev, Dd.q_kG, Dd.q_kRet, Dd.q_kNx, Dd.q_kSet, Dd.q_kAsg, Dd.q_kAug3, Dd.q_kAug2, Dd.q_kAug1, Dd.q_kApp2, Dd.q_kApp, Dd.q_kExt2, Dd.q_kExt, Dd.q_kSx3, Dd.q_kSx2, Dd.q_kSx1, Dd.q_kDrop, Dd.q_kIfS, Dd.q_kCall, Dd.q_kFor, Dd.q_kBody, Dd.q_kLc, Dd.q_kLcR, Dd.q_kLcE, Dd.q_kLcT, Dd.q_var, Dd.q_c, Dd.q_op, Dd.q_test, Dd.q_notT, Dd.q_andT, Dd.q_orT, Dd.q_tru, Dd.q_not, Dd.q_and, Dd.q_or, Dd.q_if, Dd.q_neg, Dd.q_chain, Dd.q_nil, Dd.q_cons, Dd.q_lst, Dd.q_tup, Dd.q_noP, Dd.q_P, Dd.q_sl, Dd.q_cb, Dd.q_isi, Dd.q_join, Dd.q_it, Dd.q_r1, Dd.q_r2, Dd.q_zip, Dd.q_enum, Dd.q_rev, Dd.q_gN, Dd.q_gsNil, Dd.q_gsCons, Dd.q_gTup, Dd.q_nx, Dd.q_seq, Dd.q_bk, Dd.q_ct, Dd.q_never, Dd.q_ret, Dd.q_retv, Dd.q_retN, Dd.q_putS, Dd.q_putO, Dd.q_set, Dd.q_asg, Dd.q_aug, Dd.q_own, Dd.q_app, Dd.q_ext, Dd.q_setIx, Dd.q_drop, Dd.q_ifS, Dd.q_frz, Dd.q_call, Dd.q_for, Dd.q_lc, Dd.q_fzs, Dd.q_fzb, Dd.q_fzp, Dd.q_fzo, Dd.q_fzg, Dd.q_kps0, Dd.q_kps1, Dd.q_ds, Dd.q_db, Dd.q_dp, Dd.q_do, Dd.q_kpS, Dd.q_kpO, Dd.q_itF1, Dd.q_itF2, Dd.q_itF3, Dd.q_itF4, Dd.q_itF5, Dd.q_itC1, Dd.q_itC2, Dd.q_itC3, Dd.q_itC4, Dd.q_itC5, Dd.q_itC6, Dd.q_lsF1, Dd.q_lsF2, Dd.q_lsC1, Dd.q_lsC2, Dd.q_lsC3, Dd.q_yes, Dd.q_mapS, Dd.q_fI, Dd.q_fI0, Dd.q_fOi, Dd.q_fOs, Dd.q_addI, Dd.q_addS, Dd.q_addOO, Dd.q_addBO, Dd.q_addOB, Dd.q_addBB, Dd.q_addPO, Dd.q_addSO, Dd.q_addSS, Dd.q_addOS, Dd.q_no0, Dd.q_noS, Dd.q_noB, Dd.q_noP', Dd.q_noG, Dd.q_toS, Dd.q_toB, Dd.q_toP, Dd.q_toG, Dd.q_take, Dd.q_eqI, Dd.q_neI, Dd.q_eqS, Dd.q_neS, Dd.q_isF, Dd.q_isT, Dd.q_isN0, Dd.q_isN1, Dd.q_isN2, Dd.q_isN3, Dd.q_isN4, Dd.q_ixO, Dd.q_ixB, Dd.q_ixP, Dd.q_ixS, Dd.q_ixT, Dd.q_ixZ, Dd.q_lenB, Dd.q_lenP, Dd.q_lenS, Dd.q_lenT, Dd.q_lenZ, Dd.q_listB, Dd.q_listP, Dd.q_listS, Dd.q_listT, Dd.q_tupB, Dd.q_tupP, Dd.q_tupS, Dd.q_tupT, Dd.q_intB, Dd.q_intI, Dd.q_fI1, Dd.q_fI2, Dd.q_slO, Dd.q_slB, Dd.q_slP, Dd.q_slS, Dd.q_slZ, Dd.q_repO, Dd.q_is0, Dd.q_is1, Dd.q_is2, Dd.q_is3, Dd.q_is4, Dd.q_is5, Dd.q_ws0, Dd.q_ws1, Dd.q_text, Dd.q_number, Dd.q_szl, Dd.q_srtI, Dd.q_srtS, Dd.q_kSrtI, Dd.q_kSrtS, Dd.q_kScT, Dd.q_kScE, Dd.q_kScR, Dd.q_srtK, Dd.q_kSrtK, Dd.q_disp, Dd.q_pairsN, Dd.q_pairsC, Dd.q_kPr1s, Dd.q_kPr1i, Dd.q_kPr2, Dd.q_kPr3, Dd.q_kDisp, Dd.q_dget1, Dd.q_du, Dd.q_kDu2, Dd.q_kDu3, Dd.q_isB, Dd.q_slT, Dd.q_kSlT1, Dd.q_kSlT2, Dd.q_kSlT3, Dd.q_strT, Dd.q_gd, Dd.q_kGD, Dd.q_zipQ, Dd.q_kZipQ, Dd.q_r3, Dd.q_kR3, Dd.q_slQ, Dd.q_kSlQ1, Dd.q_kSlQ2, Dd.q_kSlQT, Dd.q_kSlQp, Dd.q_kSlQs, Dd.q_gt, Dd.q_kGT, Dd.q_callV, Dd.q_bits, Dd.q_bitsN, Dd.q_nbz, Dd.q_isTb, Dd.q_isFb, Dd.q_gL, Dd.q_find, Dd.q_kFd1, Dd.q_kFd2, Dd.q_augIx, Dd.q_kAx1, Dd.q_kAx2, Dd.q_kAx3, Dd.q_callX, Dd.q_kCallX, Dd.q_raise, Dd.q_kRaise, Dd.q_fmtS, Dd.q_fmtI, Dd.q_try, Dd.q_try0, Dd.q_kTryX, Dd.q_kTryX0, Dd.q_goneN, Dd.q_goneR, Dd.q_goneB, Dd.q_goneC, Dd.q_isiV, Dd.q_kIsiV, Dd.q_errF, Dd.q_kErrF, Dd.q_isEr, Dd.q_callE, Dd.q_kCallE, Dd.q_rvs, Dd.q_kRvs, Dd.q_sidx, Dd.q_kSi1, Dd.q_kSi2, Dd.q_kWh, Dd.q_eqB, Dd.q_neB, Dd.q_par, Dd.q_kPar, Dd.q_liftD, Dd.q_fldM, Dd.q_kFldM, Dd.q_fldSt, Dd.q_kFldSt, Dd.q_kFldStO, Dd.q_kFldSt2, Dd.q_methM, Dd.q_methMX, Dd.q_kMethM1, Dd.q_kMethM2, Dd.q_makeM, Dd.q_kMakeM, Dd.q_augM, Dd.q_kAugM1, Dd.q_kAugM2, Dd.q_kAugM3, Dd.q_nOfSet, Dd.q_mOfSet, Dd.q_nOf0, Dd.q_mOf0, Dd.q_setSelf, Dd.q_setSet, Dd.q_fld, Dd.q_kFld, Dd.q_fldS, Dd.q_meth, Dd.q_methX, Dd.q_kMeth1, Dd.q_kMeth2, Dd.q_loc, Dd.q_kLoc, Dd.q_ifld, Dd.q_kIFldS, Dd.q_kIFldO, Dd.q_make, Dd.q_kMake, Dd.q_clr, Dd.q_kClr, Dd.q_pa, Dd.q_kPA0, Dd.q_kPA1, Dd.q_kPA2, Dd.q_dc, Dd.q_kDc, Dd.q_kDcT, Dd.q_kDcE, Dd.q_kDc1, Dd.q_kDc2, Dd.q_oget, Dd.q_kOGet1, Dd.q_kOGet2, Dd.q_lidx, Dd.q_kIdx0, Dd.q_raise0, Dd.q_kRaise0,
  Pk.g0, Pk.g1, Pk.g2, Pk.g3, Pk.g4, Pk.g5, Pk.g6, Pk.g7, Pk.g8, Pk.g9, Pk.g10, Pk.g11, Pk.s0, Pk.s1, Pk.s2, Pk.s3, Pk.s4, Pk.s5, Pk.s6, Pk.s7, Pk.s8, Pk.s9, Pk.s10, Pk.s11, Dd.g12, Dd.g13, Dd.g14, Dd.g15, Dd.g16, Dd.s12, Dd.s13, Dd.s14, Dd.s15, Dd.s16, List.map_cons, List.map_nil, Option.some.injEq, Dd.Rs.s.injEq, Dd.Rs.o.injEq, Dd.Rs.b.injEq, Dd.Rs.p.injEq, Dd.D.int.injEq, Dd.D.str.injEq, Dd.D.bl.injEq, Dd.D.lst.injEq, Dd.D.tup.injEq, Dd.Sl.val.injEq, Dd.Sl.bb.injEq, Dd.Sl.own.injEq, Dd.Sl.bo.injEq, ne_eq, exists_and_left, exists_eq_left', exists_eq_left, exists_eq', exists_eq, List.cons.injEq, and_assoc, and_true, true_and, and_self, decide_eq_true_eq, Bool.not_eq_true', Bool.not_eq_eq_eq_not, decide_eq_false_iff_not, if_true, if_false, ite_true, ite_false, reduceCtorEq, decide_false, decide_true, not_false_eq_true, not_true_eq_false, Bool.not_false, Bool.not_true, Bool.false_eq_true, List.cons_append, List.nil_append, false_or, or_false, implies_true, List.length_cons, List.length_nil, Nat.zero_add, Nat.reduceAdd, Nat.reduceLeDiff, Int.reducePow, Int.reduceToNat, Int.toNat_natCast, Int.zero_add])
local macro_rules | `(tactic| walk_at "tk") => `(tactic| (unfold Dd.Tk; omega))
namespace K52
open PySem L2 Pk Dd
structure Zs (mg : Str → Option Value) : Prop where
  z_divmod : mg "divmod" = none
  z_len : mg "len" = none
  z_list : mg "list" = none
  z_isinstance : mg "isinstance" = none
  z_bool : mg "bool" = none
  z_int : mg "int" = none
  z_str : mg "str" = none
  z_tuple : mg "tuple" = none
  z_all : mg "all" = none
  z_zip : mg "zip" = none
  z_dict : mg "dict" = none
  z_max : mg "max" = none
  z_ValueError : mg "ValueError" = none
  z_range : mg "range" = none
structure Es (K : PySem.W.Frag) (P : Program) (mg : Str → Option Value) where
  StoreError : Addr
  NoRow : Addr
  NoHeap : Addr
  NoMoment : Addr
  NotSound : Addr
  NoRoom : Addr
  NoPart : Addr
  NoFile : Addr
  NoName : Addr
  Taken : Addr
  BadBytes : Addr
  BadRow : Addr
  BadText : Addr
  t_StoreError : Dd.ErrTop K mg "StoreError" StoreError
  t_NoRow : Dd.ErrTop K mg "NoRow" NoRow
  t_NoHeap : Dd.ErrTop K mg "NoHeap" NoHeap
  t_NoMoment : Dd.ErrTop K mg "NoMoment" NoMoment
  t_NotSound : Dd.ErrTop K mg "NotSound" NotSound
  t_NoRoom : Dd.ErrTop K mg "NoRoom" NoRoom
  c_NoRoom : Xc.ErrCls0 K mg "NoRoom" NoRoom
  a_NoRoom : Xc.ErrAt K NoRoom
  t_NoPart : Dd.ErrTop K mg "NoPart" NoPart
  t_NoFile : Dd.ErrTop K mg "NoFile" NoFile
  t_NoName : Dd.ErrTop K mg "NoName" NoName
  t_Taken : Dd.ErrTop K mg "Taken" Taken
  t_BadBytes : Dd.ErrTop K mg "BadBytes" BadBytes
  t_BadRow : Dd.ErrTop K mg "BadRow" BadRow
  t_BadText : Dd.ErrTop K mg "BadText" BadText
  Room : Addr
  m_Room : mg "Room" = some (.ref Room)
  cl_Room : Cls K Room
  na_Room_most_rows : NoAttr K Room "most_rows"
  na_Room_held_rows : NoAttr K Room "held_rows"
  na_Room_peak_rows : NoAttr K Room "peak_rows"
  m_top : PySem.W.mroIn K NoRoom (.ref StoreError) = some true
  i_val : PySem.W.kitOne K (.ref NoRoom) (.type "ValueError") = some true
  i_NoRoom : PySem.W.kitOne K (.ref NoRoom) (.ref NoRoom) = some true
  i_any1 : PySem.W.kitAny K (.ref NoRoom) [.ref BadBytes, .ref BadRow, .ref BadText, .ref NoFile, .ref NoHeap, .ref NoMoment, .ref NoName, .ref NoPart] = some false
  i_any2 : PySem.W.kitAny K (.ref NoRoom) [.ref NoRow, .ref NotSound, .ref Taken] = some false
section
variable {P : Program} {w : World} {K : PySem.W.Frag} {mg : Str → Option Value} {base : Heap}
theorem ok_take {j : Nat} {f : Addr} {fd : FuncData} (F : Fun K "_law_take" "_law_take" s_take f fd) (Z : Zs mg) : FnOk P w K mg base CX0 (j + 1) f fd ["_law_state", "_law_many"] spTake := by
  refine F.ok sc_take (fun vs H Q E h => ?_) (fun cdv A outer s H vs Q E hr h => ?_)
  · obtain ⟨d, c, b, m, rfl, _⟩ := h
    rfl
  · obtain ⟨d, c, b, m, rfl, ⟨ns, t, hne, hlen, t0, tb, hc, hd⟩, m0, m1, hb, k⟩ := h
    have hu := hu_of hr
    refine ⟨_, (pss_cons (ps_set (i := 2) sc_take.nd rfl (Or.inl rfl) (pe_op op_add (pe_dget hu (pv 0) pe_str (fun _ _ => rfl)) pe_int))
      (pss_cons (ps_dput hu (pv 0) pe_str (pv 2) rfl)
      (pss_cons (ps_set (i := 3) sc_take.nd rfl (Or.inl rfl) (pe_op op_mod (pv 2) (pe_callB call_lenQ (by rfl) Z.z_len (by decide +kernel) (pa_cons (pe_dget hu (pv 0) pe_str (fun _ _ => rfl)) pa_nil st_Subscript))))
      (pss_cons (ps_set (i := 4) sc_take.nd rfl (Or.inl rfl) (pe_ix ix_sq (pe_dget hu (pv 0) pe_str (fun _ _ => rfl)) (pv 3) (fun _ _ => rfl)))
      (pss_cons (ps_if (pt_cmpR op_ge (pv 4) (pe_op op_pow pe_int pe_int) (nomark _)) (pss_cons (ps_asg (pe_callB call_divmodW (by rfl) Z.z_divmod (by decide +kernel) (pa_cons (pv 4) (pa_cons (pv 1) pa_nil st_Name) st_Name)) (pg_tup (by rfl) (pgs_cons (pg_sub (pe_dget hu (pv 0) pe_str (fun _ _ => rfl)) (pv 3) set_list) (pgs_cons (pg_name (i := 6) sc_take.nd rfl (Or.inl rfl)) pgs_nil))))
      (pss_one (ps_ret (pv 6)))) pss_nil)
      (pss_cons (ps_set (i := 5) sc_take.nd rfl (Or.inl rfl) (pe_op op_mod (pe_op op_mul (pe_op op_add (pe_op op_add (pe_op op_mod (pv 4) pe_int) (pe_op op_mul (pe_op op_mul (pv 2) (pv 2)) pe_int)) pe_int) pe_int) pe_int))
      (pss_cons (ps_set (i := 5) sc_take.nd rfl (Or.inl rfl) (pe_op op_mod (pe_op op_mul (pv 5) (pv 5)) pe_int))
      (pss_one (ps_ret (pe_op op_mod (pe_op op_fdivW (pe_op op_mod (pe_op op_mul (pe_op op_add (pv 5) (pe_op op_mul (pv 2) pe_int)) pe_int) pe_int) pe_int) (pv 1))))))))))), ?_⟩
    rw [show start N_take [V.ref d, V.int m] = [some (V.ref d), some (V.int m), none, none, none, none, none] from rfl]
    walk_at "rd"
    have ncd : c ≠ d := ne_of hc hd (by intro z; cases z)
    refine ⟨_, dg (k := Sum.inr "turn") hd st_turn, t, rfl, _, dp (k := Sum.inr "turn") hd (by show 2 < sizeLine; decide) st_put, _, dg (k := Sum.inr "cells") upd_same st_cells, ?_⟩
    have hc1 : upd H d (.dK [((Sum.inr "cells" : Key), V.ref c), (Sum.inr "turn", V.int (t + 1))]) c = some (.lst (ns.map V.int)) := by rw [upd_ne ncd]; exact hc
    generalize hH1 : upd H d (.dK [((Sum.inr "cells" : Key), V.ref c), (Sum.inr "turn", V.int (t + 1))]) = H1 at hc1 ⊢
    have hd1 : H1 d = some (.dK [((Sum.inr "cells" : Key), V.ref c), (Sum.inr "turn", V.int (t + 1))]) := by rw [← hH1]; exact upd_same
    have f1 : Fr d c H H1 := fun a o e n1 n2 => by rw [← hH1, upd_ne n1]; exact e
    have lpos : 0 < ns.length := List.length_pos_iff.mpr hne
    refine ⟨c, _, rfl, Sq.l hc1, _, rfl, by rw [List.length_map]; omega, _, dg (k := Sum.inr "cells") hd1 st_cells, ?_⟩
    rw [List.length_map]
    have p0 : 0 ≤ (t + 1) % (ns.length : Int) := Int.emod_nonneg _ (by omega)
    have p1 : (t + 1) % (ns.length : Int) < ns.length := Int.emod_lt_of_pos _ (by omega)
    generalize (t + 1) % (ns.length : Int) = pl at p0 p1 ⊢
    obtain ⟨n, hn, ha⟩ := at_map (f := V.int) p0 p1
    refine ⟨c, pl, V.int n, rfl, rfl, ⟨_, Sq.l hc1, ha⟩, ⟨by decide, by decide, by decide⟩, n, rfl, ?_⟩
    have fin : ∀ ns' : List Int, ns'.length = ns.length → ∀ H2, H2 d = H1 d → H2 c = some (.lst (ns'.map V.int)) → StA H2 d c (b + 1) := fun ns' e H2 h1 h2 =>
      ⟨ns', t + 1, List.length_pos_iff.mp (by omega), by omega, by omega, by omega, h2, h1.trans hd1⟩
    refine ite2 (fun _ => ?_) (fun _ => ?_)
    · refine ⟨n, rfl, ⟨m0, m1⟩, fun p hp => gtup upd_same rfl ?_⟩
      walk_at "rd"
      have npd : d ≠ p := ne_of_none hd1 hp
      have npc : c ≠ p := ne_of_none hc1 hp
      have hc2 : upd H1 p (.tup [V.int (n / m), V.int (n % m)]) c = some (.lst (ns.map V.int)) := by rw [upd_ne npc]; exact hc1
      refine ⟨_, dg (k := Sum.inr "cells") (by rw [upd_ne npd]; exact hd1) st_cells, c, _, pl, pl.toNat, rfl, rfl, hc2, ix_ok p0 (by rw [List.length_map]; exact p1), ?_⟩
      try walk_at "rd"
      rw [← List.map_set]
      refine k _ _ (Int.emod_nonneg _ (by omega)) (Int.emod_lt_of_pos _ m0) (fin (ns.set pl.toNat (n / m)) List.length_set _ ?_ upd_same) fun a o e n1 n2 => ?_
      · rw [upd_ne ncd.symm, upd_ne npd]
      · rw [upd_ne n2, upd_ne (ne_of_none (f1 a o e n1 n2) hp)]
        exact f1 a o e n1 n2
    · refine ⟨n, rfl, by decide, .inl ⟨by omega, by omega⟩, .inr ⟨by decide, by decide⟩, .inr ⟨by decide, by decide⟩, by decide, .inl ⟨by omega, by omega⟩, by decide, .inr ⟨by decide, by decide⟩, .inr ⟨by decide, by decide⟩, by decide, ⟨by decide, by decide⟩, m0, ?_⟩
      exact k _ H1 (Int.emod_nonneg _ (by omega)) (Int.emod_lt_of_pos _ m0) (fin ns rfl H1 rfl hc1) f1
theorem ok_begin {j : Nat} {f : Addr} {fd : FuncData} (F : Fun K "_law_begin" "_law_begin" s_begin f fd) (Z : Zs mg) : FnOk P w K mg base CX0 (j + 1) f fd ["_law_script"] (spBegin K) := by
  refine F.ok sc_begin (fun vs H Q E h => ?_) (fun cdv A outer s H vs Q E hr h => ?_)
  · obtain ⟨a, ns, rfl, _⟩ := h
    rfl
  · obtain ⟨a, ns, rfl, hq, k⟩ := h
    refine ⟨_, (pss_cons (ps_set (i := 1) sc_begin.nd rfl (Or.inl rfl) (pe_callTy call_list_of (by rfl) Z.z_list (by decide +kernel) (pa_cons (pe_slice sl_list (pv 0) po_none (po_some pe_int)) pa_nil st_Subscript)))
      (pss_cons (ps_if (pt_cmpR (op_eqD hr.units) (pv 1) (pe_lst pa_nil) (nomark _)) (pss_one (ps_set (i := 1) sc_begin.nd rfl (Or.inl rfl) (pe_lst (pa_cons pe_int pa_nil st_Constant)))) pss_nil)
      (pss_one (ps_ret (pe_disp (pps_cons pe_str (pv 1) (pps_cons pe_str pe_int pps_nil)) (by rfl) (by rfl) (fun z => by cases z) (by decide)))))), ?_⟩
    rw [show start N_begin [V.ref a] = [some (V.ref a), none] from rfl]
    walk_at "rd"
    refine ⟨a, _, rfl, hq, fun p1 hp1 => ?_⟩
    walk_at "rd"
    have ec : cutV (ns.map V.int) none (some 63) = (ns.take 63).map V.int := by
      unfold cutV
      simp [HT.sIx, List.map_take]
    rw [ec]
    refine ⟨_, Or.inl (SqL.of upd_same), fun p2 hp2 => ⟨by decide, fun p3 hp3 => ?_⟩⟩
    have s3 : Same H (upd (upd (upd H p1 (.lst ((ns.take 63).map V.int))) p2 (.lst ((ns.take 63).map V.int))) p3 (.lst [])) := ((Same.new hp1).trans (Same.new hp2)).trans (Same.new hp3)
    have e2 : upd (upd (upd H p1 (.lst ((ns.take 63).map V.int))) p2 (.lst ((ns.take 63).map V.int))) p3 (.lst []) p2 = some (.lst ((ns.take 63).map V.int)) := Same.new hp3 _ _ upd_same
    have e3 : upd (upd (upd H p1 (.lst ((ns.take 63).map V.int))) p2 (.lst ((ns.take 63).map V.int))) p3 (.lst []) p3 = some (.lst (([] : List Int).map V.int)) := upd_same
    have f2 : H p2 = none := (Same.new hp1).free hp2
    generalize upd (upd (upd H p1 (.lst ((ns.take 63).map V.int))) p2 (.lst ((ns.take 63).map V.int))) p3 (.lst []) = H3 at s3 e2 e3 ⊢
    refine ⟨_, _, dp_lst e2, dp_lst e3, shaped_ints _, shaped_ints _, _, rfl, ?_⟩
    cases hms : ns.take 63 with
    | nil =>
      refine iteT ⟨len1, fun p4 hp4 => disp_st (ns := [7]) upd_same (by simp) (by simp) rfl fun d H' hd sm st => k d p4 H' (s3.trans ((Same.new hp4).trans sm)) ((s3.trans (Same.new hp4)).free hd) (s3.free hp4) st⟩
    | cons m ms =>
      refine iteF (disp_st (ns := ns.take 63) e2 (by rw [hms]; simp) (by rw [List.length_take]; omega) rfl fun d H' hd sm st => k d p2 H' (s3.trans sm) (s3.free hd) f2 st)
theorem ok_same {f : Addr} {fd : FuncData} (D_same : Df K mg "_law_same" s_same ["_law_found", "_law_due"] f fd) (Z : Zs mg) : ∀ m : Nat, FnOk P w K mg base CX0 m f fd ["_law_found", "_law_due"] (spSame m)
  | 0 => ⟨fun vs H Q E h => by obtain ⟨x, y, rfl, h, _⟩ := h; exact False.elim h, fun A o s H a us vs Q E _ _ _ _ h => by obtain ⟨x, y, rfl, h, _⟩ := h; exact False.elim h⟩
  | m + 1 => by
    have G_same := ok_same D_same Z m
    refine D_same.F.ok sc_same (fun vs H Q E h => ?_) (fun cdv A outer s H vs Q E hr h => ?_)
    · obtain ⟨x, y, rfl, _⟩ := h
      rfl
    · obtain ⟨x, y, rfl, h, k⟩ := h
      refine ⟨_, (pss_cons (ps_if (pt_cmpR op_isN (pv 1) pe_non (nomark _)) (pss_one (ps_ret (pe_cmpR op_isN (pv 0) pe_non (nomark _)))) pss_nil)
      (pss_cons (ps_if (pt_val (pe_callB call_isi (by rfl) Z.z_isinstance (by decide +kernel) (pa_cons (pv 1) (pa_cons (pe_bltn (v := .ty "dict") (u := .type "dict") (by rfl) Z.z_dict (by decide +kernel) rfl) pa_nil st_Name) st_Name))) pss_never pss_nil)
      (pss_cons (ps_if (PW.pt (pw_or (pt_val (pe_callB call_isi (by rfl) Z.z_isinstance (by decide +kernel) (pa_cons (pv 1) (pa_cons (pe_bltn (v := .ty "list") (u := .type "list") (by rfl) Z.z_list (by decide +kernel) rfl) pa_nil st_Name) st_Name))) (pw_or1 (pt_val (pe_callB call_isi (by rfl) Z.z_isinstance (by decide +kernel) (pa_cons (pv 1) (pa_cons (pe_bltn (v := .ty "tuple") (u := .type "tuple") (by rfl) Z.z_tuple (by decide +kernel) rfl) pa_nil st_Name) st_Name)))))) (pss_cons (ps_if (pt_cmpR op_ne (pe_callB call_isi (by rfl) Z.z_isinstance (by decide +kernel) (pa_cons (pv 0) (pa_cons (pe_bltn (v := .ty "list") (u := .type "list") (by rfl) Z.z_list (by decide +kernel) rfl) pa_nil st_Name) st_Name)) (pe_callB call_isi (by rfl) Z.z_isinstance (by decide +kernel) (pa_cons (pv 1) (pa_cons (pe_bltn (v := .ty "list") (u := .type "list") (by rfl) Z.z_list (by decide +kernel) rfl) pa_nil st_Name) st_Name)) (nomark _)) (pss_one (ps_ret pe_bl)) pss_nil)
      (pss_cons (ps_if (PW.pt (pw_or (pt_cmpR op_ne (pe_callB call_isi (by rfl) Z.z_isinstance (by decide +kernel) (pa_cons (pv 0) (pa_cons (pe_bltn (v := .ty "tuple") (u := .type "tuple") (by rfl) Z.z_tuple (by decide +kernel) rfl) pa_nil st_Name) st_Name)) (pe_callB call_isi (by rfl) Z.z_isinstance (by decide +kernel) (pa_cons (pv 1) (pa_cons (pe_bltn (v := .ty "tuple") (u := .type "tuple") (by rfl) Z.z_tuple (by decide +kernel) rfl) pa_nil st_Name) st_Name)) (nomark _)) (pw_or1 (pt_cmpR op_ne (pe_callB call_lenQ (by rfl) Z.z_len (by decide +kernel) (pa_cons (pv 0) pa_nil st_Name)) (pe_callB call_lenQ (by rfl) Z.z_len (by decide +kernel) (pa_cons (pv 1) pa_nil st_Name)) (nomark _))))) (pss_one (ps_ret pe_bl)) pss_nil)
      (pss_one (ps_ret (pe_callB (cr_all rfl) (by rfl) Z.z_all (by decide +kernel) (pa_cons (pe_lc (own := [("_law_one", 3), ("_law_other", 4)]) (g := (gTup K 2 (gCons (gName 3) (gCons (gName 4) gNil)))) (by rfl) sc_same.nd (pi_zipQ (by rfl) Z.z_zip (pa_cons (pv 0) (pa_cons (pv 1) pa_nil st_Name) st_Name)) (blkOk_by (own := [("_law_one", 3), ("_law_other", 4)]) (N := N_same) (sc := defScope s_same) (by decide +kernel)) (fun _ _ _ _ _ => (pg_tup (by rfl) (pgs_cons (pg_name (i := 3) sc_same.nd rfl (Or.inl rfl)) (pgs_cons (pg_name (i := 4) sc_same.nd rfl (Or.inl rfl)) pgs_nil)))) (fun _ _ _ _ _ => pts_nil) (fun _ _ _ _ _ => (pe_call G_same hr (by rfl) D_same.m D_same.F.kp D_same.b .nil pass0 (pa_cons (pv 3) (pa_cons (pv 4) pa_nil st_Name) st_Name)))) pa_nil st_ListComp)))))) pss_nil)
      (pss_cons (ps_if (pt_val (pe_callB call_isi (by rfl) Z.z_isinstance (by decide +kernel) (pa_cons (pv 1) (pa_cons (pe_bltn (v := .ty "str") (u := .type "str") (by rfl) Z.z_str (by decide +kernel) rfl) pa_nil st_Name) st_Name))) (pss_one (ps_ret (pe_and (pe_callB call_isi (by rfl) Z.z_isinstance (by decide +kernel) (pa_cons (pv 0) (pa_cons (pe_bltn (v := .ty "str") (u := .type "str") (by rfl) Z.z_str (by decide +kernel) rfl) pa_nil st_Name) st_Name)) (pe_one (pe_cmpR op_eq (pv 0) (pv 1) (nomark _)))))) pss_nil)
      (pss_one (ps_ret (pe_and (pe_callB call_isi (by rfl) Z.z_isinstance (by decide +kernel) (pa_cons (pv 0) (pa_cons (pe_bltn (v := .ty "int") (u := .type "int") (by rfl) Z.z_int (by decide +kernel) rfl) pa_nil st_Name) st_Name)) (pe_and (pe_not (pe_callB call_isi (by rfl) Z.z_isinstance (by decide +kernel) (pa_cons (pv 0) (pa_cons (pe_bltn (v := .ty "bool") (u := .type "bool") (by rfl) Z.z_bool (by decide +kernel) rfl) pa_nil st_Name) st_Name))) (pe_one (pe_cmpR op_eq (pv 0) (pv 1) (nomark _))))))))))), ?_⟩
      rw [show start N_same [x, y] = [some (x), some (y), none, none, none] from rfl]
      rcases h with ⟨rfl, rfl⟩ | ⟨i, rfl, rfl⟩ | ⟨i, rfl, rfl⟩ | ⟨a, b, xs, ys, rfl, rfl, h, hn, hl, he⟩
      · walk_at "rd"
        exact k H (Same.refl H)
      · walk_at "rd"
        refine isi (.int i) kt_int_dict ?_
        walk_at "rd"
        refine isi (.int i) kt_int_list ?_
        walk_at "rd"
        refine isi (.int i) kt_int_tuple ?_
        walk_at "rd"
        refine isi (.int i) kt_int_str ?_
        walk_at "rd"
        refine isi (.int i) kt_int_int ?_
        walk_at "rd"
        refine isi (.int i) kt_int_bool ?_
        walk_at "rd"
        exact ⟨rfl, k H (Same.refl H)⟩
      · walk_at "rd"
        refine isi (.str i) kt_str_dict ?_
        walk_at "rd"
        refine isi (.str i) kt_str_list ?_
        walk_at "rd"
        refine isi (.str i) kt_str_tuple ?_
        walk_at "rd"
        refine isi (.str i) kt_str_str ?_
        walk_at "rd"
        refine isi (.str i) kt_str_str ?_
        walk_at "rd"
        exact ⟨rfl, k H (Same.refl H)⟩
      · walk_at "rd"
        rcases h with ⟨ha, hb⟩ | ⟨ha, hb⟩
        · refine isi (.lst hb) kt_list_dict ?_
          walk_at "rd"
          refine isi (.lst hb) kt_list_list ?_
          walk_at "rd"
          refine isi (.lst ha) kt_list_list ?_
          walk_at "rd"
          refine isi (.lst hb) kt_list_list ?_
          walk_at "rd"
          refine ⟨rfl, isi (.lst ha) kt_list_tuple ?_⟩
          walk_at "rd"
          refine isi (.lst hb) kt_list_tuple ?_
          walk_at "rd"
          refine ⟨rfl, a, _, rfl, Sq.l ha, b, _, rfl, Sq.l hb, rfl, ?_⟩
          rw [hn]
          walk_at "rd"
          refine Or.inl ⟨_, SqL.of ha, _, SqL.of hb, ?_⟩
          refine lc_z hn fun D hD => ⟨fun i H2 => Same H H2 ∧ H2 D = some (.lst ((List.replicate i true).map V.bl)), ⟨Same.new hD, upd_same⟩, fun i H2 h2 => ⟨SqL.of (h2.1 _ _ ha), SqL.of (h2.1 _ _ hb)⟩, ?_, ?_⟩
          · intro i u v T H2 hx hy h2 hT
            refine gtup upd_same rfl ?_
            walk_at "rd"
            refine ⟨_, _, rfl, EqA.same (h2.1.trans (Same.new hT)) (he i u v hx hy), fun H3 s3 => ⟨_, s3 _ _ (Same.new hT _ _ h2.2), ?_, ?_, ?_⟩⟩
            · rw [List.length_map, List.length_replicate]
              exact Nat.lt_of_lt_of_le (Nat.lt_trans (List.getElem?_eq_some_iff.mp hx).1 hl) (by decide)
            · exact Same.upd ((h2.1.trans (Same.new hT)).trans s3) hD
            · rw [upd_same, List.replicate_succ', List.map_append]
              rfl
          · intro H2 h2
            walk_at "rd"
            refine ⟨D, _, rfl, SqL.of h2.2, ?_⟩
            rw [all_true]
            exact k H2 h2.1
        · refine isi (.tup hb) kt_tuple_dict ?_
          walk_at "rd"
          refine isi (.tup hb) kt_tuple_list ?_
          walk_at "rd"
          refine isi (.tup hb) kt_tuple_tuple ?_
          walk_at "rd"
          refine isi (.tup ha) kt_tuple_list ?_
          walk_at "rd"
          refine isi (.tup hb) kt_tuple_list ?_
          walk_at "rd"
          refine ⟨rfl, isi (.tup ha) kt_tuple_tuple ?_⟩
          walk_at "rd"
          refine isi (.tup hb) kt_tuple_tuple ?_
          walk_at "rd"
          refine ⟨rfl, a, _, rfl, Sq.t ha, b, _, rfl, Sq.t hb, rfl, ?_⟩
          rw [hn]
          walk_at "rd"
          refine Or.inr ⟨_, SqT.of ha, _, SqT.of hb, ?_⟩
          refine lc_zT hn fun D hD => ⟨fun i H2 => Same H H2 ∧ H2 D = some (.lst ((List.replicate i true).map V.bl)), ⟨Same.new hD, upd_same⟩, fun i H2 h2 => ⟨SqT.of (h2.1 _ _ ha), SqT.of (h2.1 _ _ hb)⟩, ?_, ?_⟩
          · intro i u v T H2 hx hy h2 hT
            refine gtup upd_same rfl ?_
            walk_at "rd"
            refine ⟨_, _, rfl, EqA.same (h2.1.trans (Same.new hT)) (he i u v hx hy), fun H3 s3 => ⟨_, s3 _ _ (Same.new hT _ _ h2.2), ?_, ?_, ?_⟩⟩
            · rw [List.length_map, List.length_replicate]
              exact Nat.lt_of_lt_of_le (Nat.lt_trans (List.getElem?_eq_some_iff.mp hx).1 hl) (by decide)
            · exact Same.upd ((h2.1.trans (Same.new hT)).trans s3) hD
            · rw [upd_same, List.replicate_succ', List.map_append]
              rfl
          · intro H2 h2
            walk_at "rd"
            refine ⟨D, _, rfl, SqL.of h2.2, ?_⟩
            rw [all_true]
            exact k H2 h2.1
theorem okd_p_Room___init__ {j : Nat} {f : Addr} {fd : FuncData} (F : Fun K "__init__" "Room.__init__" s_p_Room___init__ f fd) (Z : Zs mg) (es : Es K P mg) : FnOk P w K mg base CX0 (j + 1) f fd ["self", "most"] (spD K (dsRmInit es.Room)) := by
  refine fnD F sc_p_Room___init__ (fun args b k kx h => ?_) fun cdv A outer s H E c hK hr => ⟨_, (s_cons (s_fldM es.cl_Room es.na_Room_most_rows (d_var (pv 1)) (d_var (pv 0)))
      (s_cons (s_fldM es.cl_Room es.na_Room_held_rows d_int (d_var (pv 0)))
      (s_one (s_fldM es.cl_Room es.na_Room_peak_rows d_int (d_var (pv 0)))))), ?_⟩
  · obtain ⟨p, m, rfl, hp, hk⟩ := h
    rfl
  rintro args b k kx ⟨p, m, rfl, hp, hk⟩
  rw [show startS N_p_Room___init__.length [.val (.fn p), .val (.int m)] = [.val (.fn p), .val (.int m)] from rfl]
  walk_at "qd"
  refine ⟨_, hp, (show 0 < 50 by decide), put_step ⟨trivial, trivial⟩ fun b1 P1 => ?_⟩
  walk_at "qd"
  refine ⟨_, P1.at_, (show 1 < 50 by decide), put_step ⟨trivial, trivial, trivial⟩ fun b2 P2 => ?_⟩
  walk_at "qd"
  refine ⟨_, P2.at_, (show 2 < 50 by decide), put_step ⟨trivial, trivial, trivial, trivial⟩ fun b3 P3 => ?_⟩
  exact hk b3 ((P1.trans P2).trans P3)
theorem okd_p_Room_hold {j : Nat} {f : Addr} {fd : FuncData} (F : Fun K "hold" "Room.hold" s_p_Room_hold f fd) (Z : Zs mg) (es : Es K P mg) : FnOk P w K mg base (Xc.CXE P w) (j + 1) f fd ["self", "many"] (spDx K (dsHold es.Room es.NoRoom)) := by
  refine fnDx F sc_p_Room_hold (fun args b k kx h => ?_) fun cdv A outer s H E c kx hK hr hx => ⟨_, (s_cons (s_if (t_cmpK c_gt (d_add (d_fldM es.cl_Room es.na_Room_held_rows (d_var (pv 0))) (d_var (pv 1))) (d_fldM es.cl_Room es.na_Room_most_rows (d_var (pv 0))) (nomark _)) (s_one (s_raise0 hx rfl es.c_NoRoom (by rfl) hr (a_cons d_str a_nil st_Constant))) s_nil)
      (s_cons (s_augM es.cl_Room es.na_Room_held_rows pip_add (ln_I0 fun _ _ _ => .int _) (d_var (pv 0)) (d_var (pv 1)))
      (s_one (s_fldM es.cl_Room es.na_Room_peak_rows (d_cbK (k_max2 rfl) (by rfl) Z.z_max (by decide +kernel) (a_cons (d_fldM es.cl_Room es.na_Room_peak_rows (d_var (pv 0))) (a_cons (d_fldM es.cl_Room es.na_Room_held_rows (d_var (pv 0))) a_nil st_Attribute) st_Attribute)) (d_var (pv 0)))))), ?_⟩
  · obtain ⟨p, n, mo, he, pk, rfl, hp, hk, hx⟩ := h
    rfl
  rintro args b k ⟨p, n, mo, he, pk, rfl, hp, hk, hx⟩
  rw [show startS N_p_Room_hold.length [.val (.fn p), .val (.int n)] = [.val (.fn p), .val (.int n)] from rfl]
  walk_at "qd"
  refine ⟨_, hp, _, rfl, ?_⟩
  walk_at "qd"
  refine ⟨_, hp, _, rfl, ?_⟩
  walk_at "qd"
  refine ite2 (fun h => ?_) fun h => ?_
  · exact hx h
  refine ⟨_, hp, _, rfl, ?_⟩
  walk_at "qd"
  refine ⟨_, hp, (show 3 < 50 by decide), put_step sto_rm fun b1 P1 => ?_⟩
  walk_at "qd"
  refine ⟨_, P1.at_, _, rfl, ?_⟩
  walk_at "qd"
  refine ⟨_, P1.at_, _, rfl, ?_⟩
  walk_at "qd"
  refine ⟨_, P1.at_, (show 3 < 50 by decide), put_step sto_rm fun b2 P2 => ?_⟩
  exact hk (by omega) b2 (P1.trans P2)
theorem okd_p_Room_free {j : Nat} {f : Addr} {fd : FuncData} (F : Fun K "free" "Room.free" s_p_Room_free f fd) (Z : Zs mg) (es : Es K P mg) : FnOk P w K mg base (Xc.CXE P w) (j + 1) f fd ["self", "many"] (spDx K (dsFree es.Room es.NoRoom)) := by
  refine fnDx F sc_p_Room_free (fun args b k kx h => ?_) fun cdv A outer s H E c kx hK hr hx => ⟨_, (s_cons (s_if (t_cmpK c_gt (d_var (pv 1)) (d_fldM es.cl_Room es.na_Room_held_rows (d_var (pv 0))) (nomark _)) (s_one (s_raise0 hx rfl es.c_NoRoom (by rfl) hr (a_cons d_str a_nil st_Constant))) s_nil)
      (s_one (s_augM es.cl_Room es.na_Room_held_rows pip_sub (ln_I0 fun _ _ _ => .int _) (d_var (pv 0)) (d_var (pv 1))))), ?_⟩
  · obtain ⟨p, n, mo, he, pk, rfl, hp, hk, hx⟩ := h
    rfl
  rintro args b k ⟨p, n, mo, he, pk, rfl, hp, hk, hx⟩
  rw [show startS N_p_Room_free.length [.val (.fn p), .val (.int n)] = [.val (.fn p), .val (.int n)] from rfl]
  walk_at "qd"
  refine ⟨_, hp, _, rfl, ?_⟩
  walk_at "qd"
  refine ite2 (fun h => ?_) fun h => ?_
  · exact hx h
  refine ⟨_, hp, _, rfl, ?_⟩
  walk_at "qd"
  refine ⟨_, hp, (show 3 < 50 by decide), put_step sto_rm fun b1 P1 => ?_⟩
  exact hk (by omega) b1 P1
theorem okd_p_Room_most {j : Nat} {f : Addr} {fd : FuncData} (F : Fun K "most" "Room.most" s_p_Room_most f fd) (Z : Zs mg) (es : Es K P mg) : FnOk P w K mg base CX0 (j + 1) f fd ["self"] (spD K (dsRm es.Room fun mo _ _ => mo)) := by
  refine fnD F sc_p_Room_most (fun args b k kx h => ?_) fun cdv A outer s H E c hK hr => ⟨_, (s_one (s_ret (d_fldM es.cl_Room es.na_Room_most_rows (d_var (pv 0))))), ?_⟩
  · obtain ⟨p, mo, he, pk, rfl, hp, hk⟩ := h
    rfl
  rintro args b k kx ⟨p, mo, he, pk, rfl, hp, hk⟩
  rw [show startS N_p_Room_most.length [.val (.fn p)] = [.val (.fn p)] from rfl]
  walk_at "qd"
  refine ⟨_, hp, _, rfl, ?_⟩
  exact hk
theorem okd_p_Room_held {j : Nat} {f : Addr} {fd : FuncData} (F : Fun K "held" "Room.held" s_p_Room_held f fd) (Z : Zs mg) (es : Es K P mg) : FnOk P w K mg base CX0 (j + 1) f fd ["self"] (spD K (dsRm es.Room fun _ he _ => he)) := by
  refine fnD F sc_p_Room_held (fun args b k kx h => ?_) fun cdv A outer s H E c hK hr => ⟨_, (s_one (s_ret (d_fldM es.cl_Room es.na_Room_held_rows (d_var (pv 0))))), ?_⟩
  · obtain ⟨p, mo, he, pk, rfl, hp, hk⟩ := h
    rfl
  rintro args b k kx ⟨p, mo, he, pk, rfl, hp, hk⟩
  rw [show startS N_p_Room_held.length [.val (.fn p)] = [.val (.fn p)] from rfl]
  walk_at "qd"
  refine ⟨_, hp, _, rfl, ?_⟩
  exact hk
theorem okd_p_Room_peak {j : Nat} {f : Addr} {fd : FuncData} (F : Fun K "peak" "Room.peak" s_p_Room_peak f fd) (Z : Zs mg) (es : Es K P mg) : FnOk P w K mg base CX0 (j + 1) f fd ["self"] (spD K (dsRm es.Room fun _ _ pk => pk)) := by
  refine fnD F sc_p_Room_peak (fun args b k kx h => ?_) fun cdv A outer s H E c hK hr => ⟨_, (s_one (s_ret (d_fldM es.cl_Room es.na_Room_peak_rows (d_var (pv 0))))), ?_⟩
  · obtain ⟨p, mo, he, pk, rfl, hp, hk⟩ := h
    rfl
  rintro args b k kx ⟨p, mo, he, pk, rfl, hp, hk⟩
  rw [show startS N_p_Room_peak.length [.val (.fn p)] = [.val (.fn p)] from rfl]
  walk_at "qd"
  refine ⟨_, hp, _, rfl, ?_⟩
  exact hk
theorem okd_tried {j : Nat} {f : Addr} {fd : FuncData} {f_p_Room_hold : Addr} {fd_p_Room_hold : FuncData} {f_p_Room_free : Addr} {fd_p_Room_free : FuncData} (F : Fun K "_law_tried" "_law_tried" s_tried f fd) (Z : Zs mg) (es : Es K P mg) (D_p_Room_hold : Dd.DfM K es.Room "hold" "Room.hold" s_p_Room_hold ["self", "many"] f_p_Room_hold fd_p_Room_hold) (G_p_Room_hold : FnOk P w K mg base (Xc.CXE P w) j f_p_Room_hold fd_p_Room_hold ["self", "many"] (spDx K (dsHold es.Room es.NoRoom))) (D_p_Room_free : Dd.DfM K es.Room "free" "Room.free" s_p_Room_free ["self", "many"] f_p_Room_free fd_p_Room_free) (G_p_Room_free : FnOk P w K mg base (Xc.CXE P w) j f_p_Room_free fd_p_Room_free ["self", "many"] (spDx K (dsFree es.Room es.NoRoom))) : FnOk P w K mg base CX0 (j + 1) f fd ["_law_room", "_law_way", "_law_many"] (spD K (dsRmTried es.Room)) := by
  refine fnD F sc_tried (fun args b k kx h => ?_) fun cdv A outer s H E c hK hr => ⟨_, (s_cons (s_set (i := 3) sc_tried.nd rfl (Or.inl rfl) d_non)
      (s_cons (s_try (i := 4) rfl rfl hK (by rfl) es.t_StoreError sc_tried.nd rfl rfl (fun c pn xe kx hK hx hp => (s_one (s_if (t_cmpK (c_eq hK hr.units) (d_var (pv 1)) d_int (nomark _)) (s_one (s_expr (d_methMX hK es.cl_Room D_p_Room_hold.me G_p_Room_hold hr D_p_Room_hold.b hx (d_var (pv 0)) (a_cons (d_var (pv 2)) a_nil st_Name)))) (s_one (s_expr (d_methMX hK es.cl_Room D_p_Room_free.me G_p_Room_free hr D_p_Room_free.b hx (d_var (pv 0)) (a_cons (d_var (pv 2)) a_nil st_Name)))))))
      (fun _ => (s_one (s_set (i := 3) sc_tried.nd rfl (Or.inl rfl) (d_var (pv 4))))))
      (s_cons (s_if (t_cmpK c_is (d_var (pv 3)) d_non (nomark _)) (s_one (s_ret d_str)) s_nil)
      (s_cons (s_if (PWd.pt (w_or (t_not (t_val (d_cbK (k_isiE hK) (by rfl) Z.z_isinstance (by decide +kernel) (a_cons (d_var (pv 3)) (a_cons (d_cls (by rfl) es.t_NoRoom) a_nil st_Name) st_Name)))) (w_or1 (t_not (t_val (d_isiV (T := "ValueError") hK (by rfl) Z.z_isinstance (by decide +kernel) (d_var (pv 3)) (pe_bltn (v := .ty "ValueError") (u := .type "ValueError") (by rfl) Z.z_ValueError (by decide +kernel) rfl) st_Name)))))) (s_one (s_ret d_str)) s_nil)
      (s_cons (s_if (t_val (d_cbK (k_isiE hK) (by rfl) Z.z_isinstance (by decide +kernel) (a_cons (d_var (pv 3)) (a_cons (d_tup (a_cons (d_cls (by rfl) es.t_BadBytes) (a_cons (d_cls (by rfl) es.t_BadRow) (a_cons (d_cls (by rfl) es.t_BadText) (a_cons (d_cls (by rfl) es.t_NoFile) (a_cons (d_cls (by rfl) es.t_NoHeap) (a_cons (d_cls (by rfl) es.t_NoMoment) (a_cons (d_cls (by rfl) es.t_NoName) (a_cons (d_cls (by rfl) es.t_NoPart) a_nil st_Name) st_Name) st_Name) st_Name) st_Name) st_Name) st_Name) st_Name)) a_nil st_Tuple) st_Name))) (s_one (s_ret d_str)) s_nil)
      (s_one (s_ret (d_ix hK (d_lst (a_cons d_str (a_cons d_str a_nil st_Constant) st_Constant)) (d_ctK (k_int) (by rfl) Z.z_int (by decide +kernel) (a_cons (d_cbK (k_isiE hK) (by rfl) Z.z_isinstance (by decide +kernel) (a_cons (d_var (pv 3)) (a_cons (d_tup (a_cons (d_cls (by rfl) es.t_NoRow) (a_cons (d_cls (by rfl) es.t_NotSound) (a_cons (d_cls (by rfl) es.t_Taken) a_nil st_Name) st_Name) st_Name)) a_nil st_Tuple) st_Name)) a_nil st_Call)) (fun _ _ => rfl))))))))), ?_⟩
  · obtain ⟨p, y, n, mo, he, pk, rfl, hw, hp, hk, hx⟩ := h
    rfl
  rintro args b k kx ⟨p, y, n, mo, he, pk, rfl, hw, hp, hk, hx⟩
  rw [show startS N_tried.length [.val (.fn p), .val (.int y), .val (.int n)] = [.val (.fn p), .val (.int y), .val (.int n), .no, .no] from rfl]
  walk_at "qd"
  refine ite2 (fun h => ?_) fun h => ?_
  · simp only [if_pos h] at hk hx
    refine ⟨_, hp, rfl, p, n, mo, he, pk, rfl, hp, fun hle b1 P1 => ?_, fun hlt => ?_⟩
    · walk_at "qd"
      exact hk (by omega) b1 P1
    refine ⟨es.m_top, ?_⟩
    walk_at "qd"
    refine isi1 es.a_NoRoom es.i_NoRoom ?_
    walk_at "qd"
    refine ⟨es.a_NoRoom, _, es.i_val, ?_⟩
    rw [if_neg (by decide)]
    refine isiT (Cs := [es.BadBytes, es.BadRow, es.BadText, es.NoFile, es.NoHeap, es.NoMoment, es.NoName, es.NoPart]) es.a_NoRoom es.i_any1 ?_
    walk_at "qd"
    refine isiT (Cs := [es.NoRow, es.NotSound, es.Taken]) es.a_NoRoom es.i_any2 ?_
    walk_at "qd"
    exact ⟨_, rfl, hx (by omega)⟩
  · simp only [if_neg h] at hk hx
    refine ⟨_, hp, rfl, p, n, mo, he, pk, rfl, hp, fun hle b1 P1 => ?_, fun hlt => ?_⟩
    · walk_at "qd"
      exact hk (by omega) b1 P1
    refine ⟨es.m_top, ?_⟩
    walk_at "qd"
    refine isi1 es.a_NoRoom es.i_NoRoom ?_
    walk_at "qd"
    refine ⟨es.a_NoRoom, _, es.i_val, ?_⟩
    rw [if_neg (by decide)]
    refine isiT (Cs := [es.BadBytes, es.BadRow, es.BadText, es.NoFile, es.NoHeap, es.NoMoment, es.NoName, es.NoPart]) es.a_NoRoom es.i_any1 ?_
    walk_at "qd"
    refine isiT (Cs := [es.NoRow, es.NotSound, es.Taken]) es.a_NoRoom es.i_any2 ?_
    walk_at "qd"
    exact ⟨_, rfl, hx (by omega)⟩
theorem okd_as_counted {j : Nat} {f : Addr} {fd : FuncData} {f_same : Addr} {fd_same : FuncData} {f_p_Room_peak : Addr} {fd_p_Room_peak : FuncData} {f_p_Room_held : Addr} {fd_p_Room_held : FuncData} {f_p_Room_most : Addr} {fd_p_Room_most : FuncData} (F : Fun K "_law_as_counted" "_law_as_counted" s_as_counted f fd) (Z : Zs mg) (es : Es K P mg) (D_same : Df K mg "_law_same" s_same ["_law_found", "_law_due"] f_same fd_same) (G_same : FnOk P w K mg base CX0 j f_same fd_same ["_law_found", "_law_due"] (spD K (liftD (dsSame 4)))) (D_p_Room_peak : Dd.DfM K es.Room "peak" "Room.peak" s_p_Room_peak ["self"] f_p_Room_peak fd_p_Room_peak) (G_p_Room_peak : FnOk P w K mg base CX0 j f_p_Room_peak fd_p_Room_peak ["self"] (spD K (dsRm es.Room fun _ _ pk => pk))) (D_p_Room_held : Dd.DfM K es.Room "held" "Room.held" s_p_Room_held ["self"] f_p_Room_held fd_p_Room_held) (G_p_Room_held : FnOk P w K mg base CX0 j f_p_Room_held fd_p_Room_held ["self"] (spD K (dsRm es.Room fun _ he _ => he))) (D_p_Room_most : Dd.DfM K es.Room "most" "Room.most" s_p_Room_most ["self"] f_p_Room_most fd_p_Room_most) (G_p_Room_most : FnOk P w K mg base CX0 j f_p_Room_most fd_p_Room_most ["self"] (spD K (dsRm es.Room fun mo _ _ => mo))) : FnOk P w K mg base CX0 (j + 1) f fd ["_law_room", "_law_own"] (spD K (dsRmCounted es.Room)) := by
  refine fnD F sc_as_counted (fun args b k kx h => ?_) fun cdv A outer s H E c hK hr => ⟨_, (s_one (s_ret (d_call (kx := fun _ _ => False) hK G_same hr (by rfl) D_same.m D_same.F.kp D_same.b pass0 (a_cons (d_lst (a_cons (d_methM0 (kx := fun _ _ => False) hK es.cl_Room D_p_Room_most.me G_p_Room_most hr D_p_Room_most.b pass0 (d_var (pv 0))) (a_cons (d_methM0 (kx := fun _ _ => False) hK es.cl_Room D_p_Room_held.me G_p_Room_held hr D_p_Room_held.b pass0 (d_var (pv 0))) (a_cons (d_methM0 (kx := fun _ _ => False) hK es.cl_Room D_p_Room_peak.me G_p_Room_peak hr D_p_Room_peak.b pass0 (d_var (pv 0))) a_nil st_Call) st_Call) st_Call)) (a_cons (d_var (pv 1)) a_nil st_Name) st_List)))), ?_⟩
  · obtain ⟨p, mo, he, pk, rfl, hp, hk⟩ := h
    rfl
  rintro args b k kx ⟨p, mo, he, pk, rfl, hp, hk⟩
  rw [show startS N_as_counted.length [.val (.fn p), .val (.lst [.int mo, .int he, .int pk])] = [.val (.fn p), .val (.lst [.int mo, .int he, .int pk])] from rfl]
  walk_at "qd"
  refine ⟨_, hp, rfl, p, mo, he, pk, rfl, hp, ?_⟩
  walk_at "qd"
  refine ⟨_, hp, rfl, p, mo, he, pk, rfl, hp, ?_⟩
  walk_at "qd"
  refine ⟨_, hp, rfl, p, mo, he, pk, rfl, hp, ?_⟩
  walk_at "qd"
  refine ⟨_, _, _, rfl, rfl, rfl, sam_ints3, nOf_b, ?_⟩
  walk_at "qd"
  exact hk
theorem okd_p_law {j : Nat} {f : Addr} {fd : FuncData} {f_begin : Addr} {fd_begin : FuncData} {f_take : Addr} {fd_take : FuncData} {f_as_counted : Addr} {fd_as_counted : FuncData} {f_tried : Addr} {fd_tried : FuncData} {f_p_Room___init__ : Addr} {fd_p_Room___init__ : FuncData} (F : Fun K "law" "law" s_p_law f fd) (Z : Zs mg) (es : Es K P mg) (D_begin : Df K mg "_law_begin" s_begin ["_law_script"] f_begin fd_begin) (G_begin : FnOk P w K mg base CX0 (j + 1) f_begin fd_begin ["_law_script"] (spBegin K)) (D_take : Df K mg "_law_take" s_take ["_law_state", "_law_many"] f_take fd_take) (G_take : FnOk P w K mg base CX0 (j + 1) f_take fd_take ["_law_state", "_law_many"] (spD K (liftD dsTake))) (D_as_counted : Df K mg "_law_as_counted" s_as_counted ["_law_room", "_law_own"] f_as_counted fd_as_counted) (G_as_counted : FnOk P w K mg base CX0 (j + 1) f_as_counted fd_as_counted ["_law_room", "_law_own"] (spD K (dsRmCounted es.Room))) (D_tried : Df K mg "_law_tried" s_tried ["_law_room", "_law_way", "_law_many"] f_tried fd_tried) (G_tried : FnOk P w K mg base CX0 (j + 1) f_tried fd_tried ["_law_room", "_law_way", "_law_many"] (spD K (dsRmTried es.Room))) (D_p_Room___init__ : Dd.DfI K es.Room "Room.__init__" s_p_Room___init__ ["self", "most"] f_p_Room___init__ fd_p_Room___init__) (G_p_Room___init__ : FnOk P w K mg base CX0 j f_p_Room___init__ fd_p_Room___init__ ["self", "most"] (spD K (dsRmInit es.Room))) : FnOk P w K mg base CX0 (j + 2) f fd ["_law_script"] (spLawD K) := by
  refine lawD F sc_p_law (n := 13) rfl rfl fun cdv A outer s H E hr => ⟨ps_set (i := 1) sc_p_law.nd rfl (Or.inl rfl) (pe_call G_begin hr (by rfl) D_begin.m D_begin.F.kp D_begin.b .nil pass0 (pa_cons (pv 0) pa_nil st_Name)), _, fun c hK => (s_cons (s_set (i := 2) sc_p_law.nd rfl (Or.inl rfl) (d_lst a_nil))
      (s_cons (s_set (i := 3) sc_p_law.nd rfl (Or.inl rfl) (d_lst a_nil))
      (s_cons (s_for PassesOwn.never rfl (f_range1 (by rfl) Z.z_range (a_cons (d_add d_int (d_call (kx := fun _ _ => False) hK G_take hr (by rfl) D_take.m D_take.F.kp D_take.b pass0 (a_cons (d_var (pv 1)) (a_cons d_int a_nil st_Constant) st_Name))) a_nil st_BinOp)) (g_name (pg_name (i := 4) sc_p_law.nd rfl (Or.inl rfl))) (s_cons (s_set (i := 5) sc_p_law.nd rfl (Or.inl rfl) (d_ix hK (d_lst (a_cons d_int (a_cons d_int (a_cons d_int (a_cons (d_add d_int (d_call (kx := fun _ _ => False) hK G_take hr (by rfl) D_take.m D_take.F.kp D_take.b pass0 (a_cons (d_var (pv 1)) (a_cons d_int a_nil st_Constant) st_Name))) (a_cons d_int a_nil st_Constant) st_BinOp) st_Constant) st_Constant) st_Constant)) (d_call (kx := fun _ _ => False) hK G_take hr (by rfl) D_take.m D_take.F.kp D_take.b pass0 (a_cons (d_var (pv 1)) (a_cons d_int a_nil st_Constant) st_Name)) (fun _ _ => rfl)))
      (s_cons (s_app (pv 2) (d_makeM (kx := fun _ _ => False) hK D_p_Room___init__.mkf G_p_Room___init__ cxs0 hr (by rfl) es.m_Room D_p_Room___init__.b pass0 (a_cons (d_var (pv 5)) a_nil st_Name)) st_Call)
      (s_one (s_app (pv 3) (d_lst (a_cons (d_var (pv 5)) (a_cons d_int (a_cons d_int a_nil st_Constant) st_Constant) st_Name)) st_List)))))
      (s_cons (s_for PassesOwn.never rfl (f_range1 (by rfl) Z.z_range (a_cons (d_add d_int (d_call (kx := fun _ _ => False) hK G_take hr (by rfl) D_take.m D_take.F.kp D_take.b pass0 (a_cons (d_var (pv 1)) (a_cons d_int a_nil st_Constant) st_Name))) a_nil st_BinOp)) (g_name (pg_name (i := 4) sc_p_law.nd rfl (Or.inl rfl))) (s_cons (s_set (i := 6) sc_p_law.nd rfl (Or.inl rfl) (d_call (kx := fun _ _ => False) hK G_take hr (by rfl) D_take.m D_take.F.kp D_take.b pass0 (a_cons (d_var (pv 1)) (a_cons (d_cbK (k_len hK) (by rfl) Z.z_len (by decide +kernel) (a_cons (d_var (pv 2)) a_nil st_Name)) a_nil st_Call) st_Name)))
      (s_cons (s_asg (d_ix hK (d_var (pv 3)) (d_var (pv 6)) (fun _ _ => rfl)) (g_tupL (n := 3) hK rfl (gs_cons (g_name (pg_name (i := 5) sc_p_law.nd rfl (Or.inl rfl))) (gs_cons (g_name (pg_name (i := 11) sc_p_law.nd rfl (Or.inl rfl))) (gs_cons (g_name (pg_name (i := 12) sc_p_law.nd rfl (Or.inl rfl))) gs_nil)))))
      (s_cons (s_set (i := 7) sc_p_law.nd rfl (Or.inl rfl) (d_call (kx := fun _ _ => False) hK G_take hr (by rfl) D_take.m D_take.F.kp D_take.b pass0 (a_cons (d_var (pv 1)) (a_cons d_int a_nil st_Constant) st_Name)))
      (s_cons (s_set (i := 8) sc_p_law.nd rfl (Or.inl rfl) (d_ix hK (d_lst (a_cons (d_sub (d_var (pv 5)) (d_var (pv 11))) (a_cons (d_var (pv 11)) a_nil st_Name) st_BinOp)) (d_var (pv 7)) (fun _ _ => rfl)))
      (s_cons (s_set (i := 9) sc_p_law.nd rfl (Or.inl rfl) (d_ix hK (d_lst (a_cons d_int (a_cons d_int (a_cons (d_var (pv 8)) (a_cons (d_add (d_var (pv 8)) d_int) (a_cons (d_call (kx := fun _ _ => False) hK G_take hr (by rfl) D_take.m D_take.F.kp D_take.b pass0 (a_cons (d_var (pv 1)) (a_cons d_int a_nil st_Constant) st_Name)) (a_cons (d_call (kx := fun _ _ => False) hK G_take hr (by rfl) D_take.m D_take.F.kp D_take.b pass0 (a_cons (d_var (pv 1)) (a_cons (d_add (d_var (pv 8)) d_int) a_nil st_BinOp) st_Name)) a_nil st_Call) st_Call) st_BinOp) st_Name) st_Constant) st_Constant)) (d_call (kx := fun _ _ => False) hK G_take hr (by rfl) D_take.m D_take.F.kp D_take.b pass0 (a_cons (d_var (pv 1)) (a_cons d_int a_nil st_Constant) st_Name)) (fun _ _ => rfl)))
      (s_cons (s_set (i := 10) sc_p_law.nd rfl (Or.inl rfl) (d_ix hK (d_lst (a_cons d_str (a_cons d_str a_nil st_Constant) st_Constant)) (d_ctK (k_int) (by rfl) Z.z_int (by decide +kernel) (a_cons (d_cmpK c_gt (d_var (pv 9)) (d_var (pv 8)) (nomark _)) a_nil st_Compare)) (fun _ _ => rfl)))
      (s_cons (s_if (t_cmpK (c_ne hK hr.units) (d_call (kx := fun _ _ => False) hK G_tried hr (by rfl) D_tried.m D_tried.F.kp D_tried.b pass0 (a_cons (d_ix hK (d_var (pv 2)) (d_var (pv 6)) (fun _ _ => rfl)) (a_cons (d_var (pv 7)) (a_cons (d_var (pv 9)) a_nil st_Name) st_Name) st_Subscript)) (d_var (pv 10)) (nomark _)) (s_one (s_ret d_bl)) s_nil)
      (s_cons (s_if (t_cmpK (c_eq hK hr.units) (d_var (pv 10)) d_str (nomark _)) (s_cons (s_set (i := 11) sc_p_law.nd rfl (Or.inl rfl) (d_add (d_var (pv 11)) (d_ix hK (d_lst (a_cons (d_var (pv 9)) (a_cons (d_neg (d_var (pv 9))) a_nil st_UnaryOp) st_Name)) (d_var (pv 7)) (fun _ _ => rfl))))
      (s_one (s_setIx (pv 3) (d_var (pv 6)) (d_lst (a_cons (d_var (pv 5)) (a_cons (d_var (pv 11)) (a_cons (d_cbK (k_max2 rfl) (by rfl) Z.z_max (by decide +kernel) (a_cons (d_var (pv 12)) (a_cons (d_var (pv 11)) a_nil st_Name) st_Name)) a_nil st_Call) st_Name) st_Name))))) s_nil)
      (s_one (s_if (t_not (t_val (d_cbK (k_all rfl hK) (by rfl) Z.z_all (by decide +kernel) (a_cons (d_lc (own := [("_law_room", 13), ("_law_own", 14)]) rfl sc_p_law.nd (i_zip hK (by rfl) Z.z_zip (a_cons (d_var (pv 2)) (a_cons (d_var (pv 3)) a_nil st_Name) st_Name)) (blkOk_by (own := [("_law_room", 13), ("_law_own", 14)]) (N := N_p_law) (sc := defScope s_p_law) (by decide +kernel)) (fun _ _ _ _ _ => (g_tup (n := 2) hK rfl (gs_cons (g_name (pg_name (i := 13) sc_p_law.nd rfl (Or.inl rfl))) (gs_cons (g_name (pg_name (i := 14) sc_p_law.nd rfl (Or.inl rfl))) gs_nil)))) (by decide) (fun _ _ _ _ _ => ts_nil) (fun _ _ _ _ _ => (d_call (kx := fun _ _ => False) hK G_as_counted hr (by rfl) D_as_counted.m D_as_counted.F.kp D_as_counted.b pass0 (a_cons (d_var (pv 13)) (a_cons (d_var (pv 14)) a_nil st_Name) st_Name)))) a_nil st_ListComp)))) (s_one (s_ret d_bl)) s_nil)))))))))))
      (s_one (s_ret d_bl)))))), ?_⟩
  rw [show (Sl.no :: Sl.st :: List.replicate 13 Sl.no) = [.no, .st, .no, .no, .no, .no, .no, .no, .no, .no, .no, .no, .no, .no, .no] from rfl]
  walk_at "qd"
  refine ⟨by walk_at "tk", fun r r0 r1 => ⟨by decide, by omega, by omega, ?_⟩⟩
  refine for_upto (fun i A b => ∃ (rs : List Rm) (v4 v5 : Sl), A = [.no, .st, .own (rmsD rs), .own (rmsO rs), v4, v5, .no, .no, .no, .no, .no, .no, .no, .no, .no] ∧ rs.length = i ∧ RmsOk es.Room b rs ∧ nOf b ≤ 10 + 10 * i) ⟨[], _, _, rfl, rfl, RmsOk.nil, by decide⟩ ?_ ?_
  · rintro i A b hi ⟨rs, v4, v5, rfl, hl, hR, hb⟩
    walk_at "qd"
    refine ⟨by walk_at "tk", fun y y0 y1 => ⟨by omega, by walk_at "tk", fun x x0 x1 => ⟨by omega, at_any (by omega) (by show x < 5; omega) fun d hd p hp => ?_⟩⟩⟩
    obtain ⟨m, rfl, m0, m1⟩ : ∃ m : Int, d = .int m ∧ 6 ≤ m ∧ m ≤ 1000 := by
      simp at hd
      rcases hd with rfl | rfl | rfl | rfl | rfl <;> exact ⟨_, rfl, by omega, by omega⟩
    refine put_step trivial fun b1 P1 => ?_
    refine ⟨p, m, rfl, P1.at_, fun b2 P2 => ⟨rfl, szs (by rw [rmsD_len]; omega), szs (by rw [rmsO_len]; omega), rs ++ [⟨p, m, 0, 0⟩], by simp [rmsD], by simp [rmsO], by rw [List.length_append, hl]; rfl, ?_, ?_⟩⟩
    · exact hR.set0.add (r := ⟨p, m, 0, 0⟩) (by rw [mOf_set]; exact hp) (P1.trans P2) ⟨Int.le_refl _, by show (0 : Int) ≤ m; omega, m1, Int.le_refl _, by show (0 : Int) ≤ 1000; decide⟩
    · rw [P2.n, P1.n, nOf_setM]
      omega
  · rintro A b ⟨rs, v4, v5, rfl, hl, hR, hb⟩
    walk_at "qd"
    refine ⟨by walk_at "tk", fun s s0 s1 => ⟨by omega, by omega, by omega, ?_⟩⟩
    refine for_upto (fun i A b2 => ∃ (rs : List Rm) (v4 v5 v6 v7 v8 v9 v10 v11 v12 : Sl), A = [.no, .st, .own (rmsD rs), .own (rmsO rs), v4, v5, v6, v7, v8, v9, v10, v11, v12, .no, .no] ∧ rs.length = (1 + r).toNat ∧ RmsOk es.Room b2 rs ∧ nOf b2 ≤ 100 + 10 * i) ⟨rs, _, _, _, _, _, _, _, _, _, rfl, hl, hR.set0, by rw [nOf_setM]; omega⟩ ?_ ?_
    · rintro i A b2 hi ⟨rs, v4, v5, v6, v7, v8, v9, v10, v11, v12, rfl, hl, hR, hb⟩
      walk_at "qd"
      rw [rmsD_len]
      refine ⟨by walk_at "tk", fun kk k0 k1 => ⟨by omega, ?_⟩⟩
      obtain ⟨kn, rfl⟩ : ∃ kn : Nat, kk = kn := ⟨kk.toNat, by omega⟩
      obtain ⟨r, hr2⟩ : ∃ r, rs[kn]? = some r := ⟨_, List.getElem?_eq_getElem (by omega)⟩
      obtain ⟨ea, eo⟩ := rms_at hr2
      obtain ⟨o1, o2, o3, o4, o5⟩ := hR.ok r (List.mem_of_getElem? hr2)
      refine ⟨_, eo, ?_⟩
      walk_at "qd"
      refine ⟨by walk_at "tk", fun y y0 y1 => ⟨by omega, ?_⟩⟩
      obtain ⟨L, eL, hLf, l0, l1⟩ : ∃ L : Int, atI [D.int (r.mo - r.he), D.int r.he] y = some (.int L) ∧ (if y = 0 then r.mo - r.he else r.he) = L ∧ 0 ≤ L ∧ L ≤ 1000 := by
        rcases (show y = 0 ∨ y = 1 by omega) with rfl | rfl
        · exact ⟨_, rfl, rfl, by omega, by omega⟩
        · exact ⟨_, rfl, rfl, by omega, by omega⟩
      have hy : y = 0 ∨ y = 1 := by omega
      refine ⟨_, eL, ?_⟩
      walk_at "qd"
      refine ⟨by walk_at "tk", fun t t0 t1 => ⟨by omega, by walk_at "tk", fun u u0 u1 => ⟨by omega, by walk_at "tk", fun q q0 q1 => ⟨by omega, at_any (by omega) (by show q < 6; omega) fun d hd => ?_⟩⟩⟩⟩
      obtain ⟨mm, rfl, mm0⟩ : ∃ m : Int, d = .int m ∧ 0 ≤ m := by
        simp at hd
        rcases hd with rfl | rfl | rfl | rfl | rfl | rfl <;> exact ⟨_, rfl, by omega⟩
      walk_at "qd"
      have hb3 : nOf (setN b2 (((((((((nOf b2 + 1) % 1000000000) + 1) % 1000000000) + 1) % 1000000000) + 1) % 1000000000) + 1)) ≤ 105 + 10 * i := by rw [nOf_setM]; omega
      have hR3 : RmsOk es.Room (setN b2 (((((((((nOf b2 + 1) % 1000000000) + 1) % 1000000000) + 1) % 1000000000) + 1) % 1000000000) + 1)) rs := hR.set0
      generalize setN b2 (((((((((nOf b2 + 1) % 1000000000) + 1) % 1000000000) + 1) % 1000000000) + 1) % 1000000000) + 1) = b3 at *
      by_cases hgt : L < mm
      · rw [if_pos hgt]
        refine ⟨_, rfl, _, ea, r.p, y, mm, r.mo, r.he, r.pk, rfl, hy, hR3.at_ r (List.mem_of_getElem? hr2), fun h => absurd h (by rw [hLf]; omega), fun _ => ?_⟩
        walk_at "qd"
        refine lc_map (fun _ => .bl true) (szl (by rw [rms_zip, List.length_map]; omega)) (fun d acc Q hd ha hQ => ?_) ?_
        · rw [rms_zip] at hd
          obtain ⟨r2, hr3, rfl⟩ := List.mem_map.mp hd
          walk_at "qd"
          refine ⟨r2.p, r2.mo, r2.he, r2.pk, rfl, hR3.at_ r2 hr3, ?_⟩
          walk_at "qd"
          exact ⟨ha, hQ⟩
        · walk_at "qd"
          refine ⟨_, (zipped (rmsD rs) (rmsO rs)).map fun _ => true, rfl, by rw [List.map_map]; rfl, ?_⟩
          have e : ((zipped (rmsD rs) (rmsO rs)).map fun _ => true).all id = true := by rw [List.all_map, List.all_eq_true]; intro _ _; rfl
          refine ite2 (fun h => absurd (show (!((zipped (rmsD rs) (rmsO rs)).map fun _ => true).all id) = true from h) (by rw [e]; decide)) fun _ => ?_
          walk_at "qd"
          exact ⟨rs, rfl, rfl, hl, hR3, by omega⟩

      · rw [if_neg hgt]
        refine ⟨_, rfl, _, ea, r.p, y, mm, r.mo, r.he, r.pk, rfl, hy, hR3.at_ r (List.mem_of_getElem? hr2), fun _ b4 P4 => ?_, fun h => absurd h (by rw [hLf]; omega)⟩
        walk_at "qd"
        rcases hy with rfl | rfl
        · refine ⟨_, rfl, ?_⟩
          walk_at "qd"
          rw [if_pos rfl] at P4
          refine ⟨kn, by rw [ix_ok (by omega) (by rw [rmsO_len]; omega), Int.toNat_natCast], ?_⟩
          have e1 : (rmsO rs).set kn (D.lst [D.int r.mo, D.int (r.he + mm), D.int ((if r.he + mm > r.pk then r.he + mm else r.pk))]) = rmsO (rs.set kn ⟨r.p, r.mo, r.he + mm, (if r.he + mm > r.pk then r.he + mm else r.pk)⟩) := (rms_set (rs := rs) (i := kn) (r := ⟨r.p, r.mo, r.he + mm, (if r.he + mm > r.pk then r.he + mm else r.pk)⟩)).2.symm
          have e2 : rmsD rs = rmsD (rs.set kn ⟨r.p, r.mo, r.he + mm, (if r.he + mm > r.pk then r.he + mm else r.pk)⟩) := by rw [(rms_set (rs := rs) (i := kn) (r := ⟨r.p, r.mo, r.he + mm, (if r.he + mm > r.pk then r.he + mm else r.pk)⟩)).1, rms_setD hr2]
          rw [e1, e2]
          have hR4 : RmsOk es.Room b4 (rs.set kn ⟨r.p, r.mo, r.he + mm, (if r.he + mm > r.pk then r.he + mm else r.pk)⟩) := hR3.put hr2 rfl P4 ⟨by show (0 : Int) ≤ r.he + mm; omega, by show r.he + mm ≤ r.mo; omega, o3, by show r.he + mm ≤ (if r.he + mm > r.pk then r.he + mm else r.pk); split <;> omega, by show (if r.he + mm > r.pk then r.he + mm else r.pk) ≤ 1000; split <;> omega⟩
          refine lc_map (fun _ => .bl true) (szl (by rw [rms_zip, List.length_map, List.length_set]; omega)) (fun d acc Q hd ha hQ => ?_) ?_
          · rw [rms_zip] at hd
            obtain ⟨r2, hr3, rfl⟩ := List.mem_map.mp hd
            walk_at "qd"
            refine ⟨r2.p, r2.mo, r2.he, r2.pk, rfl, hR4.at_ r2 hr3, ?_⟩
            walk_at "qd"
            exact ⟨ha, hQ⟩
          · walk_at "qd"
            refine ⟨_, (zipped (rmsD (rs.set kn ⟨r.p, r.mo, r.he + mm, (if r.he + mm > r.pk then r.he + mm else r.pk)⟩)) (rmsO (rs.set kn ⟨r.p, r.mo, r.he + mm, (if r.he + mm > r.pk then r.he + mm else r.pk)⟩))).map fun _ => true, rfl, by rw [List.map_map]; rfl, ?_⟩
            have e : ((zipped (rmsD (rs.set kn ⟨r.p, r.mo, r.he + mm, (if r.he + mm > r.pk then r.he + mm else r.pk)⟩)) (rmsO (rs.set kn ⟨r.p, r.mo, r.he + mm, (if r.he + mm > r.pk then r.he + mm else r.pk)⟩))).map fun _ => true).all id = true := by rw [List.all_map, List.all_eq_true]; intro _ _; rfl
            refine ite2 (fun h => absurd (show (!((zipped (rmsD (rs.set kn ⟨r.p, r.mo, r.he + mm, (if r.he + mm > r.pk then r.he + mm else r.pk)⟩)) (rmsO (rs.set kn ⟨r.p, r.mo, r.he + mm, (if r.he + mm > r.pk then r.he + mm else r.pk)⟩))).map fun _ => true).all id) = true from h) (by rw [e]; decide)) fun _ => ?_
            walk_at "qd"
            exact ⟨rs.set kn ⟨r.p, r.mo, r.he + mm, (if r.he + mm > r.pk then r.he + mm else r.pk)⟩, rfl, rfl, by rw [List.length_set]; exact hl, hR4, by rw [P4.n]; omega⟩
        · refine ⟨_, rfl, ?_⟩
          walk_at "qd"
          rw [if_neg (show ¬ (r.he + -mm > r.pk) by omega)]
          rw [if_neg (by decide)] at P4
          have P4 : Put b3 b4 r.p (.ins es.Room (rmF r.mo (r.he + -mm) r.pk)) := P4
          refine ⟨kn, by rw [ix_ok (by omega) (by rw [rmsO_len]; omega), Int.toNat_natCast], ?_⟩
          have e1 : (rmsO rs).set kn (D.lst [D.int r.mo, D.int (r.he + -mm), D.int r.pk]) = rmsO (rs.set kn ⟨r.p, r.mo, r.he + -mm, r.pk⟩) := (rms_set (rs := rs) (i := kn) (r := ⟨r.p, r.mo, r.he + -mm, r.pk⟩)).2.symm
          have e2 : rmsD rs = rmsD (rs.set kn ⟨r.p, r.mo, r.he + -mm, r.pk⟩) := by rw [(rms_set (rs := rs) (i := kn) (r := ⟨r.p, r.mo, r.he + -mm, r.pk⟩)).1, rms_setD hr2]
          rw [e1, e2]
          have hR4 : RmsOk es.Room b4 (rs.set kn ⟨r.p, r.mo, r.he + -mm, r.pk⟩) := hR3.put hr2 rfl P4 ⟨by show (0 : Int) ≤ r.he + -mm; omega, by show r.he + -mm ≤ r.mo; omega, o3, by show r.he + -mm ≤ r.pk; omega, o5⟩
          refine lc_map (fun _ => .bl true) (szl (by rw [rms_zip, List.length_map, List.length_set]; omega)) (fun d acc Q hd ha hQ => ?_) ?_
          · rw [rms_zip] at hd
            obtain ⟨r2, hr3, rfl⟩ := List.mem_map.mp hd
            walk_at "qd"
            refine ⟨r2.p, r2.mo, r2.he, r2.pk, rfl, hR4.at_ r2 hr3, ?_⟩
            walk_at "qd"
            exact ⟨ha, hQ⟩
          · walk_at "qd"
            refine ⟨_, (zipped (rmsD (rs.set kn ⟨r.p, r.mo, r.he + -mm, r.pk⟩)) (rmsO (rs.set kn ⟨r.p, r.mo, r.he + -mm, r.pk⟩))).map fun _ => true, rfl, by rw [List.map_map]; rfl, ?_⟩
            have e : ((zipped (rmsD (rs.set kn ⟨r.p, r.mo, r.he + -mm, r.pk⟩)) (rmsO (rs.set kn ⟨r.p, r.mo, r.he + -mm, r.pk⟩))).map fun _ => true).all id = true := by rw [List.all_map, List.all_eq_true]; intro _ _; rfl
            refine ite2 (fun h => absurd (show (!((zipped (rmsD (rs.set kn ⟨r.p, r.mo, r.he + -mm, r.pk⟩)) (rmsO (rs.set kn ⟨r.p, r.mo, r.he + -mm, r.pk⟩))).map fun _ => true).all id) = true from h) (by rw [e]; decide)) fun _ => ?_
            walk_at "qd"
            exact ⟨rs.set kn ⟨r.p, r.mo, r.he + -mm, r.pk⟩, rfl, rfl, by rw [List.length_set]; exact hl, hR4, by rw [P4.n]; omega⟩
    · rintro A b2 ⟨rs, v4, v5, v6, v7, v8, v9, v10, v11, v12, rfl, hl, hR, hb⟩
      walk_at "qd"
end
theorem all_mk {l : PySem.W.OpenLaw} {w : World} {K : PySem.W.Frag} {h : Heap} {mg : Str → Option Value} {fa : Addr} (X : K.In h) (G : h.Ns mainGlobals mg) (hfa : mg "law" = some (.ref fa)) {CI_Room : Addr} {f_take : Addr} {oc_take kV_take dc_take pm_take cd_take ct_take : Value} {od_take an_take : Option Addr} {sl_take : Array (Option Value)} {f_begin : Addr} {oc_begin kV_begin dc_begin pm_begin cd_begin ct_begin : Value} {od_begin an_begin : Option Addr} {sl_begin : Array (Option Value)} {f_same : Addr} {oc_same kV_same dc_same pm_same cd_same ct_same : Value} {od_same an_same : Option Addr} {sl_same : Array (Option Value)} {f_p_Room___init__ : Addr} {oc_p_Room___init__ kV_p_Room___init__ dc_p_Room___init__ pm_p_Room___init__ cd_p_Room___init__ ct_p_Room___init__ : Value} {od_p_Room___init__ an_p_Room___init__ : Option Addr} {sl_p_Room___init__ : Array (Option Value)} {f_p_Room_hold : Addr} {oc_p_Room_hold kV_p_Room_hold dc_p_Room_hold pm_p_Room_hold cd_p_Room_hold ct_p_Room_hold : Value} {od_p_Room_hold an_p_Room_hold : Option Addr} {sl_p_Room_hold : Array (Option Value)} {f_p_Room_free : Addr} {oc_p_Room_free kV_p_Room_free dc_p_Room_free pm_p_Room_free cd_p_Room_free ct_p_Room_free : Value} {od_p_Room_free an_p_Room_free : Option Addr} {sl_p_Room_free : Array (Option Value)} {f_p_Room_most : Addr} {oc_p_Room_most kV_p_Room_most dc_p_Room_most pm_p_Room_most cd_p_Room_most ct_p_Room_most : Value} {od_p_Room_most an_p_Room_most : Option Addr} {sl_p_Room_most : Array (Option Value)} {f_p_Room_held : Addr} {oc_p_Room_held kV_p_Room_held dc_p_Room_held pm_p_Room_held cd_p_Room_held ct_p_Room_held : Value} {od_p_Room_held an_p_Room_held : Option Addr} {sl_p_Room_held : Array (Option Value)} {f_p_Room_peak : Addr} {oc_p_Room_peak kV_p_Room_peak dc_p_Room_peak pm_p_Room_peak cd_p_Room_peak ct_p_Room_peak : Value} {od_p_Room_peak an_p_Room_peak : Option Addr} {sl_p_Room_peak : Array (Option Value)} {f_tried : Addr} {oc_tried kV_tried dc_tried pm_tried cd_tried ct_tried : Value} {od_tried an_tried : Option Addr} {sl_tried : Array (Option Value)} {f_as_counted : Addr} {oc_as_counted kV_as_counted dc_as_counted pm_as_counted cd_as_counted ct_as_counted : Value} {od_as_counted an_as_counted : Option Addr} {sl_as_counted : Array (Option Value)} {f_p_law : Addr} {oc_p_law kV_p_law dc_p_law pm_p_law cd_p_law ct_p_law : Value} {od_p_law an_p_law : Option Addr} {sl_p_law : Array (Option Value)} {C_StoreError Nn_StoreError : Addr} {nm_StoreError q_StoreError : Str} {bs_StoreError : List Value} {hd_StoreError ab_StoreError : Bool} {sn_StoreError : List Str} {sub_StoreError : List Value} {col_StoreError : Option Bool} {dd_StoreError : Option Addr} {k0_StoreError k1_StoreError k2_StoreError k3_StoreError k5_StoreError : Option Value} {ni_StoreError : String} {C_NoRow Nn_NoRow : Addr} {nm_NoRow q_NoRow : Str} {bs_NoRow : List Value} {hd_NoRow ab_NoRow : Bool} {sn_NoRow : List Str} {sub_NoRow : List Value} {col_NoRow : Option Bool} {dd_NoRow : Option Addr} {k0_NoRow k1_NoRow k2_NoRow k3_NoRow k5_NoRow : Option Value} {ni_NoRow : String} {C_NoHeap Nn_NoHeap : Addr} {nm_NoHeap q_NoHeap : Str} {bs_NoHeap : List Value} {hd_NoHeap ab_NoHeap : Bool} {sn_NoHeap : List Str} {sub_NoHeap : List Value} {col_NoHeap : Option Bool} {dd_NoHeap : Option Addr} {k0_NoHeap k1_NoHeap k2_NoHeap k3_NoHeap k5_NoHeap : Option Value} {ni_NoHeap : String} {C_NoMoment Nn_NoMoment : Addr} {nm_NoMoment q_NoMoment : Str} {bs_NoMoment : List Value} {hd_NoMoment ab_NoMoment : Bool} {sn_NoMoment : List Str} {sub_NoMoment : List Value} {col_NoMoment : Option Bool} {dd_NoMoment : Option Addr} {k0_NoMoment k1_NoMoment k2_NoMoment k3_NoMoment k5_NoMoment : Option Value} {ni_NoMoment : String} {C_NotSound Nn_NotSound : Addr} {nm_NotSound q_NotSound : Str} {bs_NotSound : List Value} {hd_NotSound ab_NotSound : Bool} {sn_NotSound : List Str} {sub_NotSound : List Value} {col_NotSound : Option Bool} {dd_NotSound : Option Addr} {k0_NotSound k1_NotSound k2_NotSound k3_NotSound k5_NotSound : Option Value} {ni_NotSound : String} {C_NoRoom Nn_NoRoom : Addr} {nm_NoRoom q_NoRoom : Str} {bs_NoRoom : List Value} {hd_NoRoom ab_NoRoom : Bool} {sn_NoRoom : List Str} {sub_NoRoom : List Value} {col_NoRoom : Option Bool} {dd_NoRoom : Option Addr} {k0_NoRoom k1_NoRoom k2_NoRoom k3_NoRoom k5_NoRoom : Option Value} {C_NoPart Nn_NoPart : Addr} {nm_NoPart q_NoPart : Str} {bs_NoPart : List Value} {hd_NoPart ab_NoPart : Bool} {sn_NoPart : List Str} {sub_NoPart : List Value} {col_NoPart : Option Bool} {dd_NoPart : Option Addr} {k0_NoPart k1_NoPart k2_NoPart k3_NoPart k5_NoPart : Option Value} {ni_NoPart : String} {C_NoFile Nn_NoFile : Addr} {nm_NoFile q_NoFile : Str} {bs_NoFile : List Value} {hd_NoFile ab_NoFile : Bool} {sn_NoFile : List Str} {sub_NoFile : List Value} {col_NoFile : Option Bool} {dd_NoFile : Option Addr} {k0_NoFile k1_NoFile k2_NoFile k3_NoFile k5_NoFile : Option Value} {ni_NoFile : String} {C_NoName Nn_NoName : Addr} {nm_NoName q_NoName : Str} {bs_NoName : List Value} {hd_NoName ab_NoName : Bool} {sn_NoName : List Str} {sub_NoName : List Value} {col_NoName : Option Bool} {dd_NoName : Option Addr} {k0_NoName k1_NoName k2_NoName k3_NoName k5_NoName : Option Value} {ni_NoName : String} {C_Taken Nn_Taken : Addr} {nm_Taken q_Taken : Str} {bs_Taken : List Value} {hd_Taken ab_Taken : Bool} {sn_Taken : List Str} {sub_Taken : List Value} {col_Taken : Option Bool} {dd_Taken : Option Addr} {k0_Taken k1_Taken k2_Taken k3_Taken k5_Taken : Option Value} {ni_Taken : String} {C_BadBytes Nn_BadBytes : Addr} {nm_BadBytes q_BadBytes : Str} {bs_BadBytes : List Value} {hd_BadBytes ab_BadBytes : Bool} {sn_BadBytes : List Str} {sub_BadBytes : List Value} {col_BadBytes : Option Bool} {dd_BadBytes : Option Addr} {k0_BadBytes k1_BadBytes k2_BadBytes k3_BadBytes k5_BadBytes : Option Value} {ni_BadBytes : String} {C_BadRow Nn_BadRow : Addr} {nm_BadRow q_BadRow : Str} {bs_BadRow : List Value} {hd_BadRow ab_BadRow : Bool} {sn_BadRow : List Str} {sub_BadRow : List Value} {col_BadRow : Option Bool} {dd_BadRow : Option Addr} {k0_BadRow k1_BadRow k2_BadRow k3_BadRow k5_BadRow : Option Value} {ni_BadRow : String} {C_BadText Nn_BadText : Addr} {nm_BadText q_BadText : Str} {bs_BadText : List Value} {hd_BadText ab_BadText : Bool} {sn_BadText : List Str} {sub_BadText : List Value} {col_BadText : Option Bool} {dd_BadText : Option Addr} {k0_BadText k1_BadText k2_BadText k3_BadText k5_BadText : Option Value} {ni_BadText : String} {cN_NoRoom : Value} {dN_NoRoom : Option Addr} {esN_NoRoom : Array DictEntry} {pN_NoRoom : Nat} {slN_NoRoom : Array (Option Value)} {cS : Value} {dS : Option Addr} {esS : Array DictEntry} {pS : Nat} {slS : Array (Option Value)}
    (iC_Room : PySem.W.nsIn K mainGlobals "Room" = some (some (.ref CI_Room)))
    (ipg_Room : PySem.W.plainGet K CI_Room Str.empty = true)
    (ihd_Room : PySem.W.hasDictIn K CI_Room = true)
    (ipo_Room : PySem.W.plainOver K CI_Room = true)
    (isa_Room : PySem.W.findIn K (.ref CI_Room) "__setattr__" = some (some (.builtin "object.__setattr__")))
    (imk_Room : PySem.W.makesIn K CI_Room = true)
    (ikc_Room : PySem.W.keepIn K (.ref CI_Room) = true)
    (ina0_Room : PySem.W.findIn K (.ref CI_Room) "most_rows" = some none)
    (ina1_Room : PySem.W.findIn K (.ref CI_Room) "held_rows" = some none)
    (ina2_Room : PySem.W.findIn K (.ref CI_Room) "peak_rows" = some none)
    (a_take : PySem.W.nsIn K mainGlobals "_law_take" = some (some (.ref f_take))) (l_take : K.lookup f_take = some ⟨oc_take, od_take, .func (PySem.W.fnOf "_law_take" "_law_take" (defArgs s_take) (defBody s_take) (defScope s_take) .none kV_take dc_take pm_take an_take cd_take ct_take), sl_take⟩) (c_take : PySem.W.codeIn K cd_take "_law_take" = true) (k_take : PySem.W.keepIn K (.ref f_take) = true)
    (a_begin : PySem.W.nsIn K mainGlobals "_law_begin" = some (some (.ref f_begin))) (l_begin : K.lookup f_begin = some ⟨oc_begin, od_begin, .func (PySem.W.fnOf "_law_begin" "_law_begin" (defArgs s_begin) (defBody s_begin) (defScope s_begin) .none kV_begin dc_begin pm_begin an_begin cd_begin ct_begin), sl_begin⟩) (c_begin : PySem.W.codeIn K cd_begin "_law_begin" = true) (k_begin : PySem.W.keepIn K (.ref f_begin) = true)
    (a_same : PySem.W.nsIn K mainGlobals "_law_same" = some (some (.ref f_same))) (l_same : K.lookup f_same = some ⟨oc_same, od_same, .func (PySem.W.fnOf "_law_same" "_law_same" (defArgs s_same) (defBody s_same) (defScope s_same) .none kV_same dc_same pm_same an_same cd_same ct_same), sl_same⟩) (c_same : PySem.W.codeIn K cd_same "_law_same" = true) (k_same : PySem.W.keepIn K (.ref f_same) = true)
    (a_p_Room___init__ : PySem.W.findIn K (.ref CI_Room) "__init__" = some (some (.ref f_p_Room___init__))) (i_p_Room___init__ : PySem.W.isFn K (.ref f_p_Room___init__) = true) (l_p_Room___init__ : K.lookup f_p_Room___init__ = some ⟨oc_p_Room___init__, od_p_Room___init__, .func (PySem.W.fnOf "__init__" "Room.__init__" (defArgs s_p_Room___init__) (defBody s_p_Room___init__) (defScope s_p_Room___init__) .none kV_p_Room___init__ dc_p_Room___init__ pm_p_Room___init__ an_p_Room___init__ cd_p_Room___init__ ct_p_Room___init__), sl_p_Room___init__⟩) (c_p_Room___init__ : PySem.W.codeIn K cd_p_Room___init__ "Room.__init__" = true) (k_p_Room___init__ : PySem.W.keepIn K (.ref f_p_Room___init__) = true)
    (a_p_Room_hold : PySem.W.findIn K (.ref CI_Room) "hold" = some (some (.ref f_p_Room_hold))) (i_p_Room_hold : PySem.W.isFn K (.ref f_p_Room_hold) = true) (l_p_Room_hold : K.lookup f_p_Room_hold = some ⟨oc_p_Room_hold, od_p_Room_hold, .func (PySem.W.fnOf "hold" "Room.hold" (defArgs s_p_Room_hold) (defBody s_p_Room_hold) (defScope s_p_Room_hold) .none kV_p_Room_hold dc_p_Room_hold pm_p_Room_hold an_p_Room_hold cd_p_Room_hold ct_p_Room_hold), sl_p_Room_hold⟩) (c_p_Room_hold : PySem.W.codeIn K cd_p_Room_hold "Room.hold" = true) (k_p_Room_hold : PySem.W.keepIn K (.ref f_p_Room_hold) = true)
    (a_p_Room_free : PySem.W.findIn K (.ref CI_Room) "free" = some (some (.ref f_p_Room_free))) (i_p_Room_free : PySem.W.isFn K (.ref f_p_Room_free) = true) (l_p_Room_free : K.lookup f_p_Room_free = some ⟨oc_p_Room_free, od_p_Room_free, .func (PySem.W.fnOf "free" "Room.free" (defArgs s_p_Room_free) (defBody s_p_Room_free) (defScope s_p_Room_free) .none kV_p_Room_free dc_p_Room_free pm_p_Room_free an_p_Room_free cd_p_Room_free ct_p_Room_free), sl_p_Room_free⟩) (c_p_Room_free : PySem.W.codeIn K cd_p_Room_free "Room.free" = true) (k_p_Room_free : PySem.W.keepIn K (.ref f_p_Room_free) = true)
    (a_p_Room_most : PySem.W.findIn K (.ref CI_Room) "most" = some (some (.ref f_p_Room_most))) (i_p_Room_most : PySem.W.isFn K (.ref f_p_Room_most) = true) (l_p_Room_most : K.lookup f_p_Room_most = some ⟨oc_p_Room_most, od_p_Room_most, .func (PySem.W.fnOf "most" "Room.most" (defArgs s_p_Room_most) (defBody s_p_Room_most) (defScope s_p_Room_most) .none kV_p_Room_most dc_p_Room_most pm_p_Room_most an_p_Room_most cd_p_Room_most ct_p_Room_most), sl_p_Room_most⟩) (c_p_Room_most : PySem.W.codeIn K cd_p_Room_most "Room.most" = true) (k_p_Room_most : PySem.W.keepIn K (.ref f_p_Room_most) = true)
    (a_p_Room_held : PySem.W.findIn K (.ref CI_Room) "held" = some (some (.ref f_p_Room_held))) (i_p_Room_held : PySem.W.isFn K (.ref f_p_Room_held) = true) (l_p_Room_held : K.lookup f_p_Room_held = some ⟨oc_p_Room_held, od_p_Room_held, .func (PySem.W.fnOf "held" "Room.held" (defArgs s_p_Room_held) (defBody s_p_Room_held) (defScope s_p_Room_held) .none kV_p_Room_held dc_p_Room_held pm_p_Room_held an_p_Room_held cd_p_Room_held ct_p_Room_held), sl_p_Room_held⟩) (c_p_Room_held : PySem.W.codeIn K cd_p_Room_held "Room.held" = true) (k_p_Room_held : PySem.W.keepIn K (.ref f_p_Room_held) = true)
    (a_p_Room_peak : PySem.W.findIn K (.ref CI_Room) "peak" = some (some (.ref f_p_Room_peak))) (i_p_Room_peak : PySem.W.isFn K (.ref f_p_Room_peak) = true) (l_p_Room_peak : K.lookup f_p_Room_peak = some ⟨oc_p_Room_peak, od_p_Room_peak, .func (PySem.W.fnOf "peak" "Room.peak" (defArgs s_p_Room_peak) (defBody s_p_Room_peak) (defScope s_p_Room_peak) .none kV_p_Room_peak dc_p_Room_peak pm_p_Room_peak an_p_Room_peak cd_p_Room_peak ct_p_Room_peak), sl_p_Room_peak⟩) (c_p_Room_peak : PySem.W.codeIn K cd_p_Room_peak "Room.peak" = true) (k_p_Room_peak : PySem.W.keepIn K (.ref f_p_Room_peak) = true)
    (a_tried : PySem.W.nsIn K mainGlobals "_law_tried" = some (some (.ref f_tried))) (l_tried : K.lookup f_tried = some ⟨oc_tried, od_tried, .func (PySem.W.fnOf "_law_tried" "_law_tried" (defArgs s_tried) (defBody s_tried) (defScope s_tried) .none kV_tried dc_tried pm_tried an_tried cd_tried ct_tried), sl_tried⟩) (c_tried : PySem.W.codeIn K cd_tried "_law_tried" = true) (k_tried : PySem.W.keepIn K (.ref f_tried) = true)
    (a_as_counted : PySem.W.nsIn K mainGlobals "_law_as_counted" = some (some (.ref f_as_counted))) (l_as_counted : K.lookup f_as_counted = some ⟨oc_as_counted, od_as_counted, .func (PySem.W.fnOf "_law_as_counted" "_law_as_counted" (defArgs s_as_counted) (defBody s_as_counted) (defScope s_as_counted) .none kV_as_counted dc_as_counted pm_as_counted an_as_counted cd_as_counted ct_as_counted), sl_as_counted⟩) (c_as_counted : PySem.W.codeIn K cd_as_counted "_law_as_counted" = true) (k_as_counted : PySem.W.keepIn K (.ref f_as_counted) = true)
    (a_p_law : PySem.W.nsIn K mainGlobals "law" = some (some (.ref f_p_law))) (l_p_law : K.lookup f_p_law = some ⟨oc_p_law, od_p_law, .func (PySem.W.fnOf "law" "law" (defArgs s_p_law) (defBody s_p_law) (defScope s_p_law) .none kV_p_law dc_p_law pm_p_law an_p_law cd_p_law ct_p_law), sl_p_law⟩) (c_p_law : PySem.W.codeIn K cd_p_law "law" = true) (k_p_law : PySem.W.keepIn K (.ref f_p_law) = true)
    (z_divmod : PySem.W.nsIn K mainGlobals "divmod" = some none)
    (z_len : PySem.W.nsIn K mainGlobals "len" = some none)
    (z_list : PySem.W.nsIn K mainGlobals "list" = some none)
    (z_isinstance : PySem.W.nsIn K mainGlobals "isinstance" = some none)
    (z_bool : PySem.W.nsIn K mainGlobals "bool" = some none)
    (z_int : PySem.W.nsIn K mainGlobals "int" = some none)
    (z_str : PySem.W.nsIn K mainGlobals "str" = some none)
    (z_tuple : PySem.W.nsIn K mainGlobals "tuple" = some none)
    (z_all : PySem.W.nsIn K mainGlobals "all" = some none)
    (z_zip : PySem.W.nsIn K mainGlobals "zip" = some none)
    (z_dict : PySem.W.nsIn K mainGlobals "dict" = some none)
    (z_max : PySem.W.nsIn K mainGlobals "max" = some none)
    (z_ValueError : PySem.W.nsIn K mainGlobals "ValueError" = some none)
    (z_range : PySem.W.nsIn K mainGlobals "range" = some none)
    (ea_StoreError : PySem.W.nsIn K mainGlobals "StoreError" = some (some (.ref C_StoreError))) (el_StoreError : K.lookup C_StoreError = some (excClassObj nm_StoreError q_StoreError C_StoreError Nn_StoreError bs_StoreError Xc.VE hd_StoreError sn_StoreError sub_StoreError ab_StoreError col_StoreError dd_StoreError k0_StoreError k1_StoreError k2_StoreError k3_StoreError k5_StoreError ni_StoreError))
    (ea_NoRow : PySem.W.nsIn K mainGlobals "NoRow" = some (some (.ref C_NoRow))) (el_NoRow : K.lookup C_NoRow = some (excClassObj nm_NoRow q_NoRow C_NoRow Nn_NoRow bs_NoRow (.ref C_StoreError :: Xc.VE) hd_NoRow sn_NoRow sub_NoRow ab_NoRow col_NoRow dd_NoRow k0_NoRow k1_NoRow k2_NoRow k3_NoRow k5_NoRow ni_NoRow))
    (ea_NoHeap : PySem.W.nsIn K mainGlobals "NoHeap" = some (some (.ref C_NoHeap))) (el_NoHeap : K.lookup C_NoHeap = some (excClassObj nm_NoHeap q_NoHeap C_NoHeap Nn_NoHeap bs_NoHeap (.ref C_StoreError :: Xc.VE) hd_NoHeap sn_NoHeap sub_NoHeap ab_NoHeap col_NoHeap dd_NoHeap k0_NoHeap k1_NoHeap k2_NoHeap k3_NoHeap k5_NoHeap ni_NoHeap))
    (ea_NoMoment : PySem.W.nsIn K mainGlobals "NoMoment" = some (some (.ref C_NoMoment))) (el_NoMoment : K.lookup C_NoMoment = some (excClassObj nm_NoMoment q_NoMoment C_NoMoment Nn_NoMoment bs_NoMoment (.ref C_StoreError :: Xc.VE) hd_NoMoment sn_NoMoment sub_NoMoment ab_NoMoment col_NoMoment dd_NoMoment k0_NoMoment k1_NoMoment k2_NoMoment k3_NoMoment k5_NoMoment ni_NoMoment))
    (ea_NotSound : PySem.W.nsIn K mainGlobals "NotSound" = some (some (.ref C_NotSound))) (el_NotSound : K.lookup C_NotSound = some (excClassObj nm_NotSound q_NotSound C_NotSound Nn_NotSound bs_NotSound (.ref C_StoreError :: Xc.VE) hd_NotSound sn_NotSound sub_NotSound ab_NotSound col_NotSound dd_NotSound k0_NotSound k1_NotSound k2_NotSound k3_NotSound k5_NotSound ni_NotSound))
    (ea_NoRoom : PySem.W.nsIn K mainGlobals "NoRoom" = some (some (.ref C_NoRoom))) (el_NoRoom : K.lookup C_NoRoom = some (excClassObj nm_NoRoom q_NoRoom C_NoRoom Nn_NoRoom bs_NoRoom (.ref C_StoreError :: Xc.VE) hd_NoRoom sn_NoRoom sub_NoRoom ab_NoRoom col_NoRoom dd_NoRoom k0_NoRoom k1_NoRoom k2_NoRoom k3_NoRoom k5_NoRoom "ValueError.__new__"))
    (ea_NoPart : PySem.W.nsIn K mainGlobals "NoPart" = some (some (.ref C_NoPart))) (el_NoPart : K.lookup C_NoPart = some (excClassObj nm_NoPart q_NoPart C_NoPart Nn_NoPart bs_NoPart (.ref C_StoreError :: Xc.VE) hd_NoPart sn_NoPart sub_NoPart ab_NoPart col_NoPart dd_NoPart k0_NoPart k1_NoPart k2_NoPart k3_NoPart k5_NoPart ni_NoPart))
    (ea_NoFile : PySem.W.nsIn K mainGlobals "NoFile" = some (some (.ref C_NoFile))) (el_NoFile : K.lookup C_NoFile = some (excClassObj nm_NoFile q_NoFile C_NoFile Nn_NoFile bs_NoFile (.ref C_StoreError :: Xc.VE) hd_NoFile sn_NoFile sub_NoFile ab_NoFile col_NoFile dd_NoFile k0_NoFile k1_NoFile k2_NoFile k3_NoFile k5_NoFile ni_NoFile))
    (ea_NoName : PySem.W.nsIn K mainGlobals "NoName" = some (some (.ref C_NoName))) (el_NoName : K.lookup C_NoName = some (excClassObj nm_NoName q_NoName C_NoName Nn_NoName bs_NoName (.ref C_StoreError :: Xc.VE) hd_NoName sn_NoName sub_NoName ab_NoName col_NoName dd_NoName k0_NoName k1_NoName k2_NoName k3_NoName k5_NoName ni_NoName))
    (ea_Taken : PySem.W.nsIn K mainGlobals "Taken" = some (some (.ref C_Taken))) (el_Taken : K.lookup C_Taken = some (excClassObj nm_Taken q_Taken C_Taken Nn_Taken bs_Taken (.ref C_StoreError :: Xc.VE) hd_Taken sn_Taken sub_Taken ab_Taken col_Taken dd_Taken k0_Taken k1_Taken k2_Taken k3_Taken k5_Taken ni_Taken))
    (ea_BadBytes : PySem.W.nsIn K mainGlobals "BadBytes" = some (some (.ref C_BadBytes))) (el_BadBytes : K.lookup C_BadBytes = some (excClassObj nm_BadBytes q_BadBytes C_BadBytes Nn_BadBytes bs_BadBytes (.ref C_StoreError :: Xc.VE) hd_BadBytes sn_BadBytes sub_BadBytes ab_BadBytes col_BadBytes dd_BadBytes k0_BadBytes k1_BadBytes k2_BadBytes k3_BadBytes k5_BadBytes ni_BadBytes))
    (ea_BadRow : PySem.W.nsIn K mainGlobals "BadRow" = some (some (.ref C_BadRow))) (el_BadRow : K.lookup C_BadRow = some (excClassObj nm_BadRow q_BadRow C_BadRow Nn_BadRow bs_BadRow (.ref C_StoreError :: Xc.VE) hd_BadRow sn_BadRow sub_BadRow ab_BadRow col_BadRow dd_BadRow k0_BadRow k1_BadRow k2_BadRow k3_BadRow k5_BadRow ni_BadRow))
    (ea_BadText : PySem.W.nsIn K mainGlobals "BadText" = some (some (.ref C_BadText))) (el_BadText : K.lookup C_BadText = some (excClassObj nm_BadText q_BadText C_BadText Nn_BadText bs_BadText (.ref C_StoreError :: Xc.VE) hd_BadText sn_BadText sub_BadText ab_BadText col_BadText dd_BadText k0_BadText k1_BadText k2_BadText k3_BadText k5_BadText ni_BadText))
    (eN_NoRoom : K.lookup Nn_NoRoom = some ⟨cN_NoRoom, dN_NoRoom, .dict esN_NoRoom pN_NoRoom, slN_NoRoom⟩)
    (eA_NoRoom : esN_NoRoom.toList.all (fun e => match e.key with | .str _ _ => true | _ => false) = true)
    (eI_NoRoom : PySem.W.nsIn K Nn_NoRoom "__init__" = some none)
    (eK_NoRoom : PySem.W.keepIn K (.ref C_NoRoom) = true)
    (e1_NoRoom : PySem.W.findIn K (.ref C_NoRoom) "__getattribute__" = some (some (.builtin "BaseException.__getattribute__")))
    (e2_NoRoom : PySem.W.findIn K (.ref C_NoRoom) "__getattr__" = some none)
    (e3_NoRoom : PySem.W.mroIn K C_NoRoom (.type "BaseException") = some true)
    (e4_NoRoom : PySem.W.mroIn K C_NoRoom (.type "object") = some true)
    (e5_NoRoom : PySem.W.findIn K (.ref C_NoRoom) "__class__" = some (some (.builtin "object.__class__")))
    (exS : K.lookup Nn_StoreError = some ⟨cS, dS, .dict esS pS, slS⟩)
    (exA : esS.toList.all (fun e => match e.key with | .str _ _ => true | _ => false) = true)
    (exI : PySem.W.nsIn K Nn_StoreError "__init__" = some none)
    (exG : PySem.W.specialIn K (.builtin "object.__class__") "__get__" = some (some (.builtin "getset_descriptor.__get__")))
    (exK : PySem.W.takesIn K (.builtin "object.__class__") = some true)
    (em_NoRoom_StoreError : PySem.W.mroIn K C_NoRoom (.ref C_StoreError) = some true)
    (em_NoRoom_ValueError : PySem.W.mroIn K C_NoRoom (.type "ValueError") = some true)
    (em_NoRoom_NoRoom : PySem.W.mroIn K C_NoRoom (.ref C_NoRoom) = some true)
    (em_NoRoom_NoPart : PySem.W.mroIn K C_NoRoom (.ref C_NoPart) = some false)
    (em_NoRoom_NoName : PySem.W.mroIn K C_NoRoom (.ref C_NoName) = some false)
    (em_NoRoom_NoMoment : PySem.W.mroIn K C_NoRoom (.ref C_NoMoment) = some false)
    (em_NoRoom_NoHeap : PySem.W.mroIn K C_NoRoom (.ref C_NoHeap) = some false)
    (em_NoRoom_NoFile : PySem.W.mroIn K C_NoRoom (.ref C_NoFile) = some false)
    (em_NoRoom_BadText : PySem.W.mroIn K C_NoRoom (.ref C_BadText) = some false)
    (em_NoRoom_BadRow : PySem.W.mroIn K C_NoRoom (.ref C_BadRow) = some false)
    (em_NoRoom_BadBytes : PySem.W.mroIn K C_NoRoom (.ref C_BadBytes) = some false)
    (em_NoRoom_Taken : PySem.W.mroIn K C_NoRoom (.ref C_Taken) = some false)
    (em_NoRoom_NotSound : PySem.W.mroIn K C_NoRoom (.ref C_NotSound) = some false)
    (em_NoRoom_NoRow : PySem.W.mroIn K C_NoRoom (.ref C_NoRow) = some false) :
    ∃ fd : FuncData, (∀ (s : Shared) (v : Value), BindsTo s fd ⟨[v], []⟩ [("_law_script", v)]) ∧ ∀ base : Heap, K.In base → base.Ns mainGlobals mg → FnOk l.prog w K mg base CX0 6 fa fd ["_law_script"] (Dd.spLawD K) := by
  have e := hfa.symm.trans (PySem.W.mg_of X G a_p_law)
  cases e
  have Z : Zs mg := ⟨PySem.W.mg_none_of X G z_divmod, PySem.W.mg_none_of X G z_len, PySem.W.mg_none_of X G z_list, PySem.W.mg_none_of X G z_isinstance, PySem.W.mg_none_of X G z_bool, PySem.W.mg_none_of X G z_int, PySem.W.mg_none_of X G z_str, PySem.W.mg_none_of X G z_tuple, PySem.W.mg_none_of X G z_all, PySem.W.mg_none_of X G z_zip, PySem.W.mg_none_of X G z_dict, PySem.W.mg_none_of X G z_max, PySem.W.mg_none_of X G z_ValueError, PySem.W.mg_none_of X G z_range⟩
  have D_take := df_mk (st := s_take) (ps := ["_law_state", "_law_many"]) X G a_take l_take c_take k_take fun _ _ _ _ _ _ us hl => match us, hl with | [_, _], _ => rfl
  have D_begin := df_mk (st := s_begin) (ps := ["_law_script"]) X G a_begin l_begin c_begin k_begin fun _ _ _ _ _ _ us hl => match us, hl with | [_], _ => rfl
  have D_same := df_mk (st := s_same) (ps := ["_law_found", "_law_due"]) X G a_same l_same c_same k_same fun _ _ _ _ _ _ us hl => match us, hl with | [_, _], _ => rfl
  have D_p_Room___init__ := Dd.dfI_mk (st := s_p_Room___init__) (ps := ["self", "most"]) a_p_Room___init__ i_p_Room___init__ l_p_Room___init__ c_p_Room___init__ k_p_Room___init__ imk_Room ikc_Room fun _ _ _ _ _ _ us hl => match us, hl with | [_, _], _ => rfl
  have D_p_Room_hold := Dd.dfM_mk (st := s_p_Room_hold) (ps := ["self", "many"]) a_p_Room_hold i_p_Room_hold l_p_Room_hold c_p_Room_hold k_p_Room_hold fun _ _ _ _ _ _ us hl => match us, hl with | [_, _], _ => rfl
  have D_p_Room_free := Dd.dfM_mk (st := s_p_Room_free) (ps := ["self", "many"]) a_p_Room_free i_p_Room_free l_p_Room_free c_p_Room_free k_p_Room_free fun _ _ _ _ _ _ us hl => match us, hl with | [_, _], _ => rfl
  have D_p_Room_most := Dd.dfM_mk (st := s_p_Room_most) (ps := ["self"]) a_p_Room_most i_p_Room_most l_p_Room_most c_p_Room_most k_p_Room_most fun _ _ _ _ _ _ us hl => match us, hl with | [_], _ => rfl
  have D_p_Room_held := Dd.dfM_mk (st := s_p_Room_held) (ps := ["self"]) a_p_Room_held i_p_Room_held l_p_Room_held c_p_Room_held k_p_Room_held fun _ _ _ _ _ _ us hl => match us, hl with | [_], _ => rfl
  have D_p_Room_peak := Dd.dfM_mk (st := s_p_Room_peak) (ps := ["self"]) a_p_Room_peak i_p_Room_peak l_p_Room_peak c_p_Room_peak k_p_Room_peak fun _ _ _ _ _ _ us hl => match us, hl with | [_], _ => rfl
  have D_tried := df_mk (st := s_tried) (ps := ["_law_room", "_law_way", "_law_many"]) X G a_tried l_tried c_tried k_tried fun _ _ _ _ _ _ us hl => match us, hl with | [_, _, _], _ => rfl
  have D_as_counted := df_mk (st := s_as_counted) (ps := ["_law_room", "_law_own"]) X G a_as_counted l_as_counted c_as_counted k_as_counted fun _ _ _ _ _ _ us hl => match us, hl with | [_, _], _ => rfl
  have D_p_law := df_mk (st := s_p_law) (ps := ["_law_script"]) X G a_p_law l_p_law c_p_law k_p_law fun _ _ _ _ _ _ us hl => match us, hl with | [_], _ => rfl
  refine ⟨PySem.W.fnOf "law" "law" (defArgs s_p_law) (defBody s_p_law) (defScope s_p_law) .none kV_p_law dc_p_law pm_p_law an_p_law cd_p_law ct_p_law, fun s v => .of_eq rfl, fun base _ _ => ?_⟩
  obtain ⟨es, hes_Room⟩ : ∃ es : Es K l.prog mg, es.Room = CI_Room := ⟨{ StoreError := C_StoreError, NoRow := C_NoRow, NoHeap := C_NoHeap, NoMoment := C_NoMoment, NotSound := C_NotSound, NoRoom := C_NoRoom, NoPart := C_NoPart, NoFile := C_NoFile, NoName := C_NoName, Taken := C_Taken, BadBytes := C_BadBytes, BadRow := C_BadRow, BadText := C_BadText, t_StoreError := ⟨PySem.W.mg_of X G ea_StoreError, _, _, _, _, _, _, _, _, _, _, _, _, _, _, _, _, _, el_StoreError, rfl⟩, t_NoRow := ⟨PySem.W.mg_of X G ea_NoRow, _, _, _, _, _, _, _, _, _, _, _, _, _, _, _, _, _, el_NoRow, rfl⟩, t_NoHeap := ⟨PySem.W.mg_of X G ea_NoHeap, _, _, _, _, _, _, _, _, _, _, _, _, _, _, _, _, _, el_NoHeap, rfl⟩, t_NoMoment := ⟨PySem.W.mg_of X G ea_NoMoment, _, _, _, _, _, _, _, _, _, _, _, _, _, _, _, _, _, el_NoMoment, rfl⟩, t_NotSound := ⟨PySem.W.mg_of X G ea_NotSound, _, _, _, _, _, _, _, _, _, _, _, _, _, _, _, _, _, el_NotSound, rfl⟩, t_NoRoom := ⟨PySem.W.mg_of X G ea_NoRoom, _, _, _, _, _, _, _, _, _, _, _, _, _, _, _, _, _, el_NoRoom, rfl⟩, t_NoPart := ⟨PySem.W.mg_of X G ea_NoPart, _, _, _, _, _, _, _, _, _, _, _, _, _, _, _, _, _, el_NoPart, rfl⟩, t_NoFile := ⟨PySem.W.mg_of X G ea_NoFile, _, _, _, _, _, _, _, _, _, _, _, _, _, _, _, _, _, el_NoFile, rfl⟩, t_NoName := ⟨PySem.W.mg_of X G ea_NoName, _, _, _, _, _, _, _, _, _, _, _, _, _, _, _, _, _, el_NoName, rfl⟩, t_Taken := ⟨PySem.W.mg_of X G ea_Taken, _, _, _, _, _, _, _, _, _, _, _, _, _, _, _, _, _, el_Taken, rfl⟩, t_BadBytes := ⟨PySem.W.mg_of X G ea_BadBytes, _, _, _, _, _, _, _, _, _, _, _, _, _, _, _, _, _, el_BadBytes, rfl⟩, t_BadRow := ⟨PySem.W.mg_of X G ea_BadRow, _, _, _, _, _, _, _, _, _, _, _, _, _, _, _, _, _, el_BadRow, rfl⟩, t_BadText := ⟨PySem.W.mg_of X G ea_BadText, _, _, _, _, _, _, _, _, _, _, _, _, _, _, _, _, _, el_BadText, rfl⟩, c_NoRoom := ⟨PySem.W.mg_of X G ea_NoRoom, eK_NoRoom, ⟨_, _, _, _, _, _, _, _, _, _, _, _, _, _, _, _, el_NoRoom, rfl, Xc.ns_ok_of eN_NoRoom eA_NoRoom, eI_NoRoom, Xc.tail_one el_StoreError (Xc.ns_ok_of exS exA) exI⟩⟩, a_NoRoom := ⟨e1_NoRoom, e2_NoRoom, e3_NoRoom, e4_NoRoom, e5_NoRoom, exG, exK⟩, Room := CI_Room, m_Room := PySem.W.mg_of X G iC_Room, cl_Room := ⟨ipg_Room, ihd_Room, ipo_Room, isa_Room⟩, na_Room_most_rows := ina0_Room, na_Room_held_rows := ina1_Room, na_Room_peak_rows := ina2_Room, m_top := em_NoRoom_StoreError, i_val := (Xc.kit_ty (by decide +kernel) em_NoRoom_ValueError), i_NoRoom := (Xc.kit_no el_NoRoom el_NoRoom em_NoRoom_NoRoom), i_any1 := (Xc.kit_cons (Xc.kit_no el_NoRoom el_BadBytes em_NoRoom_BadBytes) (Xc.kit_cons (Xc.kit_no el_NoRoom el_BadRow em_NoRoom_BadRow) (Xc.kit_cons (Xc.kit_no el_NoRoom el_BadText em_NoRoom_BadText) (Xc.kit_cons (Xc.kit_no el_NoRoom el_NoFile em_NoRoom_NoFile) (Xc.kit_cons (Xc.kit_no el_NoRoom el_NoHeap em_NoRoom_NoHeap) (Xc.kit_cons (Xc.kit_no el_NoRoom el_NoMoment em_NoRoom_NoMoment) (Xc.kit_cons (Xc.kit_no el_NoRoom el_NoName em_NoRoom_NoName) (Xc.kit_cons (Xc.kit_no el_NoRoom el_NoPart em_NoRoom_NoPart) rfl)))))))), i_any2 := (Xc.kit_cons (Xc.kit_no el_NoRoom el_NoRow em_NoRoom_NoRow) (Xc.kit_cons (Xc.kit_no el_NoRoom el_NotSound em_NoRoom_NotSound) (Xc.kit_cons (Xc.kit_no el_NoRoom el_Taken em_NoRoom_Taken) rfl))) }, rfl⟩
  subst hes_Room
  have B_begin := ok_begin (P := l.prog) (w := w) (base := base) (j := 0) D_begin.F Z 
  have G_begin := B_begin
  have B_take := ok_take (P := l.prog) (w := w) (base := base) (j := 0) D_take.F Z 
  have G_take := L2.FnOk.imp (sp' := spD K dsTake) B_take (fun _ _ _ _ h => br_take h)
  have B_same := ok_same (P := l.prog) (w := w) (base := base) D_same Z 4
  have G_same := L2.FnOk.imp (sp' := spD K (dsSame 4)) B_same (fun _ _ _ _ h => br_same h)
  have G_p_Room_peak := okd_p_Room_peak (P := l.prog) (w := w) (base := base) (j := 0) D_p_Room_peak.F Z es 
  have G_p_Room_held := okd_p_Room_held (P := l.prog) (w := w) (base := base) (j := 0) D_p_Room_held.F Z es 
  have G_p_Room_most := okd_p_Room_most (P := l.prog) (w := w) (base := base) (j := 0) D_p_Room_most.F Z es 
  have G_as_counted := okd_as_counted (P := l.prog) (w := w) (base := base) (j := 4) D_as_counted.F Z es D_same (L2.FnOk.framed (G_same.mono (by decide)) cxm0) D_p_Room_peak (G_p_Room_peak.mono (by decide)) D_p_Room_held (G_p_Room_held.mono (by decide)) D_p_Room_most (G_p_Room_most.mono (by decide))
  have G_p_Room_hold := okd_p_Room_hold (P := l.prog) (w := w) (base := base) (j := 0) D_p_Room_hold.F Z es 
  have G_p_Room_free := okd_p_Room_free (P := l.prog) (w := w) (base := base) (j := 0) D_p_Room_free.F Z es 
  have G_tried := okd_tried (P := l.prog) (w := w) (base := base) (j := 1) D_tried.F Z es D_p_Room_hold (G_p_Room_hold.mono (by decide)) D_p_Room_free (G_p_Room_free.mono (by decide))
  have G_p_Room___init__ := okd_p_Room___init__ (P := l.prog) (w := w) (base := base) (j := 0) D_p_Room___init__.F Z es 
  exact okd_p_law (j := 4) D_p_law.F Z es D_begin (G_begin.mono (by decide)) D_take (L2.FnOk.framed (G_take.mono (by decide)) cxm0) D_as_counted (G_as_counted.mono (by decide)) D_tried (G_tried.mono (by decide)) D_p_Room___init__ (G_p_Room___init__.mono (by decide))
theorem walk {l : PySem.W.OpenLaw} {p : Program} {loose : List Str} {XP : (Str → Option Value) → Heap → Prop} {YP : World → Heap → Prop} {d : DefRec} {K : Params → PySem.W.Frag} (hn : l.most = some 63) (hdf : d.params.defaults = [])
    (hY : ∀ (w : World) (h : Heap), YP w h → (K w.params).In h)
    (F : ∀ (w : World) (mg : Str → Option Value) (fa : Addr) (h : Heap), (K w.params).In h → h.Ns mainGlobals mg → mg d.name = some (.ref fa) →
      ∃ fd : FuncData, (∀ (s : Shared) (u : Value), BindsTo s fd ⟨[u], []⟩ [("_law_script", u)]) ∧ ∀ base : Heap, (K w.params).In base → base.Ns mainGlobals mg → FnOk l.prog w (K w.params) mg base CX0 6 fa fd ["_law_script"] (Dd.spLawD (K w.params))) :
    PySem.W.WalkO p loose XP YP l.row.toRowW d [] (fun f vs => PySem.call f vs) :=
  L2.walk_of (n := 63) (k := 6) (x := "_law_script") (CX := fun _ => CX0) (sp := fun w => Dd.spLawD (K w.params)) hn (by decide) hdf ⟨rfl, by decide, by decide, rfl⟩ hY F (fun _ _ a ns hl _ hS => ⟨a, ns, rfl, hS, fun _ => rfl⟩) fun _ _ _ _ _ z => z
end K52
open PySem PySem.W PyProof.Rows
set_option maxRecDepth 100000 in
set_option maxHeartbeats 0 in
theorem PySem.Challenge.cw_pillarstore_k52_rooms_holds : PySem.Challenge.rw_pillarstore_k52_rooms.Holds := by
  w_on; o_law; k_head; (case hw => w_witness2)
  k_fill
  refine K52.walk (l := PySem.Challenge.rw_pillarstore_k52_rooms) rfl rfl (fun w h Y => by first | exact PySem.W.kIn_of Y | exact PySem.W.km_in_of Y) ?F
  case F =>
    intro w mg fa h KX G hmg
    refine' K52.all_mk KX G hmg ?iC_Room ?ipg_Room ?ihd_Room ?ipo_Room ?isa_Room ?imk_Room ?ikc_Room ?ina0_Room ?ina1_Room ?ina2_Room ?a_take ?l_take ?c_take ?k_take ?a_begin ?l_begin ?c_begin ?k_begin ?a_same ?l_same ?c_same ?k_same ?a_p_Room___init__ ?i_p_Room___init__ ?l_p_Room___init__ ?c_p_Room___init__ ?k_p_Room___init__ ?a_p_Room_hold ?i_p_Room_hold ?l_p_Room_hold ?c_p_Room_hold ?k_p_Room_hold ?a_p_Room_free ?i_p_Room_free ?l_p_Room_free ?c_p_Room_free ?k_p_Room_free ?a_p_Room_most ?i_p_Room_most ?l_p_Room_most ?c_p_Room_most ?k_p_Room_most ?a_p_Room_held ?i_p_Room_held ?l_p_Room_held ?c_p_Room_held ?k_p_Room_held ?a_p_Room_peak ?i_p_Room_peak ?l_p_Room_peak ?c_p_Room_peak ?k_p_Room_peak ?a_tried ?l_tried ?c_tried ?k_tried ?a_as_counted ?l_as_counted ?c_as_counted ?k_as_counted ?a_p_law ?l_p_law ?c_p_law ?k_p_law ?z_divmod ?z_len ?z_list ?z_isinstance ?z_bool ?z_int ?z_str ?z_tuple ?z_all ?z_zip ?z_dict ?z_max ?z_ValueError ?z_range ?ea_StoreError ?el_StoreError ?ea_NoRow ?el_NoRow ?ea_NoHeap ?el_NoHeap ?ea_NoMoment ?el_NoMoment ?ea_NotSound ?el_NotSound ?ea_NoRoom ?el_NoRoom ?ea_NoPart ?el_NoPart ?ea_NoFile ?el_NoFile ?ea_NoName ?el_NoName ?ea_Taken ?el_Taken ?ea_BadBytes ?el_BadBytes ?ea_BadRow ?el_BadRow ?ea_BadText ?el_BadText ?eN_NoRoom ?eA_NoRoom ?eI_NoRoom ?eK_NoRoom ?e1_NoRoom ?e2_NoRoom ?e3_NoRoom ?e4_NoRoom ?e5_NoRoom ?exS ?exA ?exI ?exG ?exK ?em_NoRoom_StoreError ?em_NoRoom_ValueError ?em_NoRoom_NoRoom ?em_NoRoom_NoPart ?em_NoRoom_NoName ?em_NoRoom_NoMoment ?em_NoRoom_NoHeap ?em_NoRoom_NoFile ?em_NoRoom_BadText ?em_NoRoom_BadRow ?em_NoRoom_BadBytes ?em_NoRoom_Taken ?em_NoRoom_NotSound ?em_NoRoom_NoRow
    (case iC_Room => k_is); (case ipg_Room => k_is); (case ihd_Room => k_is); (case ipo_Room => k_is); (case isa_Room => k_is); (case imk_Room => k_is); (case ikc_Room => k_is); (case ina0_Room => k_is)
    (case ina1_Room => k_is); (case ina2_Room => k_is); (case a_take => k_is); (case l_take => k_is); (case c_take => k_is); (case k_take => k_is); (case a_begin => k_is); (case l_begin => k_is)
    (case c_begin => k_is); (case k_begin => k_is); (case a_same => k_is); (case l_same => k_is); (case c_same => k_is); (case k_same => k_is); (case a_p_Room___init__ => k_is); (case i_p_Room___init__ => k_is)
    (case l_p_Room___init__ => k_is); (case c_p_Room___init__ => k_is); (case k_p_Room___init__ => k_is); (case a_p_Room_hold => k_is); (case i_p_Room_hold => k_is); (case l_p_Room_hold => k_is); (case c_p_Room_hold => k_is); (case k_p_Room_hold => k_is)
    (case a_p_Room_free => k_is); (case i_p_Room_free => k_is); (case l_p_Room_free => k_is); (case c_p_Room_free => k_is); (case k_p_Room_free => k_is); (case a_p_Room_most => k_is); (case i_p_Room_most => k_is); (case l_p_Room_most => k_is)
    (case c_p_Room_most => k_is); (case k_p_Room_most => k_is); (case a_p_Room_held => k_is); (case i_p_Room_held => k_is); (case l_p_Room_held => k_is); (case c_p_Room_held => k_is); (case k_p_Room_held => k_is); (case a_p_Room_peak => k_is)
    (case i_p_Room_peak => k_is); (case l_p_Room_peak => k_is); (case c_p_Room_peak => k_is); (case k_p_Room_peak => k_is); (case a_tried => k_is); (case l_tried => k_is); (case c_tried => k_is); (case k_tried => k_is)
    (case a_as_counted => k_is); (case l_as_counted => k_is); (case c_as_counted => k_is); (case k_as_counted => k_is); (case a_p_law => k_is); (case l_p_law => k_is); (case c_p_law => k_is); (case k_p_law => k_is)
    (case z_divmod => k_is); (case z_len => k_is); (case z_list => k_is); (case z_isinstance => k_is); (case z_bool => k_is); (case z_int => k_is); (case z_str => k_is); (case z_tuple => k_is)
    (case z_all => k_is); (case z_zip => k_is); (case z_dict => k_is); (case z_max => k_is); (case z_ValueError => k_is); (case z_range => k_is); (case ea_StoreError => k_is); (case el_StoreError => k_is)
    (case ea_NoRow => k_is); (case el_NoRow => k_is); (case ea_NoHeap => k_is); (case el_NoHeap => k_is); (case ea_NoMoment => k_is); (case el_NoMoment => k_is); (case ea_NotSound => k_is); (case el_NotSound => k_is)
    (case ea_NoRoom => k_is); (case el_NoRoom => k_is); (case ea_NoPart => k_is); (case el_NoPart => k_is); (case ea_NoFile => k_is); (case el_NoFile => k_is); (case ea_NoName => k_is); (case el_NoName => k_is)
    (case ea_Taken => k_is); (case el_Taken => k_is); (case ea_BadBytes => k_is); (case el_BadBytes => k_is); (case ea_BadRow => k_is); (case el_BadRow => k_is); (case ea_BadText => k_is); (case el_BadText => k_is)
    (case eN_NoRoom => k_is); (case eA_NoRoom => rfl); (case eI_NoRoom => k_is); (case eK_NoRoom => k_is); (case e1_NoRoom => k_is); (case e2_NoRoom => k_is); (case e3_NoRoom => k_is); (case e4_NoRoom => k_is)
    (case e5_NoRoom => k_is); (case exS => k_is); (case exA => rfl); (case exI => k_is); (case exG => k_is); (case exK => k_is); (case em_NoRoom_StoreError => k_is); (case em_NoRoom_ValueError => k_is)
    (case em_NoRoom_NoRoom => k_is); (case em_NoRoom_NoPart => k_is); (case em_NoRoom_NoName => k_is); (case em_NoRoom_NoMoment => k_is); (case em_NoRoom_NoHeap => k_is); (case em_NoRoom_NoFile => k_is); (case em_NoRoom_BadText => k_is); (case em_NoRoom_BadRow => k_is)
    (case em_NoRoom_BadBytes => k_is); (case em_NoRoom_Taken => k_is); (case em_NoRoom_NotSound => k_is); (case em_NoRoom_NoRow => k_is)
