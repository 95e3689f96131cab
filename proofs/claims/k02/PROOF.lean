import PyProof.Rows.All
import Wide.All
import OpenK.AllK
import Wide.FinOn
import Lean
import PyProof.EqAt
import PyProof.EqKinds
import PyProof.TupleCall
import PySem.Challenge.RW_codemill_k02_written
-- CHANGE: your row's module here, as the last of these rows
set_option Elab.async false
set_option linter.all false
set_option maxRecDepth 100000
/-! THE HAND LAYER, for ints, bools, texts, own classes, LISTS and tuples (index, slices, in, append, pop ..), calls, loops. Paste it whole ahead of your own text; what your proof does not reach may be deleted. -/
namespace L2
open PySem PySem.Spec PyProof.Rows

/-- a key: an int or a str -/
abbrev Key := Sum Int Str
def keyIs : Key → Value → Bool
  | .inl k, v => Value.isInt k v
  | .inr x, v => Value.isStrOf x v
def keyH (w : World) : Key → Int
  | .inl k => hashInt k
  | .inr x => hashStr w x
theorem keyIs_shape : ∀ {k : Key} {v : Value}, keyIs k v = true → (∃ i t, k = Sum.inl i ∧ v = Value.int i t) ∨ (∃ x t, k = Sum.inr x ∧ v = Value.str x t)
  | .inl i, v, h => by
    obtain ⟨t, e⟩ := Value.isInt_shape (k := i) (v := v) h
    exact .inl ⟨i, t, rfl, e⟩
  | .inr x, v, h => by
    obtain ⟨t, e⟩ := Value.isStrOf_shape (x := x) (v := v) h
    exact .inr ⟨x, t, rfl, e⟩
theorem keyIs_int (i : Int) (t : Tok) : keyIs (.inl i) (.int i t) = true := by simp [keyIs, Value.isInt]
theorem keyIs_str (x : Str) (t : Tok) : keyIs (.inr x) (.str x t) = true := by simp [keyIs, Value.isStrOf]
theorem key_ll (a b : Int) : decide ((Sum.inl a : Key) = Sum.inl b) = (a == b) := by
  by_cases e : a = b
  · subst e; simp
  · have h : ¬ (Sum.inl a : Key) = Sum.inl b := fun q => e (Sum.inl.inj q)
    rw [decide_eq_false h]
    exact (beq_eq_false_iff_ne.mpr e).symm
theorem key_rr (a b : Str) : decide ((Sum.inr a : Key) = Sum.inr b) = decide (a = b) := by
  by_cases e : a = b
  · subst e; simp
  · have h : ¬ (Sum.inr a : Key) = Sum.inr b := fun q => e (Sum.inr.inj q)
    rw [decide_eq_false h, decide_eq_false e]
theorem key_lr (a : Int) (b : Str) : decide ((Sum.inl a : Key) = Sum.inr b) = false := decide_eq_false (fun q => nomatch q)
theorem key_rl (a : Str) (b : Int) : decide ((Sum.inr a : Key) = Sum.inl b) = false := decide_eq_false (fun q => nomatch q)

def mixKind (prog : Program) (w : World) : PySem.KeyKind prog w Key where
  is := keyIs
  hash := keyH w
  inj := fun v a b ha hb => by
    rcases keyIs_shape ha with ⟨i, t, rfl, rfl⟩ | ⟨x, t, rfl, rfl⟩
    · rcases keyIs_shape hb with ⟨j, u, rfl, e⟩ | ⟨y, u, rfl, e⟩
      · injection e with e1 _; rw [e1]
      · exact nomatch e
    · rcases keyIs_shape hb with ⟨j, u, rfl, e⟩ | ⟨y, u, rfl, e⟩
      · exact nomatch e
      · injection e with e1 _; rw [e1]
  byValue := fun k v h => by
    rcases keyIs_shape h with ⟨i, t, rfl, rfl⟩ | ⟨x, t, rfl, rfl⟩ <;> rfl
  pyHash := fun hv h => by
    rcases keyIs_shape hv with ⟨i, t, rfl, rfl⟩ | ⟨x, t, rfl, rfl⟩
    · exact wpAny_pyHash_int h
    · exact wpAny_pyHash_str h
  eqBool := fun hu hv h => by
    rcases keyIs_shape hu with ⟨i, t, rfl, rfl⟩ | ⟨x, t, rfl, rfl⟩
    · rcases keyIs_shape hv with ⟨j, u, rfl, rfl⟩ | ⟨y, u, rfl, rfl⟩
      · rw [key_ll] at h; exact wpAny_eqBool_int h
      · rw [key_lr] at h; exact SeqAt.EqAt.int_str i t y u _ _ _ _ h
    · rcases keyIs_shape hv with ⟨j, u, rfl, rfl⟩ | ⟨y, u, rfl, rfl⟩
      · rw [key_rl] at h; exact SeqAt.EqAt.str_int x t j u _ _ _ _ h
      · rw [key_rr] at h; exact wpAny_eqBool_str h
  «strs» := fun k x t v h => by
    rcases keyIs_shape h with ⟨i, u, rfl, e⟩ | ⟨y, u, rfl, e⟩
    · exact nomatch e
    · injection e with e1 _
      subst e1
      cases v <;> rfl

theorem mixKind_is (prog : Program) (w : World) (k : Key) (v : Value) : (mixKind prog w).is k v = keyIs k v := rfl
theorem mixKind_int (prog : Program) (w : World) (i : Int) (t : Tok) : (mixKind prog w).is (.inl i) (.int i t) = true := keyIs_int i t
theorem mixKind_str (prog : Program) (w : World) (x : Str) (t : Tok) : (mixKind prog w).is (.inr x) (.str x t) = true := keyIs_str x t
end L2

namespace L2
open PySem PySem.Spec PyProof.Rows

/-- a value, without the heap -/
inductive V where
  | non | bl (b : Bool) | int (i : Int) | str (x : Str) | byt (b : Array UInt8) | flt (b : UInt64) | ref (a : Addr) | ty (n : String)
  deriving DecidableEq

def RelV : V → Value → Prop
  | .non, u => u = Value.none
  | .bl b, u => u = Value.bool b
  | .int i, u => ∃ t, u = Value.int i t
  | .str x, u => ∃ t, u = Value.str x t
  | .byt b, u => ∃ t, u = Value.bytes b t
  | .flt b, u => ∃ t, u = Value.float b t
  | .ref a, u => u = Value.ref a
  | .ty n, u => u = Value.type n

abbrev Vals : List V → List Value → Prop := Paired RelV
theorem Vals.length {xs : List V} {us : List Value} (r : Vals xs us) : xs.length = us.length := Paired.length r
theorem Vals.get : ∀ {xs : List V} {us : List Value} {i : Nat} {x : V}, Vals xs us → xs[i]? = some x → ∃ u, us[i]? = some u ∧ RelV x u
  | _, _, _, _, .nil, e => by simp at e
  | _, _, 0, _, .cons r _, e => by simp at e; subst e; exact ⟨_, rfl, r⟩
  | _, _, i + 1, x, .cons _ t, e => by
    obtain ⟨u, h1, h2⟩ := Vals.get (i := i) (x := x) t (by simpa using e)
    exact ⟨u, by simpa using h1, h2⟩
theorem Vals.set {x : V} {u : Value} (r : RelV x u) : ∀ {xs : List V} {us : List Value} (i : Nat), Vals xs us → Vals (xs.set i x) (us.set i u)
  | _, _, _, .nil => .nil
  | _, _, 0, .cons _ t => .cons r t
  | _, _, i + 1, .cons q t => .cons q (Vals.set r i t)
theorem Vals.append : ∀ {xs ys : List V} {us ws : List Value}, Vals xs us → Vals ys ws → Vals (xs ++ ys) (us ++ ws)
  | _, _, _, _, .nil, s => s
  | _, _, _, _, .cons r t, s => .cons r (Vals.append t s)
theorem Vals.take : ∀ {xs : List V} {us : List Value} (n : Nat), Vals xs us → Vals (xs.take n) (us.take n)
  | _, _, 0, _ => .nil
  | _, _, _ + 1, .nil => .nil
  | _, _, n + 1, .cons r t => .cons r (Vals.take n t)
theorem Vals.drop : ∀ {xs : List V} {us : List Value} (n : Nat), Vals xs us → Vals (xs.drop n) (us.drop n)
  | _, _, 0, r => r
  | _, _, _ + 1, .nil => .nil
  | _, _, n + 1, .cons _ t => Vals.drop n t
theorem Vals.none_of : ∀ {xs : List V} {us : List Value} {i : Nat}, Vals xs us → xs[i]? = none → us[i]? = none := fun {xs us i} r e => by
  have h1 := r.length
  have h2 : xs.length ≤ i := List.getElem?_eq_none_iff.mp e
  exact List.getElem?_eq_none_iff.mpr (by omega)

def RelO : Option V → Option Value → Prop
  | some v, some u => RelV v u
  | none, none => True
  | _, _ => False
def KV {κ : Type} : List (κ × V) → List (κ × Value) → Prop := Paired fun (p : κ × V) (q : κ × Value) => p.1 = q.1 ∧ RelV p.2 q.2

/-- a key of a dict (00_mix): an int or a text -/
def kV : Key → V
  | .inl i => .int i
  | .inr x => .str x

/-- what stands at a tracked address -/
inductive HO where
  /-- a list -/
  | lst (xs : List V)
  /-- a tuple (never changes) -/
  | tup (xs : List V)
  /-- a dict whose keys are ints and texts; one whose keys are tuples of ints and texts (the empty one is both) -/
  | dK (kvs : List (Key × V)) | dT (kvs : List (List Key × V))
  /-- a set of ints: its members, its size -/
  | set (S : Int → Bool) (n : Nat)
  /-- an instance of the class at C, its dict at dx, its attributes -/
  | ins (C dx : Addr) (fs : List (Str × V))
  /-- the dict of the instance at x -/
  | own (x : Addr)
  /-- the dict of an exception -/
  | xd (fs : List (Str × V))
  /-- a bound method, f of x -/
  | met (f x : Addr)
  /-- a range object lo, lo + 1, .. below hi -/
  | rng (lo hi : Int)
  /-- a thing that is known to the object (the script; a dict while a loop walks it): read, never written while it is so -/
  | frz (o : Obj) (u : HO)
  /-- a code object's table -/
  | tbl (ps : Array Value)
  /-- any other thing, by what is true of its one object (a def of one's own: SetO a S n := HO.ext fun h => ..) -/
  | ext (φ : Heap → Prop)

abbrev Hp := Addr → Option HO
def upd (H : Hp) (a : Addr) (o : HO) : Hp := fun b => if b = a then some o else H b
theorem upd_same {H : Hp} {a : Addr} {o : HO} : upd H a o a = some o := by unfold upd; rw [if_pos rfl]
theorem upd_ne {H : Hp} {a b : Addr} {o : HO} (h : b ≠ a) : upd H a o b = H b := by unfold upd; rw [if_neg h]
theorem upd_upd {H : Hp} {a : Addr} {o u : HO} : upd (upd H a o) a u = upd H a u := by
  funext b; unfold upd; split <;> rfl
/-- two objects of different content stand apart -/
theorem ne_of {H : Hp} {a b : Addr} {o u : HO} (h : H a = some o) (h' : H b = some u) (d : o ≠ u) : a ≠ b := by
  intro e; subst e; rw [h] at h'; exact d (Option.some.inj h')
theorem ne_of_none {H : Hp} {a b : Addr} {o : HO} (h : H a = some o) (h' : H b = none) : a ≠ b := by
  intro e; subst e; rw [h] at h'; cases h'

section
variable (P : Program) (w : World)
def ObjOk (H : Hp) (h : Heap) (a : Addr) : HO → Prop
  | .lst xs => xs.length ≤ sizeLine ∧ ∃ (its : List Value) (n : Nat), Vals xs its ∧ h.get? a = some { cls := .type "list", data := .seq its.toArray n }
  | .tup xs => xs.length ≤ sizeLine ∧ ∃ its : List Value, Vals xs its ∧ IsTup h a its.toArray
  | .dK kvs => kvs.length ≤ sizeLine ∧ (a == sysModules) = false ∧ ∃ vs, KV kvs vs ∧ h.DictOf (mixKind P w) a vs
  | .dT kvs => kvs.length ≤ sizeLine ∧ (a == sysModules) = false ∧ ∃ xs : List (List Key × Addr × Value),
      Paired (fun (p : List Key × V) (q : List Key × Addr × Value) => p.1 = q.1 ∧ H q.2.1 = some (.tup (p.1.map kV)) ∧ RelV p.2 q.2.2) kvs xs ∧
      ∃ o es ep, h.get? a = some o ∧ o.ExactDict ∧ o.data = .dict es ep ∧ es.toList = xs.map (entryOfKey (tupleKind (mixKind P w))) ∧ (xs.map (·.1)).Nodup
  | .set S n => h.SetOf (intKind P w) a S n
  | .ins C dx fs => H dx = some (.own a) ∧ fs.length ≤ 1000 ∧ dx ≠ a ∧ h.get? a = some (PySem.W.instObj C dx) ∧
      ∃ mA, h.Ns1 dx mA ∧ (∀ f, RelO (fs.lookup f) (mA f)) ∧ PySem.Within mA (fs.map (·.1))
  | .own _ => ∃ o, h.get? a = some o
  | .xd fs => ∃ mA, h.Ns1 a mA ∧ ∀ f, RelO (fs.lookup f) (mA f)
  | .rng lo hi => ∃ t u v, h.get? a = some { cls := .type "range", data := .fields #[.int lo t, .int hi u, .int 1 v] }
  | .frz o u => h.get? a = some o ∧ ObjOk H h a u
  | .tbl ps => h.get? a = some { cls := .none, data := .fields ps }
  | .met f x => h.get? a = some (PySem.W.methodObj (.ref f) (.ref x))
  | .ext φ => φ h ∧ (∃ o, h.get? a = some o) ∧ ∀ h1 h2 : Heap, φ h1 → (∀ o, h1.get? a = some o → h2.get? a = some o) → φ h2
/-- the abstract heap is held -/
def HOk (H : Hp) (h : Heap) : Prop := ∀ a o, H a = some o → ObjOk P w H h a o
end

section
variable {P : Program} {w : World} {H H' : Hp} {h h' : Heap} {a : Addr} {o : HO}
theorem ObjOk.lt (x : ObjOk P w H h a o) : a < h.objs.size := by
  cases o with
  | lst xs => obtain ⟨_, _, _, _, e⟩ := x; exact Heap.lt_size e
  | tup xs => obtain ⟨_, _, _, p⟩ := x; exact p.lt
  | dK kvs => obtain ⟨_, _, _, _, o, _, _, e, _⟩ := x; exact Heap.lt_size e
  | dT kvs => obtain ⟨_, _, _, _, o, _, _, e, _⟩ := x; exact Heap.lt_size e
  | set S n => obtain ⟨o, _, _, _, e, _⟩ := x; exact Heap.lt_size e
  | ins C dx fs => obtain ⟨_, _, _, e, _⟩ := x; exact Heap.lt_size e
  | own y => obtain ⟨_, e⟩ := x; exact Heap.lt_size e
  | xd fs => obtain ⟨_, ⟨_, _, _, e, _⟩, _⟩ := x; exact Heap.lt_size e
  | rng lo hi => obtain ⟨_, _, _, e⟩ := x; exact Heap.lt_size e
  | frz ob u => obtain ⟨e, _⟩ := x; exact Heap.lt_size e
  | tbl ps => exact Heap.lt_size (show h.get? a = some _ from x)
  | met f y => exact Heap.lt_size (show h.get? a = some _ from x)
  | ext φ => obtain ⟨_, ⟨_, e⟩, _⟩ := x; exact Heap.lt_size e
theorem Paired.mapP {α β : Type} {F G : α → β → Prop} : ∀ {l₁ : List α} {l₂ : List β}, Paired F l₁ l₂ → (∀ a b, F a b → G a b) → Paired G l₁ l₂
  | _, _, .nil, _ => .nil
  | _, _, .cons r t, f => .cons (f _ _ r) (Paired.mapP t f)
theorem Paired.imp' {α β : Type} {F G : α → β → Prop} (f : ∀ a b, F a b → G a b) {l₁ : List α} {l₂ : List β} (r : Paired F l₁ l₂) : Paired G l₁ l₂ := Paired.mapP r f
/-- what an object's description leans on: its own object, its own dict, the tuples -/
theorem ObjOk.stay (x : ObjOk P w H h a o) (k : ∀ b u, (b = a ∨ H b = some (.own a)) → h.get? b = some u → h'.get? b = some u)
    (ho : ∀ b, H b = some (.own a) → H' b = some (.own a)) (ht : ∀ b xs, H b = some (.tup xs) → H' b = some (.tup xs)) : ObjOk P w H' h' a o := by
  induction o with
  | lst xs => obtain ⟨z, its, n, r, e⟩ := x; exact ⟨z, its, n, r, k _ _ (.inl rfl) e⟩
  | tup xs => obtain ⟨z, its, r, ob, e, c⟩ := x; exact ⟨z, its, r, ob, k _ _ (.inl rfl) e, c⟩
  | dK kvs => obtain ⟨z, y, vs, r, ob, es, ep, e, c⟩ := x; exact ⟨z, y, vs, r, ob, es, ep, k _ _ (.inl rfl) e, c⟩
  | dT kvs =>
    obtain ⟨z, y, xs, r, ob, es, ep, e, c⟩ := x
    exact ⟨z, y, xs, Paired.mapP r fun p q z => ⟨z.1, ht _ _ z.2.1, z.2.2⟩, ob, es, ep, k _ _ (.inl rfl) e, c⟩
  | set S n => obtain ⟨ob, es, ep, t, e, c⟩ := x; exact ⟨ob, es, ep, t, k _ _ (.inl rfl) e, c⟩
  | ins C dx fs =>
    obtain ⟨d, z, ne, e, mA, ⟨od, es, ep, e2, c⟩, r⟩ := x
    exact ⟨ho _ d, z, ne, k _ _ (.inl rfl) e, mA, ⟨od, es, ep, k _ _ (.inr d) e2, c⟩, r⟩
  | own y => obtain ⟨ob, e⟩ := x; exact ⟨ob, k _ _ (.inl rfl) e⟩
  | xd fs => obtain ⟨mA, ⟨od, es, ep, e, c⟩, r⟩ := x; exact ⟨mA, ⟨od, es, ep, k _ _ (.inl rfl) e, c⟩, r⟩
  | rng lo hi => obtain ⟨t, u, v, e⟩ := x; exact ⟨t, u, v, k _ _ (.inl rfl) e⟩
  | frz ob u ih => obtain ⟨e, q⟩ := x; exact ⟨k _ _ (.inl rfl) e, ih q⟩
  | tbl ps =>
    have e : h.get? a = some { cls := .none, data := .fields ps } := x
    show h'.get? a = some { cls := .none, data := .fields ps }
    exact k a _ (.inl rfl) e
  | met f y =>
    have e : h.get? a = some (PySem.W.methodObj (.ref f) (.ref y)) := x
    show h'.get? a = some (PySem.W.methodObj (.ref f) (.ref y))
    exact k a _ (.inl rfl) e
  | ext φ => obtain ⟨p, ⟨o, e⟩, st⟩ := x; exact ⟨st _ _ p fun o q => k _ _ (.inl rfl) q, ⟨o, k _ _ (.inl rfl) e⟩, st⟩
theorem HOk.lt (x : HOk P w H h) (e : H a = some o) : a < h.objs.size := (x a o e).lt
theorem HOk.fresh (x : HOk P w H h) (e : h.objs.size ≤ a) : H a = none := by
  cases q : H a with
  | none => rfl
  | some u => exact absurd (Nat.lt_of_lt_of_le (x.lt q) e) (Nat.lt_irrefl _)
/-- every object of the heap is kept -/
theorem HOk.kept (x : HOk P w H h) (k : ∀ b u, h.get? b = some u → h'.get? b = some u) : HOk P w H h' := fun a o e =>
  (x a o e).stay (fun b u _ q => k b u q) (fun _ q => q) fun _ _ q => q
/-- a new object is laid and tracked -/
theorem HOk.laid (x : HOk P w H h) (k : ∀ b u, h.get? b = some u → h'.get? b = some u) (hp : h.objs.size ≤ a) (new : ObjOk P w (upd H a o) h' a o) : HOk P w (upd H a o) h' := fun b u e => by
  have hn := x.fresh hp
  by_cases hb : b = a
  · subst hb; rw [upd_same] at e; cases e; exact new
  · rw [upd_ne hb] at e
    exact (x b u e).stay (fun c v _ q => k c v q) (fun c q => by rw [upd_ne (ne_of_none q hn)]; exact q) fun c xs q => by rw [upd_ne (ne_of_none q hn)]; exact q
end

/-- what may be read as u: it is u, or a known u -/
def Rd (H : Hp) (a : Addr) (u : HO) : Prop := H a = some u ∨ ∃ o, H a = some (.frz o u)
theorem Rd.of {H : Hp} {a : Addr} {u : HO} (h : H a = some u) : Rd H a u := .inl h
theorem Rd.ok {P : Program} {w : World} {H : Hp} {h : Heap} {a : Addr} {u : HO} (r : Rd H a u) (x : HOk P w H h) : ObjOk P w H h a u := by
  rcases r with r | ⟨o, r⟩
  · exact x a u r
  · obtain ⟨_, q⟩ := x a _ r
    exact q
/-- what may be written -/
def Mut : Option HO → Prop
  | some (.lst _) => True
  | some (.dK _) => True
  | some (.dT _) => True
  | some (.set _ _) => True
  | some (.ins _ _ _) => True
  | some (.ext _) => True
  | _ => False
section
variable {P : Program} {w : World} {H : Hp} {h h' : Heap} {x e : Addr} {o' : HO}
/-- the object at e is changed: x itself, or the dict of the instance x -/
theorem HOk.write (ok : HOk P w H h) (mu : Mut (H x)) (he : e = x ∨ H e = some (.own x)) (k : ∀ b u, b ≠ e → h.get? b = some u → h'.get? b = some u) (heo : ∃ u, h'.get? e = some u)
    (new : ObjOk P w (upd H x o') h' x o') : HOk P w (upd H x o') h' := fun b u q => by
  have nown : ∀ c y, H c = some (.own y) → c ≠ x := fun c y r z => by subst z; rw [r] at mu; exact mu
  have ntup : ∀ c xs, H c = some (.tup xs) → c ≠ x := fun c xs r z => by subst z; rw [r] at mu; exact mu
  by_cases hb : b = x
  · subst hb; rw [upd_same] at q; cases q; exact new
  · rw [upd_ne hb] at q
    by_cases hbe : b = e
    · have q' : H b = some (.own x) := by
        rcases he with z | z
        · exact absurd (hbe.trans z) hb
        · rw [hbe]; exact z
      rw [q] at q'; cases q'
      obtain ⟨v, hv⟩ := heo
      exact ⟨v, by rw [hbe]; exact hv⟩
    · refine (ok b u q).stay (fun c v hc r => k c v ?_ r) (fun c r => by rw [upd_ne (nown c b r)]; exact r) fun c xs r => by rw [upd_ne (ntup c xs r)]; exact r
      rcases hc with rfl | hc
      · exact hbe
      · rintro rfl
        rcases he with z | z
        · exact nown c b hc z
        · rw [hc] at z; cases z; exact hb rfl
end

/-! ### kept unless tracked; of the frames at fs (the callers') the slots may change (an exception that passes writes there); of the records at ex (iterators) nothing is said -/
structure Un (fs ex : List Addr) (H H' : Hp) (h h' : Heap) : Prop where
  keep : ∀ b o, h.get? b = some o → H b = none → b ∉ fs → b ∉ ex → h'.get? b = some o
  slot : ∀ b o, h.get? b = some o → H b = none → b ∈ fs → b ∉ ex → ∃ sl, h'.get? b = some { o with slots := sl }
  free : ∀ b o, h.get? b = some o → H b = none → b ∉ ex → H' b = none
  there : ∀ b o, h.get? b = some o → b ∉ ex → ∃ o', h'.get? b = some o'
  tups : ∀ b xs, H b = some (.tup xs) → H' b = some (.tup xs)
  frzs : ∀ b o u, H b = some (.frz o u) → H' b = some (.frz o u)
  tbls : ∀ b ps, H b = some (.tbl ps) → ∃ more, H' b = some (.tbl (ps ++ more))
section
variable {fs fs' ex ex' : List Addr} {H H1 H2 : Hp} {h h1 h2 h' : Heap} {a x e : Addr} {o : HO}
theorem Un.any (u : Un fs ex H H1 h h1) {b : Addr} {ob : Obj} (q : h.get? b = some ob) (n : H b = none) (hx : b ∉ ex) : ∃ sl, h1.get? b = some { ob with slots := sl } := by
  by_cases hb : b ∈ fs
  · exact u.slot b ob q n hb hx
  · exact ⟨ob.slots, u.keep b ob q n hb hx⟩
theorem Un.trans (a : Un fs ex H H1 h h1) (b : Un fs ex H1 H2 h1 h2) : Un fs ex H H2 h h2 where
  keep := fun c ob q n hc hx => b.keep c ob (a.keep c ob q n hc hx) (a.free c ob q n hx) hc hx
  slot := fun c ob q n hc hx => by
    obtain ⟨sl, e1⟩ := a.slot c ob q n hc hx
    obtain ⟨sl', e2⟩ := b.slot c _ e1 (a.free c ob q n hx) hc hx
    exact ⟨sl', e2⟩
  free := fun c ob q n hx => by
    obtain ⟨o', e1⟩ := a.there c ob q hx
    exact b.free c o' e1 (a.free c ob q n hx) hx
  there := fun c ob q hx => by
    obtain ⟨o', e1⟩ := a.there c ob q hx
    exact b.there c o' e1 hx
  tups := fun c xs q => b.tups c xs (a.tups c xs q)
  frzs := fun c ob xs q => b.frzs c ob xs (a.frzs c ob xs q)
  tbls := fun c ps q => by
    obtain ⟨m1, e1⟩ := a.tbls c ps q
    obtain ⟨m2, e2⟩ := b.tbls c _ e1
    exact ⟨m1 ++ m2, by rw [e2, Array.append_assoc]⟩
theorem Un.kept (k : ∀ b u, h.get? b = some u → h'.get? b = some u) : Un fs ex H H h h' :=
  ⟨fun b ob q _ _ _ => k b ob q, fun b ob q _ _ _ => ⟨ob.slots, k b ob q⟩, fun _ _ _ n _ => n, fun b ob q _ => ⟨ob, k b ob q⟩, fun _ _ q => q, fun _ _ _ q => q, fun _ ps q => ⟨#[], by rw [q]; simp⟩⟩
theorem Un.refl : Un fs ex H H h h := Un.kept fun _ _ q => q
theorem Un.laid (k : ∀ b u, h.get? b = some u → h'.get? b = some u) (hp : h.objs.size ≤ a) (hn : H a = none) : Un fs ex H (upd H a o) h h' where
  keep := fun b u q _ _ _ => k b u q
  slot := fun b u q _ _ _ => ⟨u.slots, k b u q⟩
  free := fun b u q n _ => by rw [upd_ne (Nat.ne_of_lt (Nat.lt_of_lt_of_le (Heap.lt_size q) hp))]; exact n
  there := fun b u q _ => ⟨u, k b u q⟩
  tups := fun b xs q => by rw [upd_ne (ne_of_none q hn)]; exact q
  frzs := fun b u xs q => by rw [upd_ne (ne_of_none q hn)]; exact q
  tbls := fun b ps q => ⟨#[], by rw [upd_ne (ne_of_none q hn), q]; simp⟩
theorem Un.write (mu : Mut (H x)) (he : e = x ∨ H e = some (.own x)) (k : ∀ b u, b ≠ e → h.get? b = some u → h'.get? b = some u) (heo : ∃ u, h'.get? e = some u) : Un fs ex H (upd H x o) h h' := by
  have hx : ∀ b, H b = none → b ≠ x := fun b n z => by subst z; rw [n] at mu; exact mu
  have hb : ∀ b, H b = none → b ≠ e := fun b n z => by
    subst z
    rcases he with r | r
    · exact hx b n r
    · rw [n] at r; cases r
  have hm : ∀ b u, H b = some u → ¬ Mut (some u) → b ≠ x := fun b u q nm z => by subst z; rw [q] at mu; exact nm mu
  refine ⟨fun b u q n _ _ => k b u (hb b n) q, fun b u q n _ _ => ⟨u.slots, k b u (hb b n) q⟩, fun b u q n _ => by rw [upd_ne (hx b n)]; exact n, fun b u q _ => ?_,
    fun b xs q => by rw [upd_ne (hm b _ q fun z => z)]; exact q, fun b u xs q => by rw [upd_ne (hm b _ q fun z => z)]; exact q, fun b ps q => ⟨#[], by rw [upd_ne (hm b _ q fun z => z), q]; simp⟩⟩
  by_cases hbe : b = e
  · subst hbe; exact heo
  · exact ⟨u, k b u hbe q⟩
theorem Un.mono (u : Un fs ex H H1 h h1) (hs : ∀ b ∈ fs, b ∈ fs') (hx : ∀ b ∈ ex, b ∈ ex') : Un fs' ex' H H1 h h1 :=
  ⟨fun b ob q n hb he => u.keep b ob q n (fun z => hb (hs b z)) fun z => he (hx b z), fun _ _ q n _ he => u.any q n fun z => he (hx _ z), fun b ob q n he => u.free b ob q n fun z => he (hx b z), fun b ob q he => u.there b ob q fun z => he (hx b z), u.tups, u.frzs, u.tbls⟩
end

/-! ### the heap without what is tracked -/
def trk (h : Heap) (H : Hp) : List Addr := (List.range h.objs.size).filter fun a => (H a).isSome
def hidT (h : Heap) (H : Hp) : Heap := PySem.W.hideAll h (trk h H)
theorem hidT_size (h : Heap) (H : Hp) : (hidT h H).objs.size = h.objs.size := PySem.W.hideAll_size _ _
theorem hidT_get {h : Heap} {H : Hp} {b : Addr} {o : Obj} (e : h.get? b = some o) (n : H b = none) : (hidT h H).get? b = some o :=
  PySem.W.hideAll_get _ e fun hm => by
    have q : (H b).isSome = true := (List.mem_filter.mp hm).2
    rw [n] at q; simp at q
theorem of_hidT {h : Heap} {H : Hp} {b : Addr} {o : Obj} (e : (hidT h H).get? b = some o) : h.get? b = some o ∧ H b = none := by
  have e' : h.get? b = some o := PySem.W.of_hideAll (trk h H) e
  refine ⟨e', ?_⟩
  cases q : H b with
  | none => rfl
  | some x =>
    have hm : b ∈ trk h H := List.mem_filter.mpr ⟨List.mem_range.mpr (Heap.lt_size e'), by simp [q]⟩
    have z : (hidT h H).get? b = none := PySem.W.hideAll_none (trk h H) hm
    rw [z] at e; cases e

/-! ### OpenK's ledger, filled with every new object but one -/
def allNews (g h : Heap) (L : Addr) : List (Addr × Obj) := (List.range h.objs.size).filterMap fun a => if a = L ∨ (g.get? a).isSome = true then none else (h.get? a).map fun o => (a, o)
theorem mem_allNews {g h : Heap} {L a : Addr} {o : Obj} (h1 : a ≠ L) (h2 : g.get? a = none) (h3 : h.get? a = some o) : (a, o) ∈ allNews g h L :=
  List.mem_filterMap.mpr ⟨a, List.mem_range.mpr (Heap.lt_size h3), by simp [h1, h2, h3]⟩
theorem of_mem_allNews {g h : Heap} {L : Addr} {p : Addr × Obj} (hp : p ∈ allNews g h L) : p.1 ≠ L ∧ g.get? p.1 = none ∧ h.get? p.1 = some p.2 := by
  obtain ⟨b, _, e⟩ := List.mem_filterMap.mp hp
  split at e
  · cases e
  · rename_i hn
    cases q : h.get? b with
    | none => rw [q] at e; simp at e
    | some u =>
      rw [q] at e
      simp only [Option.map_some, Option.some.injEq] at e
      subst e
      refine ⟨fun z => hn (.inl z), ?_, q⟩
      show g.get? b = none
      cases r : g.get? b with
      | none => rfl
      | some v => exact (hn (.inr (by simp [r]))).elim
def rest (g h : Heap) (L d : Addr) : List (Addr × Obj) := (allNews g h L).filter fun p => decide (p.1 ≠ d)
theorem rest_ne {g h : Heap} {L d : Addr} : ∀ p ∈ rest g h L d, p.1 ≠ d := fun p hp => of_decide_eq_true (List.mem_filter.mp hp).2
theorem mem_rest {g h : Heap} {L d a : Addr} {o : Obj} (h1 : a ≠ L) (h2 : g.get? a = none) (h3 : h.get? a = some o) (h4 : a ≠ d) : (a, o) ∈ rest g h L d :=
  List.mem_filter.mpr ⟨mem_allNews h1 h2 h3, decide_eq_true h4⟩
theorem news_all {g h : Heap} {L : Addr} : News g L h (allNews g h L) := fun p hp => let ⟨a, b, c⟩ := of_mem_allNews hp; ⟨c, a, b⟩
theorem news_at {g h : Heap} {L d : Addr} {o : Obj} (h1 : d ≠ L) (h2 : g.get? d = none) (h3 : h.get? d = some o) : News g L h ((d, o) :: rest g h L d) := fun p hp => by
  rcases List.mem_cons.mp hp with rfl | hp
  · exact ⟨h3, h1, h2⟩
  · exact news_all p (List.mem_filter.mp hp).1
/-- behind a rule that changed d alone: all else but the frame is kept -/
theorem kept_of_news {g h h' : Heap} {L d : Addr} {m : Str → Option Value} (k : ∀ b o, g.get? b = some o → h.get? b = some o) (F : Fr g L h' m) (N : News g L h' (rest g h L d)) :
    ∀ b o, b ≠ L → b ≠ d → h.get? b = some o → h'.get? b = some o := fun b o h1 h2 e => by
  cases q : g.get? b with
  | some u =>
    have := k b u q
    rw [e] at this; cases this
    exact F.keep b _ q
  | none => exact (N (b, o) (mem_rest h1 q e h2)).1
end L2

namespace L2
open PySem PySem.Spec PyProof.Rows

/-- the module's facts, over the base: the heap at the law's entry without what is tracked there -/
structure Mod (K : PySem.W.Frag) (mg : Str → Option Value) (base : Heap) : Prop where
  kin : K.In base
  glob : base.Ns mainGlobals mg
  blt : ∃ mb, base.Ns builtinsNs mb ∧ ∀ x : Str, x ≠ "__name__" → mb x = bootBuiltins x
  nolimit : base.NoLimit

/-- the context: a def's body (or a comprehension's block) running. base: fixed through the whole law; s₀, H₀: the entry; outer: the frames whose slots others may change (a def's callers); stack: all frames that run;
   ex: iterators that were made ahead of the entry and are walked here (a comprehension's); fn: the names whose cells were made at the entry (a def: all; a comprehension's block: its own); calm: not within an except suite; pn: pins that every state bears; xe: what is wanted of an exception that leaves the code -/
structure Cx where
  prog : Program
  w : World
  K : PySem.W.Frag
  mg : Str → Option Value
  base : Heap
  A : Around
  N : List Str
  s₀ : Shared
  H₀ : Hp
  env : Env
  outer : List Env
  stack : List Env
  ex : List Addr
  fn : Str → Bool
  calm : Bool
  pn : List (Addr × Obj)
  xe : Value → Shared → Prop
/-- the callers' frames -/
def frs (l : List Env) : List Addr := l.filterMap (·.frame)
abbrev Cx.fs (X : Cx) : List Addr := frs X.outer

def Vis (sc : Scope) (x : Str) : Prop := sc.names.lookup x = some .local ∨ sc.names.lookup x = some .cell ∨ sc.names.lookup x = some .free
def Loc (sc : Scope) (x : Str) : Prop := sc.names.lookup x = some .local ∨ sc.names.lookup x = some .cell
def Look (env : Env) (h : Heap) (m : Str → Option Value) (x : Str) (u : Value) : Prop :=
  (env.kindOf x = some .local ∧ m x = some u) ∨ ((env.kindOf x = some .cell ∨ env.kindOf x = some .free) ∧ ∃ c, env.cells.lookup x = some c ∧ h.IsCell c (some u))

structure Cx.Ok (X : Cx) : Prop where
  mod : Mod X.K X.mg X.base
  kind : X.env.scope.kind = .function
  glob : X.env.globals = mainGlobals
  blt : X.env.builtins = builtinsNs
  above : X.s₀.heap.objs.size ≤ X.env.locals
  inj : ∀ x y c, X.env.cells.lookup x = some c → X.env.cells.lookup y = some c → x = y
  has : ∀ x, (X.env.kindOf x = some .cell ∨ X.env.kindOf x = some .free) → ∃ c, X.env.cells.lookup x = some c
  cab : ∀ x c, X.fn x = true → X.env.cells.lookup x = some c → X.s₀.heap.objs.size ≤ c
  hd : X.calm = true → X.A.handled = none
  frames : X.A.frames = some X.stack
  stk : X.stack = X.outer ∨ (X.stack = X.env :: X.outer ∧ X.env.frame = some X.env.locals)
  exf : ∀ b ∈ X.ex, b ≠ X.env.locals ∧ ∀ x c, X.env.cells.lookup x = some c → c ≠ b
  bs : ∀ b o, X.base.get? b = some o → X.s₀.heap.get? b = some o ∧ X.H₀ b = none
  bsz : X.base.objs.size ≤ X.s₀.heap.objs.size
  noex : ∀ b o, X.base.get? b = some o → b ∉ X.ex
  exfs : ∀ b ∈ X.ex, b ∉ X.fs
  funs : X.s₀.heap.FunFrames X.base X.outer
  frf : ∀ b ∈ X.fs, X.H₀ b = none

structure Inv (X : Cx) (pins : List (Addr × Obj)) (σ : List (Option V)) (H : Hp) (s : Shared) : Prop where
  ok : X.Ok
  os : s.os = X.s₀.os
  bare : AllBare s.gens
  base : Un X.fs X.ex X.H₀ H X.s₀.heap s.heap
  loc : ∃ m, s.heap.Ns X.env.locals m ∧ ∀ (i : Nat) (x : Str) (v : V), X.N[i]? = some x → σ[i]? = some (some v) → Vis X.env.scope x → ∃ u, RelV v u ∧ Look X.env s.heap m x u
  cell : ∀ x c, X.env.cells.lookup x = some c → ∃ v, s.heap.IsCell c v
  free : H X.env.locals = none
  freeC : ∀ x c, X.env.cells.lookup x = some c → H c = none
  pin : ∀ p ∈ X.pn ++ pins, s.heap.get? p.1 = some p.2 ∧ H p.1 = none ∧ p.1 ≠ X.env.locals ∧ p.1 ∉ X.fs ∧ ∀ v, p.2.data ≠ .cell v
  hok : HOk X.prog X.w H s.heap
  len : σ.length = X.N.length

section
variable {X : Cx} {pins : List (Addr × Obj)} {σ : List (Option V)} {H H' : Hp} {s : Shared} {h' : Heap}

theorem Cx.Ok.nofr (ok : X.Ok) {b : Addr} {o : Obj} (e : X.base.get? b = some o) : b ∉ X.fs := fun hb => by
  have := (ok.funs.mem hb).1
  rw [e] at this; cases this
theorem Inv.bs (I : Inv X pins σ H s) : ∀ b o, X.base.get? b = some o → s.heap.get? b = some o ∧ H b = none := fun b o e =>
  ⟨I.base.keep b o (I.ok.bs b o e).1 (I.ok.bs b o e).2 (I.ok.nofr e) (I.ok.noex b o e), I.base.free b o (I.ok.bs b o e).1 (I.ok.bs b o e).2 (I.ok.noex b o e)⟩
theorem Inv.bk (I : Inv X pins σ H s) : ∀ b o, X.base.get? b = some o → s.heap.get? b = some o := fun b o e => (I.bs b o e).1
theorem Inv.mod (I : Inv X pins σ H s) : Mod X.K X.mg X.base := I.ok.mod
theorem Inv.kIn (I : Inv X pins σ H s) : X.K.In s.heap := I.ok.mod.kin.keeps I.bk
theorem Inv.nolimit (I : Inv X pins σ H s) : s.heap.NoLimit := I.ok.mod.nolimit.keeps I.bk
/-- the frame over the base: for OpenK's rules (K.In X.base is I.mod.kin) -/
theorem Inv.fr (I : Inv X pins σ H s) : ∃ m, Fr X.base X.env.locals s.heap m :=
  let ⟨m, hn, _⟩ := I.loc
  ⟨m, hn, I.bk, Nat.le_trans I.ok.bsz I.ok.above⟩
theorem Inv.lt (I : Inv X pins σ H s) : X.env.locals < s.heap.objs.size := let ⟨_, hn, _⟩ := I.loc; hn.lt
theorem Inv.sz (I : Inv X pins σ H s) : X.s₀.heap.objs.size ≤ s.heap.objs.size := Nat.le_trans I.ok.above (Nat.le_of_lt I.lt)
theorem Inv.nofs (I : Inv X pins σ H s) {a : Addr} (h : s.heap.objs.size ≤ a) : a ∉ X.fs := fun hb => by
  obtain ⟨_, o, ho, _⟩ := I.ok.funs.mem hb
  exact absurd (Nat.lt_of_lt_of_le (Heap.lt_size ho) (Nat.le_trans I.sz h)) (Nat.lt_irrefl _)
theorem Inv.cne (I : Inv X pins σ H s) : ∀ x c, X.env.cells.lookup x = some c → c ≠ X.env.locals := fun x c e z => by
  obtain ⟨v, o, ho, hd⟩ := I.cell x c e
  obtain ⟨m, ⟨o', es, ep, ho', hd', _⟩, _⟩ := I.loc
  rw [z, ho'] at ho; cases ho; rw [hd'] at hd; cases hd
theorem Inv.funs (I : Inv X pins σ H s) : s.heap.FunFrames X.base X.outer := by
  have all : ∀ (l : List Env), (∀ b ∈ frs l, b ∈ X.fs) → X.s₀.heap.FunFrames X.base l → s.heap.FunFrames X.base l := by
    intro l
    induction l with
    | nil => intro _ _; trivial
    | cons env r ih =>
      intro hs hl
      obtain ⟨hk, ⟨L, o, hf, hn, ho, hd⟩, hr⟩ := hl
      have hL : L ∈ X.fs := hs L (by unfold frs; rw [List.filterMap_cons, hf]; exact List.mem_cons_self)
      obtain ⟨sl, e⟩ := I.base.slot L o ho (I.ok.frf L hL) hL fun z => I.ok.exfs L z hL
      exact ⟨hk, ⟨L, _, hf, hn, e, hd⟩, ih (fun b hb => hs b (by unfold frs; rw [List.filterMap_cons, hf]; exact List.mem_cons_of_mem _ hb)) hr⟩
  exact all X.outer (fun _ hb => hb) I.ok.funs

/-- the frames that run, for a call -/
theorem Inv.stack (I : Inv X pins σ H s) : s.heap.FunFrames X.base X.stack := by
  rcases I.ok.stk with e | ⟨e, hf⟩
  · rw [e]; exact I.funs
  · rw [e]
    obtain ⟨m, hn, _⟩ := I.loc
    refine .cons (by rw [I.ok.kind]; decide) hf hn ?_ I.funs
    exact Heap.get?_none_of_le (Nat.le_trans I.ok.bsz I.ok.above)
theorem Inv.stkSub (I : Inv X pins σ H s) : ∀ b ∈ frs X.stack, b ∈ X.env.locals :: X.fs := fun b hb => by
  rcases I.ok.stk with e | ⟨e, hf⟩
  · rw [e] at hb; exact List.mem_cons_of_mem _ hb
  · rw [e] at hb
    unfold frs at hb
    rw [List.filterMap_cons, hf] at hb
    exact hb
theorem Inv.stkFree (I : Inv X pins σ H s) : ∀ b ∈ frs X.stack, H b = none := fun b hb => by
  rcases List.mem_cons.mp (I.stkSub b hb) with e | hb
  · rw [e]; exact I.free
  · obtain ⟨_, o, ho, _⟩ := I.ok.funs.mem hb
    exact I.base.free b o ho (I.ok.frf b hb) fun z => I.ok.exfs b z hb

/-- THE STEP: the untracked objects but the frame and the records at ch are kept (the callers' frames up to slots), the frame's map is kept, the new abstract heap is held -/
theorem Inv.step {g' : Array GenState} {t' : Nat} {d' : Drawn} {ch : List Addr} (I : Inv X pins σ H s)
    (hch : ∀ b ∈ ch, (b ∈ X.ex ∨ X.s₀.heap.objs.size ≤ b) ∧ b ≠ X.env.locals ∧ (∀ x c, X.env.cells.lookup x = some c → c ≠ b) ∧ ∀ p ∈ X.pn ++ pins, p.1 ≠ b)
    (keep : ∀ b o, b ≠ X.env.locals → b ∉ X.fs → b ∉ ch → s.heap.get? b = some o → H b = none → h'.get? b = some o)
    (slot : ∀ b o, b ≠ X.env.locals → b ∈ X.fs → b ∉ ch → s.heap.get? b = some o → H b = none → ∃ sl, h'.get? b = some { o with slots := sl }) (free : ∀ b o, b ∉ ch → s.heap.get? b = some o → H b = none → H' b = none)
    (there : ∀ b o, b ∉ ch → s.heap.get? b = some o → ∃ o', h'.get? b = some o')
    (tups : ∀ b xs, H b = some (.tup xs) → H' b = some (.tup xs)) (frzs : ∀ b o u, H b = some (.frz o u) → H' b = some (.frz o u)) (tbls : ∀ b ps, H b = some (.tbl ps) → ∃ more, H' b = some (.tbl (ps ++ more)))
    (ns : ∀ m, s.heap.Ns X.env.locals m → h'.Ns X.env.locals m) (hok : HOk X.prog X.w H' h') (hg : AllBare g') :
    Inv X pins σ H' { s with heap := h', gens := g', drawn := d', toks := t' } := by
  have neL : ∀ b o, X.s₀.heap.get? b = some o → b ≠ X.env.locals := fun b o e => Nat.ne_of_lt (Nat.lt_of_lt_of_le (Heap.lt_size e) I.ok.above)
  have neC : ∀ b o, X.s₀.heap.get? b = some o → b ∉ X.ex → b ∉ ch := fun b o e hx hb => by
    rcases (hch b hb).1 with z | z
    · exact hx z
    · exact absurd (Nat.lt_of_lt_of_le (Heap.lt_size e) z) (Nat.lt_irrefl _)
  have cellK : ∀ x c, X.env.cells.lookup x = some c → ∀ v, s.heap.IsCell c v → h'.IsCell c v := fun x c e v ⟨o, ho, hd⟩ => by
    have nch : c ∉ ch := fun z => (hch c z).2.2.1 x c e rfl
    by_cases hc : c ∈ X.fs
    · obtain ⟨sl, q⟩ := slot c o (I.cne x c e) hc nch ho (I.freeC x c e)
      exact ⟨_, q, hd⟩
    · exact ⟨o, keep c o (I.cne x c e) hc nch ho (I.freeC x c e), hd⟩
  refine ⟨I.ok, I.os, hg, ⟨fun b o e n hb hx => ?_, fun b o e n hb hx => ?_, fun b o e n hx => ?_, fun b o e hx => ?_, fun b xs e => tups b xs (I.base.tups b xs e), fun b o xs e => frzs b o xs (I.base.frzs b o xs e), fun b ps e => ?_⟩, ?_, fun x c e => ?_, ?_, fun x c e => ?_, fun p hp => ?_, hok, I.len⟩
  · exact keep b o (neL b o e) hb (neC b o e hx) (I.base.keep b o e n hb hx) (I.base.free b o e n hx)
  · obtain ⟨sl, e1⟩ := I.base.slot b o e n hb hx
    obtain ⟨sl', e2⟩ := slot b _ (neL b o e) hb (neC b o e hx) e1 (I.base.free b o e n hx)
    exact ⟨sl', e2⟩
  · obtain ⟨o', e1⟩ := I.base.there b o e hx
    exact free b o' (neC b o e hx) e1 (I.base.free b o e n hx)
  · obtain ⟨o', e1⟩ := I.base.there b o e hx
    exact there b o' (neC b o e hx) e1
  · obtain ⟨m1, e1⟩ := I.base.tbls b ps e
    obtain ⟨m2, e2⟩ := tbls b _ e1
    exact ⟨m1 ++ m2, by rw [e2, Array.append_assoc]⟩
  · obtain ⟨m, hn, hl⟩ := I.loc
    refine ⟨m, ns m hn, fun i x v e1 e2 e3 => ?_⟩
    obtain ⟨u, r, l⟩ := hl i x v e1 e2 e3
    refine ⟨u, r, ?_⟩
    rcases l with l | ⟨k, c, e, z⟩
    · exact .inl l
    · exact .inr ⟨k, c, e, cellK x c e _ z⟩
  · obtain ⟨v, z⟩ := I.cell x c e
    exact ⟨v, cellK x c e v z⟩
  · obtain ⟨m, ⟨o, _, _, ho, _⟩, _⟩ := I.loc
    exact free _ o (fun z => (hch _ z).2.1 rfl) ho I.free
  · obtain ⟨v, o, ho, hd⟩ := I.cell x c e
    exact free c o (fun z => (hch c z).2.2.1 x c e rfl) ho (I.freeC x c e)
  · obtain ⟨e, n, ne, nf, d⟩ := I.pin p hp
    have nch : p.1 ∉ ch := fun z => (hch p.1 z).2.2.2 p hp rfl
    exact ⟨keep p.1 p.2 ne nf nch e n, free p.1 p.2 nch e n, ne, nf, d⟩
/-- .. where the frame's own object is kept too -/
theorem Inv.un {t' : Nat} (I : Inv X pins σ H s) (u : Un X.fs [] H H' s.heap h') (hok : HOk X.prog X.w H' h') : Inv X pins σ H' { s with heap := h', toks := t' } := by
  obtain ⟨m, ⟨o, es, ep, ho, r⟩, _⟩ := id I.loc
  obtain ⟨sl, hL⟩ := u.any ho I.free (by simp)
  exact I.step (g' := s.gens) (d' := s.drawn) (ch := []) (fun _ z => nomatch z) (fun b o _ hb _ e n => u.keep b o e n hb (by simp)) (fun b o _ hb _ e n => u.slot b o e n hb (by simp)) (fun b o _ e n => u.free b o e n (by simp)) (fun b o _ e => u.there b o e (by simp)) u.tups u.frzs u.tbls (fun m' hm => by
    obtain ⟨o', es', ep', ho', r'⟩ := hm
    rw [ho] at ho'; cases ho'
    exact ⟨_, es', ep', hL, r'⟩) hok I.bare
/-- behind a call (or a comprehension's block): the slots of this frame may have changed too, the records at ch may have turned -/
theorem Inv.call {g' : Array GenState} {t' : Nat} {d' : Drawn} {ch : List Addr} (I : Inv X pins σ H s) (u : Un (frs X.stack) ch H H' s.heap h') (hok : HOk X.prog X.w H' h') (hg : AllBare g')
    (hch : ∀ b ∈ ch, (b ∈ X.ex ∨ X.s₀.heap.objs.size ≤ b) ∧ b ≠ X.env.locals ∧ (∀ x c, X.env.cells.lookup x = some c → c ≠ b) ∧ ∀ p ∈ X.pn ++ pins, p.1 ≠ b) :
    Inv X pins σ H' { s with heap := h', gens := g', drawn := d', toks := t' } := by
  obtain ⟨m, ⟨o, es, ep, ho, r⟩, _⟩ := id I.loc
  obtain ⟨sl, hL⟩ := u.any ho I.free fun z => (hch _ z).2.1 rfl
  exact I.step (ch := ch) hch (fun b o hL hb hc e n => u.keep b o e n (fun z => (List.mem_cons.mp (I.stkSub b z)).elim hL hb) hc) (fun b o _ _ hc e n => u.any e n hc) (fun b o hc e n => u.free b o e n hc) (fun b o hc e => u.there b o e hc) u.tups u.frzs u.tbls (fun m' hm => by
    obtain ⟨o', es', ep', ho', r'⟩ := hm
    rw [ho] at ho'; cases ho'
    exact ⟨_, es', ep', hL, r'⟩) hok hg
/-- an untracked record of ours (an iterator) has turned -/
theorem Inv.turned {t' : Nat} {it : Addr} (I : Inv X pins σ H s) (k : ∀ b o, b ≠ it → s.heap.get? b = some o → h'.get? b = some o) (hn : H it = none) (hL : it ≠ X.env.locals)
    (h1 : it ∈ X.ex ∨ X.s₀.heap.objs.size ≤ it) (h2 : ∀ x c, X.env.cells.lookup x = some c → c ≠ it) (h3 : ∀ p ∈ X.pn ++ pins, p.1 ≠ it) : Inv X pins σ H { s with heap := h', toks := t' } := by
  have nit : ∀ b u, H b = some u → b ≠ it := fun b u e z => by rw [z, hn] at e; cases e
  refine I.step (g' := s.gens) (d' := s.drawn) (ch := [it]) (fun b hb => ?_) (fun b o _ _ hc e _ => k b o (fun z => hc (by simp [z])) e) (fun b o _ _ hc e _ => ⟨o.slots, k b o (fun z => hc (by simp [z])) e⟩) (fun _ _ _ _ n => n)
    (fun b o hc e => ⟨o, k b o (fun z => hc (by simp [z])) e⟩) (fun _ _ e => e) (fun _ _ _ e => e) (fun b ps e => ⟨#[], by rw [e]; simp⟩) (fun m hm => ?_) (fun b u e => ?_) I.bare
  · have e : b = it := by simpa using hb
    subst e
    exact ⟨h1, hL, h2, h3⟩
  · obtain ⟨o, es, ep, ho, r⟩ := hm
    exact ⟨o, es, ep, k _ o (Ne.symm hL) ho, r⟩
  · refine (I.hok b u e).stay (fun c v hc q => k c v ?_ q) (fun _ q => q) fun _ _ q => q
    rcases hc with z | z
    · rw [z]; exact nit b u e
    · exact nit c _ z
theorem Inv.tok (I : Inv X pins σ H s) (t : Nat) : Inv X pins σ H { s with toks := t } := I.un (h' := s.heap) (t' := t) Un.refl I.hok
/-- all objects kept -/
theorem Inv.kept {t' : Nat} (I : Inv X pins σ H s) (k : ∀ b u, s.heap.get? b = some u → h'.get? b = some u) : Inv X pins σ H { s with heap := h', toks := t' } := I.un (Un.kept k) (I.hok.kept k)
/-- a new object laid and tracked -/
theorem Inv.laid {a : Addr} {o : HO} {t' : Nat} (I : Inv X pins σ H s) (k : ∀ b u, s.heap.get? b = some u → h'.get? b = some u) (hp : s.heap.objs.size ≤ a) (new : ObjOk X.prog X.w (upd H a o) h' a o) :
    Inv X pins σ (upd H a o) { s with heap := h', toks := t' } := I.un (Un.laid k hp (I.hok.fresh hp)) (I.hok.laid k hp new)
/-- an object written -/
theorem Inv.write {x e : Addr} {o : HO} {t' : Nat} (I : Inv X pins σ H s) (mu : Mut (H x)) (he : e = x ∨ H e = some (.own x)) (k : ∀ b u, b ≠ e → s.heap.get? b = some u → h'.get? b = some u) (heo : ∃ u, h'.get? e = some u)
    (new : ObjOk X.prog X.w (upd H x o) h' x o) : Inv X pins σ (upd H x o) { s with heap := h', toks := t' } := I.un (Un.write mu he k heo) (I.hok.write mu he k heo new)
/-- forgetting slots, pins -/
theorem Inv.weak {σ' : List (Option V)} (I : Inv X pins σ H s) (hl : σ'.length = σ.length) (w : ∀ (i : Nat) v, σ'[i]? = some (some v) → σ[i]? = some (some v)) : Inv X pins σ' H s :=
  ⟨I.ok, I.os, I.bare, I.base, let ⟨m, hn, hl'⟩ := I.loc; ⟨m, hn, fun i x v e1 e2 e3 => hl' i x v e1 (w i v e2) e3⟩, I.cell, I.free, I.freeC, I.pin, I.hok, hl.trans I.len⟩
theorem Inv.pins_of {pins' : List (Addr × Obj)} (I : Inv X pins σ H s) (h : ∀ p ∈ pins', s.heap.get? p.1 = some p.2 ∧ H p.1 = none ∧ p.1 ≠ X.env.locals ∧ p.1 ∉ X.fs ∧ ∀ v, p.2.data ≠ .cell v) : Inv X pins' σ H s :=
  ⟨I.ok, I.os, I.bare, I.base, I.loc, I.cell, I.free, I.freeC, fun p hp => (List.mem_append.mp hp).elim (fun z => I.pin p (List.mem_append_left _ z)) (h p), I.hok, I.len⟩

theorem nodup_ix {N : List Str} (hN : N.Nodup) {i j : Nat} {x : Str} (a : N[i]? = some x) (b : N[j]? = some x) : i = j := by
  obtain ⟨h1, e1⟩ := List.getElem?_eq_some_iff.mp a
  obtain ⟨h2, e2⟩ := List.getElem?_eq_some_iff.mp b
  exact (List.getElem_inj hN).mp (e1.trans e2.symm)

/-- a name is stored; what changed -/
theorem store_ok2 {M : Model} {A : Around} {E : Value → Shared → Prop} {i : Nat} {x : Str} {v : V} {u : Value} {Q : Unit → Shared → Prop} (I : Inv X pins σ H s) (hN : X.N.Nodup) (hi : X.N[i]? = some x) (hx : Loc X.env.scope x) (r : RelV v u)
    (h : ∀ s', Inv X pins (σ.set i (some v)) H s' → (∃ a, Heap.SameBut a s.heap s'.heap ∧ (a = X.env.locals ∨ X.env.cells.lookup x = some a)) → Q () s') (hf : X.fn x = true ∨ X.env.scope.names.lookup x = some .local := by first | exact .inl rfl | exact .inr rfl | assumption) : wpAny M A (storeName X.env x u) Q E s := by
  obtain ⟨m, hn, hl⟩ := id I.loc
  have hcls : (X.env.scope.kind == .class || (X.env.scope.kind == .module && X.env.locals != X.env.globals)) = false := by rw [I.ok.kind]; rfl
  have hiσ : i < σ.length := by rw [I.len]; exact (List.getElem?_eq_some_iff.mp hi).1
  have cne := I.cne
  have tracked : ∀ {a : Addr} {h' : Heap}, (∃ o, s.heap.get? a = some o ∧ H a = none) → Heap.SameBut a s.heap h' → HOk X.prog X.w H h' := fun {a h'} ha hs b ob e => by
    obtain ⟨_, _, hfree⟩ := ha
    refine (I.hok b ob e).stay (fun c w' hc q => (hs.2 c ?_).trans q) (fun _ q => q) fun _ _ q => q
    rintro rfl
    rcases hc with rfl | hc
    · rw [hfree] at e; cases e
    · rw [hfree] at hc; cases hc
  rcases hx with hk | hk
  · refine wpAny_storeName_local hk hn (fun h' hn' hs => ?_) hcls
    obtain ⟨oL, _, _, hoL, _⟩ := id hn
    refine h _ ⟨I.ok, I.os, I.bare, ⟨fun b o e n hb hx => ?_, fun b o e n hb hx => ?_, I.base.free, fun b o e hx => ?_, I.base.tups, I.base.frzs, I.base.tbls⟩, ⟨_, hn', fun j y v' e1 e2 e3 => ?_⟩, fun y c e => ?_, I.free, I.freeC, fun p hp => ?_, tracked ⟨oL, hoL, I.free⟩ hs, by simpa using I.len⟩ ⟨_, hs, .inl rfl⟩
    · exact (hs.2 b (Nat.ne_of_lt (Nat.lt_of_lt_of_le (Heap.lt_size e) I.ok.above))).trans (I.base.keep b o e n hb hx)
    · obtain ⟨sl, e1⟩ := I.base.slot b o e n hb hx
      exact ⟨sl, (hs.2 b (Nat.ne_of_lt (Nat.lt_of_lt_of_le (Heap.lt_size e) I.ok.above))).trans e1⟩
    · obtain ⟨o', e1⟩ := I.base.there b o e hx
      exact ⟨o', (hs.2 b (Nat.ne_of_lt (Nat.lt_of_lt_of_le (Heap.lt_size e) I.ok.above))).trans e1⟩
    · by_cases hj : j = i
      · subst hj
        rw [hi] at e1; cases e1
        rw [List.getElem?_set_self hiσ] at e2
        cases e2
        exact ⟨u, r, .inl ⟨hk, by simp⟩⟩
      · rw [List.getElem?_set_ne (Ne.symm hj)] at e2
        obtain ⟨u', r', q⟩ := hl j y v' e1 e2 e3
        refine ⟨u', r', ?_⟩
        rcases q with ⟨k, e⟩ | ⟨k, c, e, z⟩
        · refine .inl ⟨k, ?_⟩
          have : y ≠ x := fun e => hj (nodup_ix hN e1 (e ▸ hi))
          simp [this, e]
        · exact .inr ⟨k, c, e, z.sameBut hs (cne y c e)⟩
    · obtain ⟨w', z⟩ := I.cell y c e
      exact ⟨w', z.sameBut hs (cne y c e)⟩
    · obtain ⟨e, n, ne, nf, d⟩ := I.pin p hp
      exact ⟨(hs.2 p.1 ne).trans e, n, ne, nf, d⟩
  · have hfn : X.fn x = true := by
      rcases hf with z | z
      · exact z
      · rw [z] at hk; cases hk
    obtain ⟨c, hc⟩ := I.ok.has x (.inl hk)
    obtain ⟨w', z⟩ := I.cell x c hc
    refine wpAny_storeName_cell I.ok.kind hk hc z (fun h' hc' hs => ?_)
    obtain ⟨oc, hoc, hocd⟩ := id z
    refine h { s with heap := h' } ⟨I.ok, I.os, I.bare, ⟨fun b o e n hb hx => ?_, fun b o e n hb hx => ?_, I.base.free, fun b o e hx => ?_, I.base.tups, I.base.frzs, I.base.tbls⟩, ⟨m, hn.sameBut hs (Ne.symm (cne x c hc)), fun j y v' e1 e2 e3 => ?_⟩, fun y c' e => ?_, I.free, I.freeC, fun p hp => ?_, tracked ⟨oc, hoc, I.freeC x c hc⟩ hs, by simpa using I.len⟩ ⟨c, hs, .inr hc⟩
    · exact (hs.2 b (Nat.ne_of_lt (Nat.lt_of_lt_of_le (Heap.lt_size e) (I.ok.cab x c hfn hc)))).trans (I.base.keep b o e n hb hx)
    · obtain ⟨sl, e1⟩ := I.base.slot b o e n hb hx
      exact ⟨sl, (hs.2 b (Nat.ne_of_lt (Nat.lt_of_lt_of_le (Heap.lt_size e) (I.ok.cab x c hfn hc)))).trans e1⟩
    · obtain ⟨o', e1⟩ := I.base.there b o e hx
      exact ⟨o', (hs.2 b (Nat.ne_of_lt (Nat.lt_of_lt_of_le (Heap.lt_size e) (I.ok.cab x c hfn hc)))).trans e1⟩
    · by_cases hj : j = i
      · subst hj
        rw [hi] at e1; cases e1
        rw [List.getElem?_set_self hiσ] at e2
        cases e2
        exact ⟨u, r, .inr ⟨.inl hk, c, hc, hc'⟩⟩
      · rw [List.getElem?_set_ne (Ne.symm hj)] at e2
        obtain ⟨u', r', q⟩ := hl j y v' e1 e2 e3
        refine ⟨u', r', ?_⟩
        rcases q with q | ⟨k, c', e, z'⟩
        · exact .inl q
        · refine .inr ⟨k, c', e, z'.sameBut hs ?_⟩
          rintro rfl
          exact hj (nodup_ix hN e1 (I.ok.inj _ _ _ e hc ▸ hi))
    · by_cases hcc : c' = c
      · subst hcc; exact ⟨_, hc'⟩
      · obtain ⟨w2, z2⟩ := I.cell y c' e
        exact ⟨w2, z2.sameBut hs hcc⟩
    · obtain ⟨e, n, ne, nf, d⟩ := I.pin p hp
      refine ⟨(hs.2 p.1 ?_).trans e, n, ne, nf, d⟩
      intro q
      rw [q, hoc] at e
      have q' : oc = p.2 := Option.some.inj e
      exact d w' (by rw [← q']; exact hocd)
theorem store_ok {M : Model} {A : Around} {E : Value → Shared → Prop} {i : Nat} {x : Str} {v : V} {u : Value} {Q : Unit → Shared → Prop} (I : Inv X pins σ H s) (hN : X.N.Nodup) (hi : X.N[i]? = some x) (hx : Loc X.env.scope x) (r : RelV v u)
    (h : ∀ s', Inv X pins (σ.set i (some v)) H s' → Q () s') (hf : X.fn x = true ∨ X.env.scope.names.lookup x = some .local := by first | exact .inl rfl | exact .inr rfl | assumption) : wpAny M A (storeName X.env x u) Q E s :=
  store_ok2 I hN hi hx r (fun s' I' _ => h s' I') hf
/-- behind a call or a block, the state as it is -/
theorem Inv.call' {s' : Shared} {ch : List Addr} (I : Inv X pins σ H s) (ho : s'.os = s.os) (u : Un (frs X.stack) ch H H' s.heap s'.heap) (hok : HOk X.prog X.w H' s'.heap) (hg : AllBare s'.gens)
    (hch : ∀ b ∈ ch, (b ∈ X.ex ∨ X.s₀.heap.objs.size ≤ b) ∧ b ≠ X.env.locals ∧ (∀ x c, X.env.cells.lookup x = some c → c ≠ b) ∧ ∀ p ∈ X.pn ++ pins, p.1 ≠ b) : Inv X pins σ H' s' := by
  obtain ⟨h', g', d', t', o'⟩ := s'
  have e : o' = s.os := ho
  subst e
  exact I.call (g' := g') (t' := t') (d' := d') u hok hg hch
end

/-! ### the judgements -/
/-- an exception: its class, its own dict's address (where it has one), the abstract heap behind it -/
abbrev XK := Value → Option Addr → Hp → Prop
abbrev St := List (Option V)
abbrev VK := V → Hp → Prop
/-- an expression's reading; a test's; an argument list's -/
abbrev TE := St → Hp → VK → Prop
abbrev TT := St → Hp → (Bool → Hp → Prop) → Prop
abbrev TA := St → Hp → (List V → Hp → Prop) → Prop
/-- what is wanted behind a statement -/
structure Ends where
  nx : St → Hp → Prop
  rt : VK
  bk : St → Hp → Prop := fun _ _ => False
  ct : St → Hp → Prop := fun _ _ => False
abbrev TS := Ends → St → Hp → Prop

def EP (X : Cx) (pins : List (Addr × Obj)) (σ : St) (Q : VK) (u : Value) (s' : Shared) : Prop := ∃ v H', Inv X pins σ H' s' ∧ RelV v u ∧ Q v H'
def TP (X : Cx) (pins : List (Addr × Obj)) (σ : St) (Q : Bool → Hp → Prop) (b : Bool) (s' : Shared) : Prop := ∃ H', Inv X pins σ H' s' ∧ Q b H'
def AP (X : Cx) (pins : List (Addr × Obj)) (σ : St) (Q : List V → Hp → Prop) (us : List Value) (s' : Shared) : Prop := ∃ vs H', Inv X pins σ H' s' ∧ Vals vs us ∧ Q vs H'
def SP (X : Cx) (pins : List (Addr × Obj)) (D : Ends) (f : Flow) (s' : Shared) : Prop :=
  match f with
  | .next => ∃ σ' H', Inv X pins σ' H' s' ∧ D.nx σ' H'
  | .brk => ∃ σ' H', Inv X pins σ' H' s' ∧ D.bk σ' H'
  | .cont => ∃ σ' H', Inv X pins σ' H' s' ∧ D.ct σ' H'
  | .ret u => ∃ v σ' H', Inv X pins σ' H' s' ∧ RelV v u ∧ D.rt v H'

def PE (X : Cx) (e : Expr) (t : TE) : Prop :=
  ∀ (pins : List (Addr × Obj)) (s : Shared) (σ : St) (H : Hp) (Q : VK), Inv X pins σ H s → t σ H Q → wpAny (model X.prog X.w) X.A (eval e X.env) (EP X pins σ Q) X.xe s
def PT (X : Cx) (e : Expr) (t : TT) : Prop :=
  ∀ (pins : List (Addr × Obj)) (s : Shared) (σ : St) (H : Hp) (Q : Bool → Hp → Prop), Inv X pins σ H s → t σ H Q → wpAny (model X.prog X.w) X.A (isTrue e X.env (eval e X.env)) (TP X pins σ Q) X.xe s
/-- a test whatever its 'whole' is (and, or) -/
def PW (X : Cx) (e : Expr) (t : TT) : Prop :=
  ∀ (whole : Sem Value) (pins : List (Addr × Obj)) (s : Shared) (σ : St) (H : Hp) (Q : Bool → Hp → Prop), Inv X pins σ H s → t σ H Q → wpAny (model X.prog X.w) X.A (isTrue e X.env whole) (TP X pins σ Q) X.xe s
theorem PW.pt {X : Cx} {e : Expr} {t : TT} (h : PW X e t) : PT X e t := h _
/-- an argument list (no star), from the left -/
def PA (X : Cx) (es : List Expr) (t : TA) : Prop :=
  ∀ (pos : Pos) (pins : List (Addr × Obj)) (s : Shared) (σ : St) (H : Hp) (Q : List V → Hp → Prop), Inv X pins σ H s → t σ H Q → wpAny (model X.prog X.w) X.A (spliced (backTo pos (starEach es X.env))) (AP X pins σ Q) X.xe s
def PS (X : Cx) (st : Stmt) (t : TS) : Prop :=
  ∀ (pins : List (Addr × Obj)) (s : Shared) (σ : St) (H : Hp) (D : Ends), Inv X pins σ H s → t D σ H → wpAny (model X.prog X.w) X.A (exec st X.env) (SP X pins D) X.xe s
def PSs (X : Cx) (st : List Stmt) (t : TS) : Prop :=
  ∀ (pins : List (Addr × Obj)) (s : Shared) (σ : St) (H : Hp) (D : Ends), Inv X pins σ H s → t D σ H → wpAny (model X.prog X.w) X.A (execs st X.env) (SP X pins D) X.xe s
/-- weaken the end -/
theorem thn {α : Type} {t : Sem α} {Q Q' : α → Shared → Prop} {M : Model} {A : Around} {E : Value → Shared → Prop} {s : Shared} (h : wpAny M A t Q E s) (hQ : ∀ a s, Q a s → Q' a s) : wpAny M A t Q' E s := wpAny_mono h hQ fun _ _ x => x
end L2

namespace L2
open PySem PySem.Spec PyProof.Rows
section
variable {X : Cx}

/-- two expressions in a row -/
theorem bin {a b : Expr} {ta tb : TE} (ha : PE X a ta) (hb : PE X b tb) {pins : List (Addr × Obj)} {s : Shared} {σ : St} {H : Hp} {R : V → V → Hp → Prop} (I : Inv X pins σ H s) (h : ta σ H fun x H1 => tb σ H1 fun y H2 => R x y H2)
    {α : Type} {Q : α → Shared → Prop} {f : Value → Value → Sem α}
    (hf : ∀ v u s2 x y H2, Inv X pins σ H2 s2 → RelV x v → RelV y u → R x y H2 → wpAny (model X.prog X.w) X.A (f v u) Q X.xe s2) :
    wpAny (model X.prog X.w) X.A (eval a X.env) (fun v s₁ => wpAny (model X.prog X.w) X.A (eval b X.env) (fun u s₂ => wpAny (model X.prog X.w) X.A (f v u) Q X.xe s₂) X.xe s₁) X.xe s := by
  refine thn (ha pins s σ H _ I h) fun v s1 ⟨x, H1, I1, r1, q1⟩ => ?_
  refine thn (hb pins s1 σ H1 _ I1 q1) fun u s2 ⟨y, H2, I2, r2, q2⟩ => ?_
  exact hf v u s2 x y H2 I2 r1 r2 q2

/-! ### names and constants -/
def tVar (i : Nat) : TE := fun σ H Q => ∃ v, σ[i]? = some (some v) ∧ Q v H
abbrev tC (v : V) : TE := fun _ H Q => Q v H
theorem pe_var {i : Nat} {x : Str} {pos : Pos} (hN : X.N[i]? = some x) (hv : Vis X.env.scope x) (hd : (x == ("__debug__" : Str)) = false := by decide) (hcd : (x == ("__classdict__" : Str)) = false := by decide) : PE X (.Name x pos) (tVar i) := by
  intro pins s σ H Q I h
  obtain ⟨v, e, h⟩ := h
  obtain ⟨m, hn, hl⟩ := I.loc
  obtain ⟨u, r, l⟩ := hl i x v hN e hv
  have fin : EP X pins σ Q u s := ⟨v, H, I, r, h⟩
  rcases l with ⟨hk, hm⟩ | ⟨hk, c, hc, hcell⟩
  · exact wpAny_Name (wpAny_loadName_local I.ok.kind hk hn hm fin) hd
  · rcases hk with hk | hk
    · exact wpAny_Name (wpAny_loadName_cell I.ok.kind hk hc hcell fin) hd
    · exact wpAny_Name (wpAny_loadName_free I.ok.kind hk hc hcell fin hcd) hd
theorem pe_int {i j pos} : PE X (.Constant (.int i) j pos) (tC (.int i)) := fun _ _ _ H _ I h => wpAny_Constant_int ⟨.int i, H, I.tok _, ⟨_, rfl⟩, h⟩
theorem pe_bl {b j pos} : PE X (.Constant (.bool b) j pos) (tC (.bl b)) := fun _ _ _ H _ I h => Constant_bool ⟨.bl b, H, I, rfl, h⟩
theorem pe_non {j pos} : PE X (.Constant .none j pos) (tC .non) := fun _ _ _ H _ I h => Constant_none ⟨.non, H, I, rfl, h⟩
theorem pe_str {x j pos} : PE X (.Constant (.str x) j pos) (tC (.str x)) := fun _ _ _ H _ I h => Calls.Constant_str ⟨.str x, H, I.tok _, ⟨_, rfl⟩, h⟩

/-- a global name of the def -/
def Gl (X : Cx) (x : Str) : Prop := X.env.kindOf x = some .globalImplicit
theorem ld_glob {E : Value → Shared → Prop} {pins : List (Addr × Obj)} {s : Shared} {σ : St} {H : Hp} {x : Str} {u : Value} {pos : Pos} {Q : Value → Shared → Prop} (I : Inv X pins σ H s) (hg : Gl X x) (hm : X.mg x = some u) (h : Q u s)
    (hd : (x == ("__debug__" : Str)) = false := by decide) : wpAny (model X.prog X.w) X.A (eval (.Name x pos) X.env) Q E s :=
  Calls.Name_function_global I.ok.kind hg (Calls.loadGlobal_global (by rw [I.ok.glob]; exact I.mod.glob.keeps I.bk) hm h) hd
theorem ld_blt {E : Value → Shared → Prop} {pins : List (Addr × Obj)} {s : Shared} {σ : St} {H : Hp} {x : Str} {u : Value} {pos : Pos} {Q : Value → Shared → Prop} (I : Inv X pins σ H s) (hg : Gl X x) (hm : X.mg x = none) (hv : bootBuiltins x = some u) (h : Q u s)
    (hn : x ≠ "__name__" := by decide) (hd : (x == ("__debug__" : Str)) = false := by decide) : wpAny (model X.prog X.w) X.A (eval (.Name x pos) X.env) Q E s := by
  obtain ⟨mb, h1, h2⟩ := I.mod.blt
  exact Calls.Name_function_global I.ok.kind hg (Calls.loadGlobal_builtin (by rw [I.ok.glob]; exact I.mod.glob.keeps I.bk) hm (by rw [I.ok.blt]; exact h1.keeps I.bk) ((h2 x hn).trans hv) h) hd
/-- a module's constant, a class, a function, as a value -/
theorem pe_glob {x : Str} {v : V} {u : Value} {pos : Pos} (hg : Gl X x) (hm : X.mg x = some u) (r : RelV v u) (hd : (x == ("__debug__" : Str)) = false := by decide) : PE X (.Name x pos) (tC v) :=
  fun _ _ _ H _ I h => ld_glob I hg hm ⟨v, H, I, r, h⟩ hd
theorem pe_bltn {x : Str} {v : V} {u : Value} {pos : Pos} (hg : Gl X x) (hm : X.mg x = none) (hv : bootBuiltins x = some u) (r : RelV v u) (hn : x ≠ "__name__" := by decide) (hd : (x == ("__debug__" : Str)) = false := by decide) : PE X (.Name x pos) (tC v) :=
  fun _ _ _ H _ I h => ld_blt I hg hm hv ⟨v, H, I, r, h⟩ hn hd

/-! ### arithmetic -/
/-- two ints -/
def t2I (ta tb : TE) (k : Int → Int → Hp → Prop) : St → Hp → Prop := fun σ H => ta σ H fun x H1 => tb σ H1 fun y H2 => ∃ i j, x = .int i ∧ y = .int j ∧ k i j H2
def tAdd (ta tb : TE) : TE := fun σ H Q => t2I ta tb (fun i j H2 => Q (.int (i + j)) H2) σ H
def tSub (ta tb : TE) : TE := fun σ H Q => t2I ta tb (fun i j H2 => Q (.int (i - j)) H2) σ H
/-- the left factor below 2^64 -/
def tMul (ta tb : TE) : TE := fun σ H Q => t2I ta tb (fun i j H2 => (-(2 ^ 64) < i ∧ i < 2 ^ 64) ∧ Q (.int (i * j)) H2) σ H
variable {a b : Expr} {ta tb : TE} {pos : Pos}
theorem pe_add (ha : PE X a ta) (hb : PE X b tb) : PE X (.BinOp a .Add b pos) (tAdd ta tb) := by
  intro pins s σ H Q I h
  refine wpAny_BinOp (bin ha hb I h fun v u s2 x y H2 I2 rx ry q => ?_)
  obtain ⟨i, j, rfl, rfl, q⟩ := q
  obtain ⟨t, rfl⟩ := rx
  obtain ⟨t', rfl⟩ := ry
  exact add_int ⟨.int _, H2, I2.tok _, ⟨_, rfl⟩, q⟩
theorem pe_sub (ha : PE X a ta) (hb : PE X b tb) : PE X (.BinOp a .Sub b pos) (tSub ta tb) := by
  intro pins s σ H Q I h
  refine wpAny_BinOp (bin ha hb I h fun v u s2 x y H2 I2 rx ry q => ?_)
  obtain ⟨i, j, rfl, rfl, q⟩ := q
  obtain ⟨t, rfl⟩ := rx
  obtain ⟨t', rfl⟩ := ry
  exact sub_int ⟨.int _, H2, I2.tok _, ⟨_, rfl⟩, q⟩
theorem pe_mul (ha : PE X a ta) (hb : PE X b tb) : PE X (.BinOp a .Mult b pos) (tMul ta tb) := by
  intro pins s σ H Q I h
  refine wpAny_BinOp (bin ha hb I h fun v u s2 x y H2 I2 rx ry q => ?_)
  obtain ⟨i, j, rfl, rfl, ⟨q1, q2⟩, q⟩ := q
  obtain ⟨t, rfl⟩ := rx
  obtain ⟨t', rfl⟩ := ry
  exact mul_int ⟨.int _, H2, I2.tok _, ⟨_, rfl⟩, q⟩ (.of_left (intBits_le_64 q1 q2))

/-! ### comparisons -/
def PC (X : Cx) (op : CmpOp) (a b : Expr) (t : TE) : Prop :=
  ∀ (pins : List (Addr × Obj)) (s : Shared) (σ : St) (H : Hp) (Q : VK), Inv X pins σ H s → t σ H Q →
    wpAny (model X.prog X.w) X.A (eval a X.env) (fun v s₁ => wpAny (model X.prog X.w) X.A (eval b X.env) (fun u s₂ => wpAny (model X.prog X.w) X.A (compareOp op v u) (EP X pins σ Q) X.xe s₂) X.xe s₁) X.xe s
theorem nobehind (b : Expr) {op : CmpOp} (h : op ≠ .In) (h2 : op ≠ .NotIn) : behindInMarks op b = false := by
  have e1 : (op == CmpOp.In) = false := by cases op <;> first | rfl | exact absurd rfl h
  have e2 : (op == CmpOp.NotIn) = false := by cases op <;> first | rfl | exact absurd rfl h2
  cases b <;> simp [behindInMarks, e1, e2]
def tCmp (p : Int → Int → Bool) (ta tb : TE) : TE := fun σ H Q => t2I ta tb (fun i j H2 => Q (.bl (p i j)) H2) σ H
abbrev tLt : TE → TE → TE := tCmp fun i j => decide (i < j)
abbrev tLe : TE → TE → TE := tCmp fun i j => decide (i ≤ j)
abbrev tGt : TE → TE → TE := tCmp fun i j => decide (j < i)
abbrev tGe : TE → TE → TE := tCmp fun i j => decide (j ≤ i)
abbrev tEqI : TE → TE → TE := tCmp fun i j => decide (i = j)
abbrev tNeI : TE → TE → TE := tCmp fun i j => !decide (i = j)
/-- a comparison of two ints, by its rule -/
theorem pc_int {op : CmpOp} {p : Int → Int → Bool} (ha : PE X a ta) (hb : PE X b tb)
    (rule : ∀ (i j : Int) (t u : Tok) (Q : Value → Shared → Prop) (s : Shared), Q (.bool (p i j)) s → wpAny (model X.prog X.w) X.A (compareOp op (.int i t) (.int j u)) Q X.xe s) : PC X op a b (tCmp p ta tb) := by
  intro pins s σ H Q I h
  refine bin ha hb I h fun v u s2 x y H2 I2 rx ry q => ?_
  obtain ⟨i, j, rfl, rfl, q⟩ := q
  obtain ⟨t, rfl⟩ := rx
  obtain ⟨t', rfl⟩ := ry
  exact rule i j t t' _ s2 ⟨.bl _, H2, I2, rfl, q⟩
theorem pc_lt (ha : PE X a ta) (hb : PE X b tb) : PC X .Lt a b (tLt ta tb) := pc_int ha hb fun _ _ _ _ _ _ h => lt_int h
theorem pc_le (ha : PE X a ta) (hb : PE X b tb) : PC X .LtE a b (tLe ta tb) := pc_int ha hb fun _ _ _ _ _ _ h => le_int h
theorem pc_gt (ha : PE X a ta) (hb : PE X b tb) : PC X .Gt a b (tGt ta tb) := pc_int ha hb fun _ _ _ _ _ _ h => gt_int h
theorem pc_ge (ha : PE X a ta) (hb : PE X b tb) : PC X .GtE a b (tGe ta tb) := pc_int ha hb fun _ _ _ _ _ _ h => ge_int h
theorem pc_eqI (ha : PE X a ta) (hb : PE X b tb) : PC X .Eq a b (tEqI ta tb) := pc_int ha hb fun _ _ _ _ _ _ h => eq_int (by rw [Bool.beq_eq_decide_eq]; exact h)
theorem pc_neI (ha : PE X a ta) (hb : PE X b tb) : PC X .NotEq a b (tNeI ta tb) := pc_int ha hb fun _ _ _ _ _ _ h => ne_int (by rw [bne, Bool.beq_eq_decide_eq]; exact h)
/-- is None -/
def tIsN (ta : TE) : TE := fun σ H Q => ta σ H fun x H1 => Q (.bl (decide (x = .non))) H1
def tNotN (ta : TE) : TE := fun σ H Q => ta σ H fun x H1 => Q (.bl (!decide (x = .non))) H1
theorem RelV.none_iff {x : V} {v : Value} (r : RelV x v) : (v == Value.none) = decide (x = .non) := by
  cases x with
  | non => cases r; rfl
  | bl _ => cases r; rfl
  | int _ => obtain ⟨t, rfl⟩ := r; rfl
  | str _ => obtain ⟨t, rfl⟩ := r; rfl
  | byt _ => obtain ⟨t, rfl⟩ := r; rfl
  | flt _ => obtain ⟨t, rfl⟩ := r; rfl
  | ref _ => cases r; rfl
  | ty _ => cases r; rfl
theorem pc_isN {j pos'} (ha : PE X a ta) : PC X .Is a (.Constant .none j pos') (tIsN ta) := by
  intro pins s σ H Q I h
  refine thn (ha pins s σ H _ I h) fun v s1 ⟨x, H1, I1, r1, q1⟩ => ?_
  exact Constant_none (is_none_gen ⟨.bl _, H1, I1, by rw [r1.none_iff]; rfl, q1⟩)
theorem pc_notN {j pos'} (ha : PE X a ta) : PC X .IsNot a (.Constant .none j pos') (tNotN ta) := by
  intro pins s σ H Q I h
  refine thn (ha pins s σ H _ I h) fun v s1 ⟨x, H1, I1, r1, q1⟩ => ?_
  exact Constant_none (isnot_none_gen ⟨.bl _, H1, I1, by rw [r1.none_iff]; rfl, q1⟩)
/-- a comparison as a value, as a test -/
def tB (t : TE) : TT := fun σ H Q => t σ H fun x H1 => ∃ c, x = .bl c ∧ Q c H1
theorem pe_cmp {op : CmpOp} {t : TE} (h : PC X op a b t) (h1 : behindInMarks op b = false := by first | exact nobehind _ (by decide) (by decide) | rfl) : PE X (.Compare a [op] [b] pos) t := fun pins s σ H Q I hw => wpAny_Compare1 (h pins s σ H Q I hw) h1
theorem pt_cmp {op : CmpOp} {t : TE} (h : PC X op a b t) (h1 : behindInMarks op b = false := by first | exact nobehind _ (by decide) (by decide) | rfl) : PT X (.Compare a [op] [b] pos) (tB t) := by
  intro pins s σ H Q I hw
  refine wpAny_isTrue_Compare1 (thn (h pins s σ H _ I hw) fun v s1 h1 => thn h1 fun u s2 h2 => thn h2 fun c s3 ⟨x, H1, I1, r1, q1⟩ => ?_) h1
  obtain ⟨d, rfl, q⟩ := q1
  cases r1
  exact wpAny_truthy_bool ⟨H1, I1, q⟩
/-- an expression whose value is a bool, as a test -/
theorem pt_val {e : Expr} {t : TE} (h : PE X e t) (he : ∀ whole, isTrue e X.env whole = (do let v ← whole; standAt e.pos; holding [v] (truthy v)) := by intro _; rfl) : PT X e (tB t) := by
  intro pins s σ H Q I hw
  refine isTrue_plain (thn (h pins s σ H _ I hw) fun v s1 ⟨x, H1, I1, r1, q1⟩ => ?_) (he _)
  obtain ⟨d, rfl, q⟩ := q1
  cases r1
  exact wpAny_truthy_bool ⟨H1, I1, q⟩

/-! ### and, or, not -/
variable {tA tB' : TT} {rest : List Expr}
def tAnd (t u : TT) : TT := fun σ H Q => t σ H fun c H1 => if c = true then u σ H1 Q else Q false H1
def tOr (t u : TT) : TT := fun σ H Q => t σ H fun c H1 => if c = true then Q true H1 else u σ H1 Q
def tNot (t : TT) : TT := fun σ H Q => t σ H fun c H1 => Q (!c) H1
theorem pw_and1 (ha : PT X a tA) : PW X (.BoolOp .And [a] pos) tA := by
  intro wh pins s σ H Q I h
  refine isTrue_and (thn (ha pins s σ H Q I h) fun c s1 e => ?_)
  cases c with
  | true => exact isTrue_and_nil e
  | false => exact e
theorem pw_or1 (ha : PT X a tA) : PW X (.BoolOp .Or [a] pos) tA := by
  intro wh pins s σ H Q I h
  refine isTrue_or (thn (ha pins s σ H Q I h) fun c s1 e => ?_)
  cases c with
  | false => exact isTrue_or_nil e
  | true => exact e
theorem pw_and (ha : PT X a tA) (hb : PW X (.BoolOp .And (b :: rest) pos) tB') : PW X (.BoolOp .And (a :: b :: rest) pos) (tAnd tA tB') := by
  intro wh pins s σ H Q I h
  refine isTrue_and (thn (ha pins s σ H _ I h) fun c s1 ⟨H1, I1, q1⟩ => ?_)
  cases c with
  | true => exact hb wh pins s1 σ H1 Q I1 q1
  | false => exact ⟨H1, I1, q1⟩
theorem pw_or (ha : PT X a tA) (hb : PW X (.BoolOp .Or (b :: rest) pos) tB') : PW X (.BoolOp .Or (a :: b :: rest) pos) (tOr tA tB') := by
  intro wh pins s σ H Q I h
  refine isTrue_or (thn (ha pins s σ H _ I h) fun c s1 ⟨H1, I1, q1⟩ => ?_)
  cases c with
  | true => exact ⟨H1, I1, q1⟩
  | false => exact hb wh pins s1 σ H1 Q I1 q1
theorem pt_not (ha : PT X a tA) : PT X (.UnaryOp .Not a pos) (tNot tA) := by
  intro pins s σ H Q I h
  exact isTrue_not (ha pins s σ H (fun c H1 => Q (!c) H1) I h)
/-- .. as values (bools) -/
def tAndV (ta tb : TE) : TE := fun σ H Q => ta σ H fun x H1 => ∃ c, x = .bl c ∧ if c = true then tb σ H1 Q else Q (.bl false) H1
def tOrV (ta tb : TE) : TE := fun σ H Q => ta σ H fun x H1 => ∃ c, x = .bl c ∧ if c = true then Q (.bl true) H1 else tb σ H1 Q
def tNotV (ta : TE) : TE := fun σ H Q => ta σ H fun x H1 => ∃ c, x = .bl c ∧ Q (.bl (!c)) H1
theorem pe_one {op} {t : TE} (h : PE X a t) : PE X (.BoolOp op [a] pos) t := fun pins s σ H Q I hw => BoolOp_one (h pins s σ H Q I hw)
theorem pe_and (ha : PE X a ta) (hb : PE X (.BoolOp .And (b :: rest) pos) tb) : PE X (.BoolOp .And (a :: b :: rest) pos) (tAndV ta tb) := by
  intro pins s σ H Q I h
  refine BoolOp_and (thn (ha pins s σ H _ I h) fun v s1 ⟨x, H1, I1, r1, q1⟩ => ?_)
  obtain ⟨c, rfl, q1⟩ := q1
  cases r1
  refine wpAny_truthy_bool ?_
  cases c with
  | true => exact hb pins s1 σ H1 Q I1 q1
  | false => exact ⟨.bl false, H1, I1, rfl, q1⟩
theorem pe_or (ha : PE X a ta) (hb : PE X (.BoolOp .Or (b :: rest) pos) tb) : PE X (.BoolOp .Or (a :: b :: rest) pos) (tOrV ta tb) := by
  intro pins s σ H Q I h
  refine BoolOp_or (thn (ha pins s σ H _ I h) fun v s1 ⟨x, H1, I1, r1, q1⟩ => ?_)
  obtain ⟨c, rfl, q1⟩ := q1
  cases r1
  refine wpAny_truthy_bool ?_
  cases c with
  | false => exact hb pins s1 σ H1 Q I1 q1
  | true => exact ⟨.bl true, H1, I1, rfl, q1⟩
theorem pe_not (ha : PE X a ta) : PE X (.UnaryOp .Not a pos) (tNotV ta) := by
  intro pins s σ H Q I h
  refine UnaryOp_ (thn (ha pins s σ H _ I h) fun v s1 ⟨x, H1, I1, r1, q1⟩ => ?_)
  obtain ⟨c, rfl, q1⟩ := q1
  cases r1
  exact not_of (wpAny_truthy_bool ⟨.bl (!c), H1, I1, rfl, q1⟩)
/-- a if t else b -/
def tIf (t : TT) (ta tb : TE) : TE := fun σ H Q => t σ H fun c H1 => if c = true then ta σ H1 Q else tb σ H1 Q
theorem pe_ifExp {c : Expr} (hc : PT X c tA) (ha : PE X a ta) (hb : PE X b tb) : PE X (.IfExp c a b pos) (tIf tA ta tb) := by
  intro pins s σ H Q I h
  refine wpAny_IfExp (thn (hc pins s σ H _ I h) fun d s1 ⟨H1, I1, q1⟩ => ?_)
  cases d with
  | true => exact ha pins s1 σ H1 Q I1 q1
  | false => exact hb pins s1 σ H1 Q I1 q1
end
end L2

namespace L2
open PySem PySem.Spec PyProof.Rows

/-! ### a list, a tuple that is read: tracked, frozen, or an object of the module -/
def SqL (K : PySem.W.Frag) (H : Hp) (a : Addr) (xs : List V) : Prop :=
  Rd H a (.lst xs) ∨
    ∃ (o : Obj) (its : Array Value) (n : Nat), K.lookup a = some o ∧ o.cls = .type "list" ∧ o.dict = none ∧ o.data = .seq its n ∧ its.size ≤ sizeLine ∧ Vals xs its.toList
def SqT (K : PySem.W.Frag) (H : Hp) (a : Addr) (xs : List V) : Prop :=
  Rd H a (.tup xs) ∨
    ∃ (o : Obj) (its : Array Value) (n : Nat), K.lookup a = some o ∧ o.cls = .type "tuple" ∧ o.data = .seq its n ∧ its.size ≤ sizeLine ∧ Vals xs its.toList
def absV : Value → Option V
  | .none => some .non
  | .bool b => some (.bl b)
  | .int i _ => some (.int i)
  | .str x _ => some (.str x)
  | .bytes b _ => some (.byt b)
  | .float b _ => some (.flt b)
  | .ref a => some (.ref a)
  | .type n => some (.ty n)
  | _ => none
theorem RelV.abs {x : V} {u : Value} (r : RelV x u) : absV u = some x := by
  cases x with
  | non => cases r; rfl
  | bl _ => cases r; rfl
  | int _ => obtain ⟨t, rfl⟩ := r; rfl
  | str _ => obtain ⟨t, rfl⟩ := r; rfl
  | byt _ => obtain ⟨t, rfl⟩ := r; rfl
  | flt _ => obtain ⟨t, rfl⟩ := r; rfl
  | ref _ => cases r; rfl
  | ty _ => cases r; rfl
theorem RelV.inj {x y : V} {u : Value} (r : RelV x u) (q : RelV y u) : x = y := Option.some.inj (r.abs.symm.trans q.abs)
theorem Vals.inj : ∀ {xs ys : List V} {us : List Value}, Vals xs us → Vals ys us → xs = ys
  | _, _, _, .nil, .nil => rfl
  | _, _, _, .cons r t, .cons r' t' => by rw [r.inj r', Vals.inj t t']
section
variable {X : Cx} {pins : List (Addr × Obj)} {σ : St} {H : Hp} {s : Shared} {a : Addr} {xs ys : List V}
theorem SqL.of {K : PySem.W.Frag} (h : H a = some (.lst xs)) : SqL K H a xs := .inl (.inl h)
theorem SqT.of {K : PySem.W.Frag} (h : H a = some (.tup xs)) : SqT K H a xs := .inl (.inl h)
theorem Inv.list (I : Inv X pins σ H s) (h : SqL X.K H a xs) : ∃ its : List Value, Vals xs its ∧ PlainL s.heap a its.toArray ∧ xs.length ≤ sizeLine := by
  rcases h with h | ⟨o, its, n, hk, hc, hd, hs, hz, r⟩
  · obtain ⟨z, its, n, r, e⟩ := h.ok I.hok
    exact ⟨its, r, ⟨_, n, e, rfl, rfl, rfl⟩, z⟩
  · refine ⟨its.toList, r, ⟨o, n, I.kIn a o hk, hc, hd, by simpa using hs⟩, ?_⟩
    have e := r.length
    simp only [Array.length_toList] at e
    omega
theorem Inv.tuple (I : Inv X pins σ H s) (h : SqT X.K H a xs) : ∃ its : List Value, Vals xs its ∧ IsTup s.heap a its.toArray ∧ xs.length ≤ sizeLine := by
  rcases h with h | ⟨o, its, n, hk, hc, hs, hz, r⟩
  · obtain ⟨z, its, r, p⟩ := h.ok I.hok
    exact ⟨its, r, p, z⟩
  · refine ⟨its.toList, r, ⟨o, I.kIn a o hk, hc, n, by simpa using hs⟩, ?_⟩
    have e := r.length
    simp only [Array.length_toList] at e
    omega
theorem Inv.list_inj (I : Inv X pins σ H s) (h : SqL X.K H a xs) (h' : SqL X.K H a ys) : xs = ys := by
  obtain ⟨its, r, ⟨o, n, e, _, _, d⟩, _⟩ := I.list h
  obtain ⟨its', r', ⟨o', n', e', _, _, d'⟩, _⟩ := I.list h'
  rw [e] at e'; cases e'
  rw [d] at d'
  injection d' with d1 _
  have : its = its' := by simpa using congrArg Array.toList d1
  subst this
  exact r.inj r'
theorem Inv.tuple_inj (I : Inv X pins σ H s) (h : SqT X.K H a xs) (h' : SqT X.K H a ys) : xs = ys := by
  obtain ⟨its, r, ⟨o, e, _, n, d⟩, _⟩ := I.tuple h
  obtain ⟨its', r', ⟨o', e', _, n', d'⟩, _⟩ := I.tuple h'
  rw [e] at e'; cases e'
  rw [d] at d'
  injection d' with d1 _
  have : its = its' := by simpa using congrArg Array.toList d1
  subst this
  exact r.inj r'
end

/-! ### another wish about exceptions -/
abbrev Cx.wish (X : Cx) (E : Value → Shared → Prop) : Cx := { X with xe := E }
/-- no exception leaves -/
abbrev Cx.nox (X : Cx) : Cx := X.wish fun _ _ => False
theorem Cx.Ok.wish {X : Cx} (ok : X.Ok) (E : Value → Shared → Prop) : (X.wish E).Ok :=
  ⟨ok.mod, ok.kind, ok.glob, ok.blt, ok.above, ok.inj, ok.has, ok.cab, ok.hd, ok.frames, ok.stk, ok.exf, ok.bs, ok.bsz, ok.noex, ok.exfs, ok.funs, ok.frf⟩
theorem Cx.Ok.unwish {X : Cx} {E : Value → Shared → Prop} (ok : (X.wish E).Ok) : X.Ok :=
  ⟨ok.mod, ok.kind, ok.glob, ok.blt, ok.above, ok.inj, ok.has, ok.cab, ok.hd, ok.frames, ok.stk, ok.exf, ok.bs, ok.bsz, ok.noex, ok.exfs, ok.funs, ok.frf⟩
section
variable {X : Cx} {pins : List (Addr × Obj)} {σ : St} {H : Hp} {s : Shared} {E : Value → Shared → Prop}
theorem Inv.wish (I : Inv X pins σ H s) (E : Value → Shared → Prop) : Inv (X.wish E) pins σ H s := ⟨I.ok.wish E, I.os, I.bare, I.base, I.loc, I.cell, I.free, I.freeC, I.pin, I.hok, I.len⟩
theorem Inv.unwish (I : Inv (X.wish E) pins σ H s) : Inv X pins σ H s := ⟨I.ok.unwish, I.os, I.bare, I.base, I.loc, I.cell, I.free, I.freeC, I.pin, I.hok, I.len⟩
theorem SP.unwish {D : Ends} {f : Flow} {s' : Shared} (h : SP (X.wish E) pins D f s') : SP X pins D f s' := by
  cases f with
  | next => obtain ⟨σ', H', I, q⟩ := h; exact ⟨σ', H', I.unwish, q⟩
  | brk => obtain ⟨σ', H', I, q⟩ := h; exact ⟨σ', H', I.unwish, q⟩
  | cont => obtain ⟨σ', H', I, q⟩ := h; exact ⟨σ', H', I.unwish, q⟩
  | ret u => obtain ⟨v, σ', H', I, r, q⟩ := h; exact ⟨v, σ', H', I.unwish, r, q⟩
theorem PE.nox {e : Expr} {t : TE} (h : PE X.nox e t) : PE X e t := fun pins s σ H Q I hw =>
  wpAny_mono (h pins s σ H Q (I.wish _) hw) (fun _ _ ⟨v, H', I', r, q⟩ => ⟨v, H', I'.unwish, r, q⟩) fun _ _ z => False.elim z
theorem PT.nox {e : Expr} {t : TT} (h : PT X.nox e t) : PT X e t := fun pins s σ H Q I hw =>
  wpAny_mono (h pins s σ H Q (I.wish _) hw) (fun _ _ ⟨H', I', q⟩ => ⟨H', I'.unwish, q⟩) fun _ _ z => False.elim z
theorem PSs.nox {st : List Stmt} {t : TS} (h : PSs X.nox st t) : PSs X st t := fun pins s σ H D I hw =>
  wpAny_mono (h pins s σ H D (I.wish _) hw) (fun _ _ q => q.unwish) fun _ _ z => False.elim z
end

/-! ### blocks and small statements -/
section
variable {X : Cx} {st : Stmt} {rest : List Stmt} {t u : TS} {e : Expr} {te : TE} {pos : Pos}
def tNext : TS := fun D σ H => D.nx σ H
def tSeq (t u : TS) : TS := fun D σ H => t { D with nx := u D } σ H
theorem pss_nil : PSs X [] tNext := fun _ _ σ H _ I h => wpAny_execs_nil ⟨σ, H, I, h⟩
theorem pss_cons (h1 : PS X st t) (h2 : PSs X rest u) : PSs X (st :: rest) (tSeq t u) := by
  intro pins s σ H D I h
  refine wpAny_execs_cons (thn (h1 pins s σ H { D with nx := u D } I h) fun f s1 q => ?_)
  cases f with
  | next =>
    obtain ⟨σ', H', I', q⟩ := q
    exact h2 pins s1 σ' H' D I' q
  | ret v => exact q
  | brk => exact q
  | cont => exact q
theorem pss_one (h1 : PS X st t) : PSs X [st] t := by
  intro pins s σ H D I h
  refine wpAny_execs_cons (thn (h1 pins s σ H D I h) fun f s1 q => ?_)
  cases f with
  | next => exact wpAny_execs_nil q
  | ret v => exact q
  | brk => exact q
  | cont => exact q
def tBreak : TS := fun D σ H => D.bk σ H
def tCont : TS := fun D σ H => D.ct σ H
theorem ps_pass : PS X (.Pass pos) tNext := fun _ _ σ H _ I h => wpAny_Pass ⟨σ, H, I, h⟩
theorem ps_break : PS X (.Break pos) tBreak := fun _ _ σ H _ I h => wpAny_Break ⟨σ, H, I, h⟩
theorem ps_continue : PS X (.Continue pos) tCont := fun _ _ σ H _ I h => wpAny_Continue ⟨σ, H, I, h⟩
/-- in a def's body nothing is shown -/
theorem Inv.quiet {pins : List (Addr × Obj)} {σ : St} {H : Hp} {s : Shared} (I : Inv X pins σ H s) : interactive X.env = false := by simp [interactive, I.ok.kind]
/-- a docstring -/
theorem ps_doc {x j pos pos'} : PS X (.Expr (.Constant (.str x) j pos) pos') tNext := fun _ s σ H _ I h => wpAny_Expr (Calls.Constant_str (show SP X _ _ .next { s with toks := s.toks + 1 } from ⟨σ, H, I.tok _, h⟩)) I.quiet
/-- an expression whose value is dropped -/
def tDrop (te : TE) : TS := fun D σ H => te σ H fun _ H1 => D.nx σ H1
theorem ps_expr (he : PE X e te) (hs : swapsWith e none pos.line X.env = pure false := by rfl) : PS X (.Expr e pos) (tDrop te) := by
  intro pins s σ H D I h
  exact wpAny_Expr_any (thn (he pins s σ H _ I h) fun v s1 ⟨x, H1, I1, r1, q1⟩ => ⟨σ, H1, I1, q1⟩) I.quiet hs
def tRet (te : TE) : TS := fun D σ H => te σ H D.rt
theorem ps_ret (he : PE X e te) : PS X (.Return (some e) pos) (tRet te) := by
  intro pins s σ H D I h
  exact wpAny_Return_some (thn (he pins s σ H _ I h) fun v s1 ⟨x, H1, I1, r1, q1⟩ => ⟨x, σ, H1, I1, r1, q1⟩)
def tRetN : TS := fun D _ H => D.rt .non H
theorem ps_retN : PS X (.Return none pos) tRetN := fun _ _ σ H _ I h => wpAny_Return_none ⟨.non, σ, H, I, rfl, h⟩
def tIfS (c : TT) (t u : TS) : TS := fun D σ H => c σ H fun b H1 => if b = true then t D σ H1 else u D σ H1
theorem ps_if {c : Expr} {a b : List Stmt} {tc : TT} (hc : PT X c tc) (ha : PSs X a t) (hb : PSs X b u) : PS X (.If c a b pos) (tIfS tc t u) := by
  intro pins s σ H D I h
  refine wpAny_If (thn (hc pins s σ H _ I h) fun d s1 ⟨H1, I1, q1⟩ => ?_)
  cases d with
  | true => exact ha pins s1 σ H1 D I1 q1
  | false => exact hb pins s1 σ H1 D I1 q1
/-- code that the proof never comes to -/
def tNever : TS := fun _ _ _ => False
theorem ps_never : PS X st tNever := fun _ _ _ _ _ _ h => h.elim
theorem pss_never {sts : List Stmt} : PSs X sts tNever := fun _ _ _ _ _ _ h => h.elim
end

/-! ### targets -/
abbrev TG := V → St → Hp → (St → Hp → Prop) → Prop
abbrev TGs := List V → St → Hp → (St → Hp → Prop) → Prop
def PG (X : Cx) (target : Expr) (t : TG) : Prop :=
  ∀ (pins : List (Addr × Obj)) (s : Shared) (σ : St) (H : Hp) (v : V) (u : Value) (Q : St → Hp → Prop), Inv X pins σ H s → RelV v u → t v σ H Q →
    wpAny (model X.prog X.w) X.A (assign target X.env u) (fun _ s' => ∃ σ' H', Inv X pins σ' H' s' ∧ Q σ' H') X.xe s
/-- several targets, one after another -/
def PGs (X : Cx) (ts : List Expr) (t : TGs) : Prop :=
  ∀ (pins : List (Addr × Obj)) (s : Shared) (σ : St) (H : Hp) (vs : List V) (us : List Value) (Q : St → Hp → Prop), Inv X pins σ H s → Vals vs us → t vs σ H Q →
    wpAny (model X.prog X.w) X.A (assignInOrder ((assignEach ts X.env).map (·.2)) us) (fun _ s' => ∃ σ' H', Inv X pins σ' H' s' ∧ Q σ' H') X.xe s
/-- o[i] = v, by values -/
abbrev TSet := V → V → V → Hp → (Hp → Prop) → Prop
def PSet (X : Cx) (t : TSet) : Prop :=
  ∀ (pins : List (Addr × Obj)) (s : Shared) (σ : St) (H : Hp) (o i v : V) (ov iv u : Value) (Q : Hp → Prop), Inv X pins σ H s → RelV o ov → RelV i iv → RelV v u → t o i v H Q →
    wpAny (model X.prog X.w) X.A (setItem ov iv u) (fun _ s' => ∃ H', Inv X pins σ H' s' ∧ Q H') X.xe s
/-- a op= b, by values -/
abbrev TIp := V → V → Hp → VK → Prop
def PIp (X : Cx) (op : Operator) (t : TIp) : Prop :=
  ∀ (pins : List (Addr × Obj)) (s : Shared) (σ : St) (H : Hp) (x y : V) (v u : Value) (Q : VK), Inv X pins σ H s → RelV x v → RelV y u → t x y H Q →
    wpAny (model X.prog X.w) X.A (inplaceOp op v u) (EP X pins σ Q) X.xe s
section
variable {X : Cx} {pos : Pos}
def gName (i : Nat) : TG := fun v σ H Q => Q (σ.set i (some v)) H
theorem pg_name {i : Nat} {x : Str} (hN : X.N.Nodup) (hi : X.N[i]? = some x) (hx : Loc X.env.scope x) (hf : X.fn x = true ∨ X.env.scope.names.lookup x = some .local := by first | exact .inl rfl | exact .inr rfl | assumption) : PG X (.Name x pos) (gName i) := by
  intro pins s σ H v u Q I r h
  exact wpAny_assign_Name (store_ok I hN hi hx r (fun s' I' => ⟨_, H, I', h⟩) hf)
def gNil : TGs := fun vs σ H Q => vs = [] ∧ Q σ H
def gCons (t : TG) (u : TGs) : TGs := fun vs σ H Q => ∃ v r, vs = v :: r ∧ t v σ H fun σ' H' => u r σ' H' Q
theorem pgs_nil : PGs X [] gNil := by
  intro pins s σ H vs us Q I r h
  obtain ⟨e, h⟩ := h
  subst e
  cases r
  exact assignInOrder_nil ⟨σ, H, I, h⟩
theorem pgs_cons {e : Expr} {es : List Expr} {t : TG} {u : TGs} (h1 : PG X e t) (h2 : PGs X es u)
    (hs : (assignEach (e :: es) X.env).map (·.2) = assign e X.env :: (assignEach es X.env).map (·.2) := by rfl) : PGs X (e :: es) (gCons t u) := by
  intro pins s σ H vs us Q I r h
  obtain ⟨v, vr, e1, h⟩ := h
  subst e1
  cases r with
  | cons r rr =>
    rw [hs]
    refine assignInOrder_cons (thn (h1 pins s σ H _ _ _ I r h) fun _ s1 ⟨σ1, H1, I1, q1⟩ => ?_)
    exact h2 pins s1 σ1 H1 _ _ Q I1 rr q1
/-- (a, b, ..) = a tuple of that length -/
def gTup (K : PySem.W.Frag) (n : Nat) (t : TGs) : TG := fun v σ H Q => ∃ a xs, v = .ref a ∧ SqT K H a xs ∧ xs.length = n ∧ t xs σ H Q
theorem pg_tup {es : List Expr} {k : Nat} {t : TGs} {n : Nat} (hc : X.calm = true) (h : PGs X es t)
    (hn : (assignEach es X.env).length = n := by rfl) (hst : (assignEach es X.env).findIdx? (·.1) = none := by rfl) : PG X (.Tuple es k pos) (gTup X.K n t) := by
  intro pins s σ H v u Q I r hw
  obtain ⟨a, xs, e1, hq, hl, hw⟩ := hw
  subst e1
  cases r
  obtain ⟨its, rv, ht, hz⟩ := I.tuple hq
  refine assign_Tuple_tuple (I.ok.hd hc) ht (by simp [hn, ← hl, rv.length]) hst fun h' hx => ?_
  have I1 : Inv X pins σ H { s with heap := h' } := I.kept (t' := s.toks) fun b o e => hx b o (Nat.ne_of_lt (Heap.lt_size e)) e
  exact h pins _ σ H xs _ Q I1 (by simpa using rv) hw
/-- o[i] = .. -/
def gSub (to ti : TE) (t : TSet) : TG := fun v σ H Q => to σ H fun o H1 => ti σ H1 fun i H2 => t o i v H2 fun H3 => Q σ H3
theorem pg_sub {o i : Expr} {to ti : TE} {t : TSet} (ho : PE X o to) (hi : PE X i ti) (hs : PSet X t)
    (ha : ∀ v, assign (.Subscript o i pos) X.env v = (do
      let ov ← holding [v] (eval o X.env)
      let iv ← holding [v, ov] (eval i X.env)
      standAt pos
      holding [v, ov, iv] (setItem ov iv v)
      release [v, ov, iv] []) := by intro _; rfl) : PG X (.Subscript o i pos) (gSub to ti t) := by
  intro pins s σ H v u Q I r h
  rw [ha]
  refine wpAny_bind (wpAny_holding (thn (ho pins s σ H _ I h) fun ov s1 ⟨x, H1, I1, r1, q1⟩ => ?_))
  refine wpAny_bind (wpAny_holding (thn (hi pins s1 σ H1 _ I1 q1) fun iv s2 ⟨y, H2, I2, r2, q2⟩ => ?_))
  refine wpAny_bind (wpAny_standAt (wpAny_bind (wpAny_holding (thn (hs pins s2 σ H2 x y v ov iv u _ I2 r1 r2 r q2) fun _ s3 ⟨H3, I3, q3⟩ => ?_))))
  exact wpAny_release ⟨σ, H3, I3, q3⟩
/-- target = value -/
def tAsg (te : TE) (g : TG) : TS := fun D σ H => te σ H fun x H1 => g x σ H1 D.nx
theorem ps_asg {tg e : Expr} {te : TE} {g : TG} (he : PE X e te) (hg : PG X tg g) (hs : swapsWithSole [tg] e pos.line X.env = pure false := by rfl) (hw : swappedStores [tg] e X.env = pure none := by rfl)
    (h1 : (assignEach [tg] X.env).map (·.2) = [assign tg X.env] := by rfl) : PS X (.Assign [tg] e pos) (tAsg te g) := by
  intro pins s σ H D I h
  refine wpAny_Assign_stores (thn (he pins s σ H _ I h) fun v s1 ⟨x, H1, I1, r1, q1⟩ => ?_) hs hw
  rw [h1]
  exact thn (hg pins s1 σ H1 x v _ I1 r1 q1) fun _ s2 q => q
/-- name = value -/
theorem ps_set {i : Nat} {x : Str} {e : Expr} {te : TE} {pos' : Pos} (hN : X.N.Nodup) (hi : X.N[i]? = some x) (hx : Loc X.env.scope x) (he : PE X e te) (hs : swapsWith e (some (.Name x pos')) pos.line X.env = pure false := by rfl) (hf : X.fn x = true ∨ X.env.scope.names.lookup x = some .local := by first | exact .inl rfl | exact .inr rfl | assumption) :
    PS X (.Assign [.Name x pos'] e pos) (tAsg te (gName i)) := by
  intro pins s σ H D I h
  refine wpAny_Assign_Name (thn (he pins s σ H _ I h) fun v s1 ⟨y, H1, I1, r1, q1⟩ => ?_) hs
  exact store_ok I1 hN hi hx r1 (fun s2 I2 => ⟨_, H1, I2, q1⟩) hf
/-- a, b = x, y with plain local names: stored from the right; the pair itself is not tracked (the opening rows as in PyProof/Rows/TupAssign.lean:23) -/
def tPar (i j : Nat) (ta : TA) : TS := fun D σ H => ta σ H fun vs H1 => ∃ v w, vs = [v, w] ∧ D.nx ((σ.set i (some v)).set j (some w)) H1
theorem ps_par {i j : Nat} {x y : Str} {a b : Expr} {ta : TA} {px py pt : Pos} {kt k2 pt2} (hc : X.calm = true) (hN : X.N.Nodup) (hi : X.N[i]? = some x) (hj : X.N[j]? = some y) (hij : i ≠ j)
    (hx : X.env.scope.names.lookup x = some .local) (hy : X.env.scope.names.lookup y = some .local) (ha : PA X [a, b] ta)
    (hw : swappedStores [.Tuple [.Name x px, .Name y py] kt pt] (.Tuple [a, b] k2 pt2) X.env = pure (some [x, y]))
    (hs : swapsWithSole [.Tuple [.Name x px, .Name y py] kt pt] (.Tuple [a, b] k2 pt2) pos.line X.env = pure false := by rfl) :
    PS X (.Assign [.Tuple [.Name x px, .Name y py] kt pt] (.Tuple [a, b] k2 pt2) pos) (tPar i j ta) := by
  intro pins s σ H D I h
  rw [exec_Assign_arm]
  refine wpAny_bind (wpAny_standAt ?_)
  rw [hs]
  refine wpAny_bind (wpAny_pure ?_)
  rw [if_neg (by decide)]
  refine wpAny_bind (Tuple_ (thn (ha _ pins s σ H _ I h) fun us s1 ⟨vs, H1, I1, r1, q1⟩ => ?_))
  obtain ⟨v, w, e1, q1⟩ := q1
  subst e1
  obtain ⟨u1, u2, rfl, rv, rw'⟩ : ∃ u1 u2, us = [u1, u2] ∧ RelV v u1 ∧ RelV w u2 := by
    cases r1 with
    | cons p q =>
      cases q with
      | cons p' q' =>
        cases q'
        exact ⟨_, _, rfl, p, p'⟩
  refine wpAny_newObj_type ?_ (by show 2 ≤ sizeLine; decide)
  have I2 : Inv X pins σ H1 { s1 with heap := s1.heap.push { cls := .type "tuple", data := .seq [u1, u2].toArray } } := I1.kept (t' := s1.toks) fun b o e => Heap.get?_push_of_some _ e
  rw [hw]
  refine wpAny_bind (wpAny_pure ?_)
  show wpAny (model X.prog X.w) X.A (do rule "assign.swapped-stores"; let items ← unpackItems (.ref s1.heap.objs.size) 2 none; assignInOrder [fun v => bindName X.env y v, fun v => bindName X.env x v] items.reverse; pure Flow.next) _ _ _
  refine wpAny_bind (wpAny_rule (wpAny_bind (unpackItems_tuple (items := #[u1, u2]) (I.ok.hd hc) (IsTup.new s1.heap _) fun h' hx' => ?_)))
  have I3 := I2.kept (h' := h') (t' := s1.toks) fun b o e => hx' b o (Nat.ne_of_lt (Heap.lt_size e)) e
  show wpAny _ _ (assignInOrder [fun v => bindName X.env y v, fun v => bindName X.env x v] [u2, u1] >>= fun _ => pure Flow.next) _ _ _
  refine wpAny_bind (assignInOrder_cons (wpAny_bindName (store_ok I3 hN hj (.inl hy) rw' (fun s2 I4 => ?_) (.inr hy))))
  refine assignInOrder_cons (wpAny_bindName (store_ok I4 hN hi (.inl hx) rv (fun s3 I5 => assignInOrder_nil (wpAny_pure ?_)) (.inr hx)))
  rw [List.set_comm _ _ (Ne.symm hij)] at I5
  exact ⟨_, H1, I5, q1⟩
/-- name op= e -/
def tAug (i : Nat) (te : TE) (ti : TIp) : TS := fun D σ H => ∃ x, σ[i]? = some (some x) ∧ te σ H fun y H1 => ti x y H1 fun z H2 => D.nx (σ.set i (some z)) H2
theorem ps_aug {i : Nat} {x : Str} {e : Expr} {te : TE} {op : Operator} {ti : TIp} {pos' : Pos} (hN : X.N.Nodup) (hi : X.N[i]? = some x) (hx : Loc X.env.scope x) (he : PE X e te) (ho : PIp X op ti) (hf : X.fn x = true ∨ X.env.scope.names.lookup x = some .local := by first | exact .inl rfl | exact .inr rfl | assumption) :
    PS X (.AugAssign (.Name x pos') op e pos) (tAug i te ti) := by
  intro pins s σ H D I h
  obtain ⟨v, e1, h⟩ := h
  obtain ⟨m, hn, hl⟩ := I.loc
  have vis : Vis X.env.scope x := by rcases hx with k | k; exact .inl k; exact .inr (.inl k)
  obtain ⟨u, r, l⟩ := hl i x v hi e1 vis
  refine wpAny_AugAssign_Name ?_
  have go : wpAny (model X.prog X.w) X.A (eval e X.env) (fun w s₂ => wpAny (model X.prog X.w) X.A (inplaceOp op u w) (fun r s₃ => wpAny (model X.prog X.w) X.A (storeName X.env x r) (fun _ => SP X pins D .next) X.xe s₃) X.xe s₂) X.xe s := by
    refine thn (he pins s σ H _ I h) fun w s1 ⟨y, H1, I1, r1, q1⟩ => ?_
    refine thn (ho pins s1 σ H1 v y u w _ I1 r r1 q1) fun z s2 ⟨zv, H2, I2, r2, q2⟩ => ?_
    exact store_ok I2 hN hi hx r2 (fun s3 I3 => ⟨_, H2, I3, q2⟩) hf
  rcases l with ⟨hk, hm⟩ | ⟨hk, c, hc, hcell⟩
  · exact wpAny_loadName_local I.ok.kind hk hn hm go
  · rcases hk with hk | hk
    · exact wpAny_loadName_cell I.ok.kind hk hc hcell go
    · rcases hx with k | k
      · have : X.env.scope.names.lookup x = some .free := hk
        rw [k] at this; cases this
      · have : X.env.scope.names.lookup x = some .free := hk
        rw [k] at this; cases this
/-- o[i] op= e -/
def tAugS (to ti te : TE) (tget : V → V → Hp → VK → Prop) (tip : TIp) (tset : TSet) : TS := fun D σ H => to σ H fun o H1 => ti σ H1 fun i H2 => tget o i H2 fun x H3 => te σ H3 fun y H4 => tip x y H4 fun z H5 => tset o i z H5 fun H6 => D.nx σ H6
/-- o[i], by values -/
def PGet (X : Cx) (t : V → V → Hp → VK → Prop) : Prop :=
  ∀ (pins : List (Addr × Obj)) (s : Shared) (σ : St) (H : Hp) (o i : V) (ov iv : Value) (Q : VK), Inv X pins σ H s → RelV o ov → RelV i iv → t o i H Q →
    wpAny (model X.prog X.w) X.A (getItem ov iv) (EP X pins σ Q) X.xe s
theorem ps_augS {o i e : Expr} {to ti te : TE} {tget : V → V → Hp → VK → Prop} {tip : TIp} {tset : TSet} {op : Operator} {tpos : Pos} (ho : PE X o to) (hi : PE X i ti) (hg : PGet X tget) (he : PE X e te) (hp : PIp X op tip) (hs : PSet X tset)
    (ha : ∀ ov iv new, augStore i ov iv new = (do holding [new, ov, iv] (setItem ov iv new); release [new, ov, iv] []; pure .next) := by intros; rfl) : PS X (.AugAssign (.Subscript o i tpos) op e pos) (tAugS to ti te tget tip tset) := by
  intro pins s σ H D I h
  refine wpAny_AugAssign_SubscriptAny (thn (ho pins s σ H _ I h) fun ov s1 ⟨x1, H1, I1, r1, q1⟩ => ?_) ha
  refine thn (hi pins s1 σ H1 _ I1 q1) fun iv s2 ⟨x2, H2, I2, r2, q2⟩ => ?_
  refine thn (hg pins s2 σ H2 x1 x2 ov iv _ I2 r1 r2 q2) fun old s3 ⟨x3, H3, I3, r3, q3⟩ => ?_
  refine thn (he pins s3 σ H3 _ I3 q3) fun v s4 ⟨x4, H4, I4, r4, q4⟩ => ?_
  refine thn (hp pins s4 σ H4 x3 x4 old v _ I4 r3 r4 q4) fun new s5 ⟨x5, H5, I5, r5, q5⟩ => ?_
  exact thn (hs pins s5 σ H5 x1 x2 x5 ov iv new _ I5 r1 r2 r5 q5) fun _ s6 ⟨H6, I6, q6⟩ => ⟨σ, H6, I6, q6⟩
/-- ints -/
def ipI (f : Int → Int → Int) : TIp := fun x y H Q => ∃ i j, x = .int i ∧ y = .int j ∧ Q (.int (f i j)) H
theorem ip_add : PIp X .Add (ipI fun i j => i + j) := by
  intro pins s σ H x y v u Q I r1 r2 h
  obtain ⟨i, j, e1, e2, q⟩ := h
  subst e1; subst e2
  obtain ⟨t, rfl⟩ := r1
  obtain ⟨t', rfl⟩ := r2
  exact iadd_int ⟨.int _, H, I.tok _, ⟨_, rfl⟩, q⟩
theorem ip_sub : PIp X .Sub (ipI fun i j => i - j) := by
  intro pins s σ H x y v u Q I r1 r2 h
  obtain ⟨i, j, e1, e2, q⟩ := h
  subst e1; subst e2
  obtain ⟨t, rfl⟩ := r1
  obtain ⟨t', rfl⟩ := r2
  exact isub_int ⟨.int _, H, I.tok _, ⟨_, rfl⟩, q⟩
end

/-! ### while -/
section
variable {X : Cx} {pos : Pos}
/-- the invariant W with its measure -/
def tWhile (c : TT) (tb : TS) : TS := fun D σ H => ∃ W : Nat → St → Hp → Prop, (∃ m, W m σ H) ∧ ∀ m σ H, W m σ H →
  c σ H fun b H1 => if b = true then ∃ N : St → Hp → Prop, (∀ σ' H', N σ' H' → ∃ m', m' < m ∧ W m' σ' H') ∧ tb { D with nx := N, ct := N, bk := D.nx } σ H1 else D.nx σ H1
theorem ps_while {c : Expr} {body : List Stmt} {tc : TT} {tb : TS} (hp : PassesOwn (model X.prog X.w) X.A X.env X.xe) (hc : PT X c tc) (hb : PSs X body tb) : PS X (.While c body [] pos) (tWhile tc tb) := by
  intro pins s σ H D I h
  obtain ⟨W, ⟨m0, w0⟩, turn⟩ := h
  refine wpAny_While (codeAny_whileLoop (fun n s' => ∃ σ' H', Inv X pins σ' H' s' ∧ W n σ' H') ?_ m0 ⟨σ, H, I, w0⟩)
  rintro n s1 ⟨σ1, H1, I1, w1⟩
  refine wpAny_passesOwn hp (thn (hc pins s1 σ1 H1 _ I1 (turn n σ1 H1 w1)) fun b s2 ⟨H2, I2, q2⟩ => ?_)
  cases b with
  | true =>
    obtain ⟨N, hN, q2⟩ := q2
    rw [if_pos rfl]
    refine wpAny_passesOwn hp (thn (hb pins s2 σ1 H2 _ I2 q2) fun f s3 q3 => ?_)
    cases f with
    | next =>
      obtain ⟨σ3, H3, I3, n3⟩ := q3
      obtain ⟨m', hm, w3⟩ := hN σ3 H3 n3
      exact ⟨m', hm, σ3, H3, I3, w3⟩
    | cont =>
      obtain ⟨σ3, H3, I3, n3⟩ := q3
      obtain ⟨m', hm, w3⟩ := hN σ3 H3 n3
      exact ⟨m', hm, σ3, H3, I3, w3⟩
    | brk => exact q3
    | ret v => exact q3
  | false =>
    rw [if_neg Bool.false_ne_true]
    exact wpAny_execs_nil ⟨σ1, H2, I2, q2⟩
end

/-! ### what a loop or a comprehension walks -/
/-- at turn i: it yields x (the heap may grow), or it stops -/
structure It where
  go : Nat → Hp → Prop
  yld : Nat → Hp → V → Hp → Prop
  stop : Nat → Hp → Prop
/-- the iterator's own objects may turn: they are not the frame's, not pinned, younger than the entry (or a comprehension's own) -/
def FpOk (X : Cx) (pins : List (Addr × Obj)) (H : Hp) (b : Addr) : Prop :=
  H b = none ∧ b ≠ X.env.locals ∧ b ∉ X.fs ∧ (b ∈ X.ex ∨ X.s₀.heap.objs.size ≤ b) ∧ (∀ x c, X.env.cells.lookup x = some c → c ≠ b) ∧ ∀ p ∈ X.pn ++ pins, p.1 ≠ b
theorem Inv.fpOk {X : Cx} {pins : List (Addr × Obj)} {σ : St} {H H' : Hp} {s : Shared} {b : Addr} (I : Inv X pins σ H s) (hb : s.heap.objs.size ≤ b) (hn : H' b = none) : FpOk X pins H' b := by
  refine ⟨hn, Nat.ne_of_gt (Nat.lt_of_lt_of_le I.lt hb), I.nofs hb, .inr (Nat.le_trans I.sz hb), fun x c e z => ?_, fun p hp z => ?_⟩
  · obtain ⟨v, q⟩ := I.cell x c e
    exact absurd (Nat.lt_of_lt_of_le q.lt (by rw [z]; exact hb)) (Nat.lt_irrefl _)
  · exact absurd (Nat.lt_of_lt_of_le (Heap.lt_size (I.pin p hp).1) (by rw [z]; exact hb)) (Nat.lt_irrefl _)
structure Turn (P : Program) (w : World) (K : PySem.W.Frag) (tg : Expr) (J : It) (fp : List Addr) (it : Addr) (tn : Nat → Heap → Prop) : Prop where
  mem : it ∈ fp
  obj : ∀ i h, tn i h → ∀ b ∈ fp, ∃ o, h.get? b = some o ∧ ∀ v, o.data ≠ .cell v
  keep : ∀ i h h', tn i h → (∀ b ∈ fp, ∀ o, h.get? b = some o → h'.get? b = some o) → tn i h'
  item : ∀ (X : Cx), X.prog = P → X.w = w → X.K = K → X.calm = true → ∀ (i : Nat) (pins : List (Addr × Obj)) (s : Shared) (σ : St) (H : Hp) (E : Value → Shared → Prop), Inv X pins σ H s → (∀ b ∈ fp, FpOk X pins H b) → tn i s.heap → J.go i H →
    wpAny (model P w) X.A (pyNext (.ref it)) (fun r s1 => ∃ u, r = some u ∧
      wpAny (model P w) X.A (letOwnedTupleGo tg (.ref it) u) (fun _ s2 => ∃ x H', Inv X pins σ H' s2 ∧ RelV x u ∧ J.yld i H x H' ∧ tn (i + 1) s2.heap ∧ ∀ b ∈ fp, H' b = none) E s1) E s
  done : ∀ (X : Cx), X.prog = P → X.w = w → X.K = K → X.calm = true → ∀ (i : Nat) (pins : List (Addr × Obj)) (s : Shared) (σ : St) (H : Hp) (E : Value → Shared → Prop), Inv X pins σ H s → (∀ b ∈ fp, FpOk X pins H b) → tn i s.heap → J.stop i H →
    wpAny (model P w) X.A (pyNext (.ref it)) (fun r s1 => r = none ∧ Inv X pins σ H s1) E s
  self : ∀ (A : Around) (i : Nat) (s : Shared) (Q : Value → Shared → Prop) (E : Value → Shared → Prop), tn i s.heap → Q (.ref it) s → wpAny (model P w) A (pyIter (.ref it)) Q E s
abbrev TI := St → Hp → (It → Hp → Prop) → Prop
/-- an iterator has come -/
def PIE (X : Cx) (pins : List (Addr × Obj)) (σ : St) (tg : Expr) (R : It → Hp → Prop) (itv : Value) (s2 : Shared) : Prop :=
  ∃ (it : Addr) (fp : List Addr) (tn : Nat → Heap → Prop) (J : It) (H' : Hp), itv = .ref it ∧ Inv X pins σ H' s2 ∧ Turn X.prog X.w X.K tg J fp it tn ∧ tn 0 s2.heap ∧ (∀ b ∈ fp, FpOk X pins H' b) ∧ R J H'
def PI (X : Cx) (tg iter : Expr) (wi : TI) : Prop :=
  ∀ (pins : List (Addr × Obj)) (s : Shared) (σ : St) (H : Hp) (R : It → Hp → Prop), Inv X pins σ H s → wi σ H R →
    wpAny (model X.prog X.w) X.A (eval iter X.env) (fun v s1 => wpAny (model X.prog X.w) X.A (pyIter v) (PIE X pins σ tg R) X.xe s1) X.xe s

/-- the step ahead of the store is nothing for an iterator that keeps no tuple -/
theorem go_of {M : Model} {A : Around} {E : Value → Shared → Prop} {s : Shared} {tg : Expr} {it : Addr} {u : Value} {o : Obj} {n : String} {vs : Array Value} {Q : Unit → Shared → Prop} (ho : s.heap.get? it = some o) (hc : o.cls = .type n) (hd : o.data = .fields vs)
    (hn : ["enumerate", "zip", "dict_itemiterator", "dict_reverseitemiterator", "odict_iterator", "itertools.zip_longest", "itertools.pairwise"].contains n = false) (hQ : Q () s) : wpAny M A (letOwnedTupleGo tg (.ref it) u) Q E s := by
  unfold letOwnedTupleGo
  cases tg <;> first
    | exact wpAny_pure hQ
    | (cases u <;> first
        | exact wpAny_pure hQ
        | (refine wpAny_bind (wpAny_load ho ?_)
           rw [hc, hd]
           show wpAny M A (if (["enumerate", "zip", "dict_itemiterator", "dict_reverseitemiterator", "odict_iterator", "itertools.zip_longest", "itertools.pairwise"].contains n && vs[0]? == some (rawInt _)) = true then _ else _) Q E s
           rw [if_neg (by intro h; rw [hn, Bool.false_and] at h; cases h)]
           exact wpAny_pure hQ))

/-- the list at a, as it stands at each turn (a loop may append to it) -/
def Itl (K : PySem.W.Frag) (a : Addr) : It :=
  ⟨fun i H => ∃ xs x, SqL K H a xs ∧ xs[i]? = some x, fun i H x H' => H' = H ∧ ∀ xs, SqL K H a xs → xs[i]? = some x, fun i H => ∃ xs, SqL K H a xs ∧ xs.length ≤ i⟩
def Itt (K : PySem.W.Frag) (a : Addr) : It :=
  ⟨fun i H => ∃ xs x, SqT K H a xs ∧ xs[i]? = some x, fun i H x H' => H' = H ∧ ∀ xs, SqT K H a xs → xs[i]? = some x, fun i H => ∃ xs, SqT K H a xs ∧ xs.length ≤ i⟩
/-- lo, lo + 1, .. (n of them) -/
def Itr (lo : Int) (n : Nat) : It := ⟨fun i _ => i < n, fun i H x H' => H' = H ∧ x = .int (lo + i), fun i _ => n ≤ i⟩
theorem turn_list {P : Program} {w : World} {K : PySem.W.Frag} {tg : Expr} (a it : Addr) : Turn P w K tg (Itl K a) [it] it (fun i h => h.IsListIter it a i) where
  mem := by simp
  obj := fun i h st b hb => by
    have e : b = it := by simpa using hb
    subst e
    obtain ⟨o, e, c, d⟩ := st
    exact ⟨o, e, fun v z => by rw [d] at z; cases z⟩
  keep := fun i h h' st k => st.at fun o e => k it (by simp) o e
  item := by
    intro X hP hw hK hc i pins s σ H E I hf st hg
    subst hP hw hK
    obtain ⟨xs, x, hq, hx⟩ := hg
    obtain ⟨its, rv, p, hz⟩ := I.list hq
    obtain ⟨u, hu, ru⟩ := rv.get hx
    obtain ⟨f0, f1, f2, f3, f4, f5⟩ := hf it (by simp)
    refine wpAny_pyNext_list_item st p.isList (x := u) (by simpa using hu) fun h' st' sb => ?_
    have I1 : Inv X pins σ H { s with heap := h' } := I.turned (t' := s.toks) (fun b o hb e => (sb.2 b hb).trans e) f0 f1 f3 f4 f5
    obtain ⟨o, e, c, d⟩ := id st'
    exact ⟨u, rfl, go_of (s := { s with heap := h' }) e c d (by decide) ⟨x, H, I1, ru, ⟨rfl, fun ys hy => by rw [I.list_inj hy hq]; exact hx⟩, st', fun b hb => (hf b hb).1⟩⟩
  done := by
    intro X hP hw hK hc i pins s σ H E I hf st hg
    subst hP hw hK
    obtain ⟨xs, hq, hx⟩ := hg
    obtain ⟨its, rv, p, hz⟩ := I.list hq
    obtain ⟨f0, f1, f2, f3, f4, f5⟩ := hf it (by simp)
    have hl := rv.length
    exact wpAny_pyNext_list_end (I.ok.hd hc) st p.isList (by simp; omega) fun h' eb => ⟨rfl, I.turned (t' := s.toks) (fun b o hb e => eb b o hb e) f0 f1 f3 f4 f5⟩
  self := fun _ _ _ _ _ st h => wpAny_pyIter_listiter st h
theorem turn_tuple {P : Program} {w : World} {K : PySem.W.Frag} {tg : Expr} (a it : Addr) : Turn P w K tg (Itt K a) [it] it (fun i h => h.IsTupleIter it a i) where
  mem := by simp
  obj := fun i h st b hb => by
    have e : b = it := by simpa using hb
    subst e
    obtain ⟨o, e, c, d⟩ := st
    exact ⟨o, e, fun v z => by rw [d] at z; cases z⟩
  keep := fun i h h' st k => st.at fun o e => k it (by simp) o e
  item := by
    intro X hP hw hK hc i pins s σ H E I hf st hg
    subst hP hw hK
    obtain ⟨xs, x, hq, hx⟩ := hg
    obtain ⟨its, rv, p, hz⟩ := I.tuple hq
    obtain ⟨u, hu, ru⟩ := rv.get hx
    obtain ⟨f0, f1, f2, f3, f4, f5⟩ := hf it (by simp)
    refine wpAny_pyNext_tuple_item st (show s.heap.IsTuple a its.toArray from p) (x := u) (by simpa using hu) fun h' st' sb => ?_
    have I1 : Inv X pins σ H { s with heap := h' } := I.turned (t' := s.toks) (fun b o hb e => (sb.2 b hb).trans e) f0 f1 f3 f4 f5
    obtain ⟨o, e, c, d⟩ := id st'
    exact ⟨u, rfl, go_of (s := { s with heap := h' }) e c d (by decide) ⟨x, H, I1, ru, ⟨rfl, fun ys hy => by rw [I.tuple_inj hy hq]; exact hx⟩, st', fun b hb => (hf b hb).1⟩⟩
  done := by
    intro X hP hw hK hc i pins s σ H E I hf st hg
    subst hP hw hK
    obtain ⟨xs, hq, hx⟩ := hg
    obtain ⟨its, rv, p, hz⟩ := I.tuple hq
    obtain ⟨f0, f1, f2, f3, f4, f5⟩ := hf it (by simp)
    have hl := rv.length
    exact wpAny_pyNext_tuple_end (I.ok.hd hc) st (show s.heap.IsTuple a its.toArray from p) (by simp; omega) fun h' eb => ⟨rfl, I.turned (t' := s.toks) (fun b o hb e => eb b o hb e) f0 f1 f3 f4 f5⟩
  self := fun _ _ _ _ _ st h => wpAny_pyIter_tupleiter st h
theorem turn_range {P : Program} {w : World} {K : PySem.W.Frag} {tg : Expr} (it : Addr) (lo : Int) (n : Nat) : Turn P w K tg (Itr lo n) [it] it (fun i h => IsRangeIter h it (lo + (i : Nat) * 1) ((n : Int) - (i : Nat)) 1) where
  mem := by simp
  obj := fun i h st b hb => by
    have e : b = it := by simpa using hb
    subst e
    exact ⟨_, st, fun v z => by
      have z' : Data.fields _ = Data.cell v := z
      cases z'⟩
  keep := fun i h h' st k => k it (by simp) _ st
  item := by
    intro X hP hw hK hc i pins s σ H E I hf st hg
    subst hP hw hK
    obtain ⟨f0, f1, f2, f3, f4, f5⟩ := hf it (by simp)
    have W := Walks.range (prog := X.prog) (w := X.w) (I.ok.hd hc) it lo 1 n
    refine W.item i s _ _ hg st fun v h' tk hv st' kk => ?_
    obtain ⟨t, rfl⟩ := hv
    have I1 : Inv X pins σ H { s with heap := h', toks := tk } := I.turned (fun b o hb e => kk b o (by simpa using hb) e) f0 f1 f3 f4 f5
    refine ⟨_, rfl, go_of (s := { s with heap := h', toks := tk }) (n := "range_iterator") st' rfl rfl (by decide) ⟨.int (lo + i), H, I1, ⟨t, ?_⟩, ⟨rfl, rfl⟩, st', fun b hb => (hf b hb).1⟩⟩
    rw [Int.mul_one]
  done := by
    intro X hP hw hK hc i pins s σ H E I hf st hg
    subst hP hw hK
    obtain ⟨f0, f1, f2, f3, f4, f5⟩ := hf it (by simp)
    exact wpAny_pyNext_range_end (I.ok.hd hc) st (by have : n ≤ i := hg; omega) fun h' eb => ⟨rfl, I.turned (t' := s.toks) (fun b o hb e => eb b o hb e) f0 f1 f3 f4 f5⟩
  self := fun _ _ _ _ _ st h => wpAny_pyIter_rangeiter st h
end L2

namespace L2
open PySem PySem.Spec PyProof.Rows
section
variable {X : Cx} {tg : Expr}
def iList (K : PySem.W.Frag) (tl : TE) : TI := fun σ H R => tl σ H fun x H1 => ∃ a, x = .ref a ∧ (∃ xs, SqL K H1 a xs) ∧ R (Itl K a) H1
def iTup (K : PySem.W.Frag) (tl : TE) : TI := fun σ H R => tl σ H fun x H1 => ∃ a, x = .ref a ∧ (∃ xs, SqT K H1 a xs) ∧ R (Itt K a) H1
theorem pi_list {l : Expr} {tl : TE} (hl : PE X l tl) : PI X tg l (iList X.K tl) := by
  intro pins s σ H R I h
  refine thn (hl pins s σ H _ I h) fun v s1 ⟨x, H1, I1, r1, q1⟩ => ?_
  obtain ⟨a, e, ⟨xs, hq⟩, q⟩ := q1
  subst e
  cases r1
  obtain ⟨its, rv, p, hz⟩ := I1.list hq
  refine wpAny_pyIter_list p.isList ?_
  refine ⟨s1.heap.objs.size, [s1.heap.objs.size], _, _, H1, rfl, I1.kept (t' := s1.toks) fun b o e => Heap.get?_push_of_some _ e, turn_list a _, ⟨_, Heap.get?_push_size _ rfl, rfl, rfl⟩, fun b hb => ?_, q⟩
  have e : b = s1.heap.objs.size := by simpa using hb
  subst e
  exact I1.fpOk (Nat.le_refl _) (I1.hok.fresh (Nat.le_refl _))
theorem pi_tup {l : Expr} {tl : TE} (hl : PE X l tl) : PI X tg l (iTup X.K tl) := by
  intro pins s σ H R I h
  refine thn (hl pins s σ H _ I h) fun v s1 ⟨x, H1, I1, r1, q1⟩ => ?_
  obtain ⟨a, e, ⟨xs, hq⟩, q⟩ := q1
  subst e
  cases r1
  obtain ⟨its, rv, p, hz⟩ := I1.tuple hq
  refine wpAny_pyIter_tuple (show s1.heap.IsTuple a its.toArray from p) ?_
  refine ⟨s1.heap.objs.size, [s1.heap.objs.size], _, _, H1, rfl, I1.kept (t' := s1.toks) fun b o e => Heap.get?_push_of_some _ e, turn_tuple a _, ⟨_, Heap.get?_push_size _ rfl, rfl, rfl⟩, fun b hb => ?_, q⟩
  have e : b = s1.heap.objs.size := by simpa using hb
  subst e
  exact I1.fpOk (Nat.le_refl _) (I1.hok.fresh (Nat.le_refl _))
/-- a range object just made, walked -/
theorem range_it {pins : List (Addr × Obj)} {σ : St} {H : Hp} {s : Shared} {R : It → Hp → Prop} {E : Value → Shared → Prop} {lo hi : Int} {t u v : Tok} {tk : Nat} (I : Inv X pins σ H s) (h1 : -(2 ^ 62) ≤ lo) (h2 : lo < 2 ^ 62) (h3 : -(2 ^ 62) ≤ hi) (h4 : hi < 2 ^ 62)
    (q : R (Itr lo (hi - lo).toNat) H) : wpAny (model X.prog X.w) X.A (pyIter (.ref s.heap.objs.size)) (PIE X pins σ tg R) E { s with heap := s.heap.push { cls := .type "range", data := .fields #[.int lo t, .int hi u, .int 1 v] }, toks := tk } := by
  refine wpAny_pyIter_range (IsRange.new ..) (small_one h1 h2 h3 h4) ?_
  have I1 : Inv X pins σ H { s with heap := s.heap.push { cls := .type "range", data := .fields #[.int lo t, .int hi u, .int 1 v] }, toks := tk } := I.kept fun b o e => Heap.get?_push_of_some _ e
  refine ⟨(s.heap.push { cls := .type "range", data := .fields #[.int lo t, .int hi u, .int 1 v] }).objs.size, [(s.heap.push { cls := .type "range", data := .fields #[.int lo t, .int hi u, .int 1 v] }).objs.size], _, _, H, rfl,
    I1.kept (t' := tk) fun b o e => Heap.get?_push_of_some _ e, turn_range _ lo (hi - lo).toNat, ?_, fun b hb => ?_, q⟩
  · have e1 : lo + ((0 : Nat) : Int) * 1 = lo := by simp
    have e2 : (((hi - lo).toNat : Nat) : Int) - ((0 : Nat) : Int) = Builtin.Range.rangeSize lo hi 1 := by rw [rangeSize_one]; split <;> omega
    show IsRangeIter _ _ (lo + ((0 : Nat) : Int) * 1) ((((hi - lo).toNat : Nat) : Int) - ((0 : Nat) : Int)) 1
    rw [e1, e2]
    exact Heap.get?_push_size _ rfl
  · have e : b = (s.heap.push { cls := .type "range", data := .fields #[.int lo t, .int hi u, .int 1 v] }).objs.size := by simpa using hb
    subst e
    exact I1.fpOk (Nat.le_refl _) (I1.hok.fresh (Nat.le_refl _))
def iRng1 (ta : TA) : TI := fun σ H R => ta σ H fun vs H1 => ∃ j : Int, vs = [.int j] ∧ -(2 ^ 62) ≤ j ∧ j < 2 ^ 62 ∧ R (Itr 0 j.toNat) H1
def iRng2 (ta : TA) : TI := fun σ H R => ta σ H fun vs H1 => ∃ i j : Int, vs = [.int i, .int j] ∧ (-(2 ^ 62) ≤ i ∧ i < 2 ^ 62 ∧ -(2 ^ 62) ≤ j ∧ j < 2 ^ 62) ∧ R (Itr i (j - i).toNat) H1
theorem pi_range1 {a : Expr} {ta : TA} {p pos : Pos} (hg : Gl X "range") (hm : X.mg "range" = none) (ha : PA X [a] ta) (hs : starEach [a] X.env = [(false, eval a X.env)] := by rfl) : PI X tg (.Call (.Name "range" p) [a] [] pos) (iRng1 ta) := by
  intro pins s σ H R I h
  refine Call_ (ld_blt I hg hm boot_range (PyProof.Rows.callWith_type1 (thn (ha pos pins s σ H _ I h) fun us s1 ⟨vs, H1, I1, r1, q1⟩ => ?_) hs rfl))
  obtain ⟨j, e, q1, q2, q⟩ := q1
  subst e
  cases r1 with
  | cons r rr =>
    cases rr
    obtain ⟨t, rfl⟩ := r
    exact call_range_1 (range_it I1 (by omega) (by omega) q1 q2 (by simpa using q))
theorem pi_range2 {a b : Expr} {ta : TA} {p pos : Pos} (hg : Gl X "range") (hm : X.mg "range" = none) (ha : PA X [a, b] ta) (hs : starEach [a, b] X.env = [(false, eval a X.env), (false, eval b X.env)] := by rfl) (hs2 : starEach [b] X.env = [(false, eval b X.env)] := by rfl) :
    PI X tg (.Call (.Name "range" p) [a, b] [] pos) (iRng2 ta) := by
  intro pins s σ H R I h
  refine Call_ (ld_blt I hg hm boot_range (PyProof.Rows.callWith_type1 (thn (ha pos pins s σ H _ I h) fun us s1 ⟨vs, H1, I1, r1, q1⟩ => ?_) (by rw [hs, hs2]) (by rw [hs2]; rfl)))
  obtain ⟨i, j, e, ⟨q1, q2, q3, q4⟩, q⟩ := q1
  subst e
  cases r1 with
  | cons r rr =>
    cases rr with
    | cons r' rr =>
      cases rr
      obtain ⟨t, rfl⟩ := r
      obtain ⟨t', rfl⟩ := r'
      exact call_range_2 (range_it I1 q1 q2 q3 q4 q)

/-! ### for -/
/-- W: the invariant by the turn and a measure; N: what the body is to reach -/
def tFor (wi : TI) (g : TG) (tb : TS) : TS := fun D σ H => wi σ H fun J H1 => ∃ W : Nat → Nat → St → Hp → Prop, (∃ m, W 0 m σ H1) ∧ ∀ i m σ H, W i m σ H →
  (J.stop i H ∧ D.nx σ H) ∨ (J.go i H ∧ ∃ N : St → Hp → Prop, (∀ σ' H', N σ' H' → ∃ m', m' < m ∧ W (i + 1) m' σ' H') ∧ ∀ x H', J.yld i H x H' → g x σ H' fun σ2 H2 => tb { D with nx := N, ct := N, bk := D.nx } σ2 H2)
/-- the records at fp as they stand -/
def pinsAt (fp : List Addr) (h : Heap) : List (Addr × Obj) := fp.filterMap fun b => (h.get? b).map fun o => (b, o)
theorem mem_pinsAt {fp : List Addr} {h : Heap} {b : Addr} {o : Obj} (hb : b ∈ fp) (e : h.get? b = some o) : (b, o) ∈ pinsAt fp h := List.mem_filterMap.mpr ⟨b, hb, by rw [e]; rfl⟩
theorem of_pinsAt {fp : List Addr} {h : Heap} {p : Addr × Obj} (hp : p ∈ pinsAt fp h) : p.1 ∈ fp ∧ h.get? p.1 = some p.2 := by
  obtain ⟨b, hb, e⟩ := List.mem_filterMap.mp hp
  cases q : h.get? b with
  | none => rw [q] at e; cases e
  | some o =>
    rw [q] at e
    have e' : (b, o) = p := Option.some.inj e
    subst e'
    exact ⟨hb, q⟩
theorem Inv.pinned {pins : List (Addr × Obj)} {σ : St} {H : Hp} {s : Shared} {fp : List Addr} (I : Inv X pins σ H s) (hf : ∀ b ∈ fp, FpOk X pins H b) (ho : ∀ b ∈ fp, ∃ o, s.heap.get? b = some o ∧ ∀ v, o.data ≠ .cell v) : Inv X (pins ++ pinsAt fp s.heap) σ H s :=
  I.pins_of fun p hp => (List.mem_append.mp hp).elim (fun z => I.pin p (List.mem_append_right _ z)) fun z => by
    obtain ⟨hb, e⟩ := of_pinsAt z
    obtain ⟨f0, f1, f2, _⟩ := hf p.1 hb
    obtain ⟨o, e', d⟩ := ho p.1 hb
    rw [e] at e'; cases e'
    exact ⟨e, f0, f1, f2, d⟩
theorem Inv.unpinned {pins pl : List (Addr × Obj)} {σ : St} {H : Hp} {s : Shared} (I : Inv X (pins ++ pl) σ H s) : Inv X pins σ H s := I.pins_of fun p hp => I.pin p (List.mem_append_right _ (List.mem_append_left _ hp))
theorem ps_for {iter : Expr} {body : List Stmt} {wi : TI} {g : TG} {tb : TS} {pos : Pos} (hp : PassesOwn (model X.prog X.w) X.A X.env X.xe) (hc : X.calm = true) (hi : PI X tg iter wi) (hg : PG X tg g) (hb : PSs X body tb)
    (hs : ∀ x, foldedSetIterable iter X.env x = pure x := by intro _; rfl) : PS X (.For tg iter body [] pos) (tFor wi g tb) := by
  intro pins s σ H D I h
  refine wpAny_For (thn (hi pins s σ H _ I h) fun v s1 h1 => thn h1 fun itv s2 h2 => ?_) hs
  obtain ⟨it, fp, tn, J, H2, e, I2, T, st2, f2, W, ⟨m0, w0⟩, turn⟩ := h2
  subst e
  -- what stays true of the iterator's objects through the loop
  have stat : ∀ {H' : Hp}, (∀ b ∈ fp, H' b = none) → ∀ b ∈ fp, FpOk X pins H' b := fun hn b hb => ⟨hn b hb, (f2 b hb).2⟩
  refine codeAny_forLoop_any (fun n s' => ∃ i σ' H', Inv X pins σ' H' s' ∧ tn i s'.heap ∧ (∀ b ∈ fp, H' b = none) ∧ W i n σ' H') ?_ m0 ⟨0, σ, H2, I2, st2, fun b hb => (f2 b hb).1, w0⟩
  rintro n s3 ⟨i, σ3, H3, I3, st3, fr3, w3⟩
  rcases turn i n σ3 H3 w3 with ⟨stop, qn⟩ | ⟨go, N, hN, step⟩
  · refine wpAny_passesOwn hp (thn (T.done X rfl rfl rfl hc i pins s3 σ3 H3 X.xe I3 (stat fr3) st3 stop) fun r s4 ⟨hr, I4⟩ => ?_)
    subst hr
    exact wpAny_execs_nil ⟨σ3, H3, I4, qn⟩
  · refine wpAny_passesOwn hp (thn (T.item X rfl rfl rfl hc i pins s3 σ3 H3 X.xe I3 (stat fr3) st3 go) fun r s4 ⟨u, hr, h4⟩ => ?_)
    subst hr
    refine wpAny_passesOwn hp (thn h4 fun _ s5 ⟨x, H5, I5, r5, y5, st5, fr5⟩ => ?_)
    have I5' := I5.pinned (stat fr5) (T.obj _ _ st5)
    refine wpAny_passesOwn hp (thn (hg _ s5 σ3 H5 x u _ I5' r5 (step x H5 y5)) fun _ s6 ⟨σ6, H6, I6, q6⟩ => ?_)
    refine wpAny_passesOwn hp (thn (hb _ s6 σ6 H6 _ I6 q6) fun f s7 q7 => ?_)
    have again : ∀ {σ7 : St} {H7 : Hp}, Inv X (pins ++ pinsAt fp s5.heap) σ7 H7 s7 → N σ7 H7 → ∃ m, m < n ∧ ∃ i σ' H', Inv X pins σ' H' s7 ∧ tn i s7.heap ∧ (∀ b ∈ fp, H' b = none) ∧ W i m σ' H' := fun {σ7 H7} I7 n7 => by
      obtain ⟨m', hm, w7⟩ := hN σ7 H7 n7
      refine ⟨m', hm, i + 1, σ7, H7, I7.unpinned, T.keep _ _ _ st5 fun b hb o e => (I7.pin (b, o) (List.mem_append_right _ (List.mem_append_right _ (mem_pinsAt hb e)))).1, fun b hb => ?_, w7⟩
      obtain ⟨o, e, d⟩ := T.obj _ _ st5 b hb
      exact (I7.pin (b, o) (List.mem_append_right _ (List.mem_append_right _ (mem_pinsAt hb e)))).2.1
    cases f with
    | next => obtain ⟨σ7, H7, I7, n7⟩ := q7; exact again I7 n7
    | cont => obtain ⟨σ7, H7, I7, n7⟩ := q7; exact again I7 n7
    | brk => obtain ⟨σ7, H7, I7, q7⟩ := q7; exact ⟨σ7, H7, I7.unpinned, q7⟩
    | ret v => obtain ⟨x7, σ7, H7, I7, r7, q7⟩ := q7; exact ⟨x7, σ7, H7, I7.unpinned, r7, q7⟩
end

/-! ### the forms one uses -/
/-- over a list that the body leaves as it is -/
theorem for_list {K : PySem.W.Frag} {a : Addr} {xs : List V} {g : TG} {tb : TS} {D : Ends} {σ : St} {H : Hp} (Pv : Nat → St → Hp → Prop) (h0 : Pv 0 σ H) (hl : ∀ i σ H, i ≤ xs.length → Pv i σ H → SqL K H a xs)
    (hs : ∀ i x σ H, xs[i]? = some x → Pv i σ H → g x σ H fun σ2 H2 => tb { D with nx := Pv (i + 1), ct := Pv (i + 1), bk := D.nx } σ2 H2) (hd : ∀ σ H, Pv xs.length σ H → D.nx σ H) :
    ∃ W : Nat → Nat → St → Hp → Prop, (∃ m, W 0 m σ H) ∧ ∀ i m σ H, W i m σ H →
      ((Itl K a).stop i H ∧ D.nx σ H) ∨ ((Itl K a).go i H ∧ ∃ N : St → Hp → Prop, (∀ σ' H', N σ' H' → ∃ m', m' < m ∧ W (i + 1) m' σ' H') ∧ ∀ x H', (Itl K a).yld i H x H' → g x σ H' fun σ2 H2 => tb { D with nx := N, ct := N, bk := D.nx } σ2 H2) := by
  refine ⟨fun i m σ H => m = xs.length - i ∧ i ≤ xs.length ∧ Pv i σ H, ⟨xs.length, by simp, Nat.zero_le _, h0⟩, ?_⟩
  rintro i m σ H ⟨rfl, hi, p⟩
  have q := hl i σ H hi p
  by_cases hlt : i < xs.length
  · refine .inr ⟨⟨xs, xs[i], q, by simp [hlt]⟩, Pv (i + 1), fun σ' H' p' => ⟨xs.length - (i + 1), by omega, rfl, hlt, p'⟩, fun x H' y => ?_⟩
    obtain ⟨e, y⟩ := y
    subst e
    exact hs i x σ _ (y xs q) p
  · have e : i = xs.length := by omega
    subst e
    exact .inl ⟨⟨xs, q, Nat.le_refl _⟩, hd σ H p⟩
theorem for_tup {K : PySem.W.Frag} {a : Addr} {xs : List V} {g : TG} {tb : TS} {D : Ends} {σ : St} {H : Hp} (Pv : Nat → St → Hp → Prop) (h0 : Pv 0 σ H) (hl : ∀ i σ H, i ≤ xs.length → Pv i σ H → SqT K H a xs)
    (hs : ∀ i x σ H, xs[i]? = some x → Pv i σ H → g x σ H fun σ2 H2 => tb { D with nx := Pv (i + 1), ct := Pv (i + 1), bk := D.nx } σ2 H2) (hd : ∀ σ H, Pv xs.length σ H → D.nx σ H) :
    ∃ W : Nat → Nat → St → Hp → Prop, (∃ m, W 0 m σ H) ∧ ∀ i m σ H, W i m σ H →
      ((Itt K a).stop i H ∧ D.nx σ H) ∨ ((Itt K a).go i H ∧ ∃ N : St → Hp → Prop, (∀ σ' H', N σ' H' → ∃ m', m' < m ∧ W (i + 1) m' σ' H') ∧ ∀ x H', (Itt K a).yld i H x H' → g x σ H' fun σ2 H2 => tb { D with nx := N, ct := N, bk := D.nx } σ2 H2) := by
  refine ⟨fun i m σ H => m = xs.length - i ∧ i ≤ xs.length ∧ Pv i σ H, ⟨xs.length, by simp, Nat.zero_le _, h0⟩, ?_⟩
  rintro i m σ H ⟨rfl, hi, p⟩
  have q := hl i σ H hi p
  by_cases hlt : i < xs.length
  · refine .inr ⟨⟨xs, xs[i], q, by simp [hlt]⟩, Pv (i + 1), fun σ' H' p' => ⟨xs.length - (i + 1), by omega, rfl, hlt, p'⟩, fun x H' y => ?_⟩
    obtain ⟨e, y⟩ := y
    subst e
    exact hs i x σ _ (y xs q) p
  · have e : i = xs.length := by omega
    subst e
    exact .inl ⟨⟨xs, q, Nat.le_refl _⟩, hd σ H p⟩
theorem for_range {lo : Int} {n : Nat} {g : TG} {tb : TS} {D : Ends} {σ : St} {H : Hp} (Pv : Nat → St → Hp → Prop) (h0 : Pv 0 σ H)
    (hs : ∀ i σ H, i < n → Pv i σ H → g (.int (lo + i)) σ H fun σ2 H2 => tb { D with nx := Pv (i + 1), ct := Pv (i + 1), bk := D.nx } σ2 H2) (hd : ∀ σ H, Pv n σ H → D.nx σ H) :
    ∃ W : Nat → Nat → St → Hp → Prop, (∃ m, W 0 m σ H) ∧ ∀ i m σ H, W i m σ H →
      ((Itr lo n).stop i H ∧ D.nx σ H) ∨ ((Itr lo n).go i H ∧ ∃ N : St → Hp → Prop, (∀ σ' H', N σ' H' → ∃ m', m' < m ∧ W (i + 1) m' σ' H') ∧ ∀ x H', (Itr lo n).yld i H x H' → g x σ H' fun σ2 H2 => tb { D with nx := N, ct := N, bk := D.nx } σ2 H2) := by
  refine ⟨fun i m σ H => m = n - i ∧ i ≤ n ∧ Pv i σ H, ⟨n, by simp, Nat.zero_le _, h0⟩, ?_⟩
  rintro i m σ H ⟨rfl, hi, p⟩
  by_cases hlt : i < n
  · refine .inr ⟨hlt, Pv (i + 1), fun σ' H' p' => ⟨n - (i + 1), by omega, rfl, hlt, p'⟩, fun x H' y => ?_⟩
    obtain ⟨e, y⟩ := y
    subst e y
    exact hs i σ _ hlt p
  · have e : i = n := by omega
    subst e
    exact .inl ⟨Nat.le_refl _, hd σ H p⟩
/-- while, by a word and a measure of the state -/
theorem while_by {c : TT} {tb : TS} {D : Ends} {σ : St} {H : Hp} (Pv : St → Hp → Prop) (μ : St → Hp → Nat) (h0 : Pv σ H)
    (hs : ∀ σ H, Pv σ H → c σ H fun b H1 => if b = true then tb { D with nx := fun σ' H' => Pv σ' H' ∧ μ σ' H' < μ σ H, ct := fun σ' H' => Pv σ' H' ∧ μ σ' H' < μ σ H, bk := D.nx } σ H1 else D.nx σ H1)
    (mono : ∀ σ H Q Q', (∀ b H1, Q b H1 → Q' b H1) → c σ H Q → c σ H Q') : tWhile c tb D σ H := by
  refine ⟨fun m σ H => m = μ σ H ∧ Pv σ H, ⟨_, rfl, h0⟩, ?_⟩
  rintro m σ H ⟨rfl, p⟩
  refine mono σ H _ _ (fun b H1 q => ?_) (hs σ H p)
  cases b with
  | true => exact ⟨_, fun σ' H' ⟨p', l⟩ => ⟨_, l, rfl, p'⟩, q⟩
  | false => exact q
end L2

namespace L2
open PySem PySem.Spec PyProof.Rows

abbrev R2 := V → V → Hp → VK → Prop
/-- a two-place operation on values: f is binaryOp op, inplaceOp op or compareOp op -/
def OpR (X : Cx) (f : Value → Value → Sem Value) (r : R2) : Prop :=
  ∀ (pins : List (Addr × Obj)) (s : Shared) (σ : St) (H : Hp) (x y : V) (v u : Value) (Q : VK), Inv X pins σ H s → RelV x v → RelV y u → r x y H Q →
    wpAny (model X.prog X.w) X.A (f v u) (EP X pins σ Q) X.xe s
/-- a one-place operation -/
def UnR (X : Cx) (f : Value → Sem Value) (r : V → Hp → VK → Prop) : Prop :=
  ∀ (pins : List (Addr × Obj)) (s : Shared) (σ : St) (H : Hp) (x : V) (v : Value) (Q : VK), Inv X pins σ H s → RelV x v → r x H Q →
    wpAny (model X.prog X.w) X.A (f v) (EP X pins σ Q) X.xe s
/-- a call of a value that is known (a builtin, a type) with values -/
def CallR (X : Cx) (f : Value) (r : List V → Hp → VK → Prop) : Prop :=
  ∀ (pins : List (Addr × Obj)) (s : Shared) (σ : St) (H : Hp) (xs : List V) (us : List Value) (Q : VK), Inv X pins σ H s → Vals xs us → r xs H Q →
    wpAny (model X.prog X.w) X.A (call f us) (EP X pins σ Q) X.xe s
/-- a value's truth -/
def TruR (X : Cx) (r : V → Hp → (Bool → Hp → Prop) → Prop) : Prop :=
  ∀ (pins : List (Addr × Obj)) (s : Shared) (σ : St) (H : Hp) (x : V) (v : Value) (Q : Bool → Hp → Prop), Inv X pins σ H s → RelV x v → r x H Q →
    wpAny (model X.prog X.w) X.A (truthy v) (TP X pins σ Q) X.xe s

def tOp (r : R2) (ta tb : TE) : TE := fun σ H Q => ta σ H fun x H1 => tb σ H1 fun y H2 => r x y H2 Q
def tUn (r : V → Hp → VK → Prop) (ta : TE) : TE := fun σ H Q => ta σ H fun x H1 => r x H1 Q
/-- ints in, under C, and a value out -/
def rI (C : Int → Int → Prop) (g : Int → Int → V) : R2 := fun x y H Q => ∃ i j, x = .int i ∧ y = .int j ∧ C i j ∧ Q (g i j) H
def rI0 (g : Int → Int → V) : R2 := fun x y H Q => ∃ i j, x = .int i ∧ y = .int j ∧ Q (g i j) H
def rU (g : Int → V) : V → Hp → VK → Prop := fun x H Q => ∃ i, x = .int i ∧ Q (g i) H

section
variable {X : Cx} {a b c : Expr} {ta tb tc : TE} {pos : Pos}

theorem binT (ha : PE X a ta) (hb : PE X b tb) {pins : List (Addr × Obj)} {s : Shared} {σ : St} {H : Hp} {R : V → V → Hp → Prop} (I : Inv X pins σ H s)
    (h : ta σ H fun x H1 => tb σ H1 fun y H2 => R x y H2) {Q : Value → Shared → Prop} {f : Value → Value → Sem Value}
    (hf : ∀ v u s2 x y H2, Inv X pins σ H2 s2 → RelV x v → RelV y u → R x y H2 → wpAny (model X.prog X.w) X.A (f v u) Q X.xe s2) :
    wpAny (model X.prog X.w) X.A (eval a X.env) (fun v s₁ => wpAny (model X.prog X.w) X.A (eval b X.env) (fun u s₂ => wpAny (model X.prog X.w) X.A (f v u) Q X.xe s₂) X.xe s₁) X.xe s := by
  refine thn (ha pins s σ H _ I h) fun v s1 ⟨x, H1, I1, r1, q1⟩ => ?_
  refine thn (hb pins s1 σ H1 _ I1 q1) fun u s2 ⟨y, H2, I2, r2, q2⟩ => ?_
  exact hf v u s2 x y H2 I2 r1 r2 q2

theorem pe_op {op : Operator} {r : R2} (ho : OpR X (binaryOp op) r) (ha : PE X a ta) (hb : PE X b tb) : PE X (.BinOp a op b pos) (tOp r ta tb) := by
  intro pins s σ H Q I h
  exact wpAny_BinOp (binT ha hb I h fun v u s2 x y H2 I2 rx ry q => ho pins s2 σ H2 x y v u Q I2 rx ry q)
theorem pe_un {op : UnaryOp} {r : V → Hp → VK → Prop} (ho : UnR X (unaryOp op) r) (ha : PE X a ta) : PE X (.UnaryOp op a pos) (tUn r ta) := by
  intro pins s σ H Q I h
  exact UnaryOp_ (thn (ha pins s σ H _ I h) fun v s1 ⟨x, H1, I1, r1, q1⟩ => ho pins s1 σ H1 x v Q I1 r1 q1)
/-- a op= e at a name: the name's slot i -/
theorem augR {op : Operator} {r : R2} (ho : OpR X (inplaceOp op) r) {pins : List (Addr × Obj)} {s : Shared} {σ : St} {H : Hp} {x y : V} {v u : Value} {Q : VK} (I : Inv X pins σ H s)
    (rx : RelV x v) (ry : RelV y u) (q : r x y H Q) : wpAny (model X.prog X.w) X.A (inplaceOp op v u) (EP X pins σ Q) X.xe s := ho pins s σ H x y v u Q I rx ry q

/-! ### ints -/
theorem opI {f : Value → Value → Sem Value} {C : Int → Int → Prop} {g : Int → Int → Int}
    (rule : ∀ (i j : Int) (t u : Tok) (s : Shared) (Q : Value → Shared → Prop) (E : Value → Shared → Prop), C i j → Q (.int (g i j) s.toks) { s with toks := s.toks + 1 } → wpAny (model X.prog X.w) X.A (f (.int i t) (.int j u)) Q E s) :
    OpR X f (rI C fun i j => .int (g i j)) := by
  intro pins s σ H x y v u Q I rx ry h
  obtain ⟨i, j, rfl, rfl, hc, q⟩ := h
  obtain ⟨t, rfl⟩ := rx
  obtain ⟨t', rfl⟩ := ry
  exact rule i j t t' s _ _ hc ⟨.int (g i j), H, I.tok _, ⟨_, rfl⟩, q⟩
theorem opI0 {f : Value → Value → Sem Value} {g : Int → Int → Int}
    (rule : ∀ (i j : Int) (t u : Tok) (s : Shared) (Q : Value → Shared → Prop) (E : Value → Shared → Prop), Q (.int (g i j) s.toks) { s with toks := s.toks + 1 } → wpAny (model X.prog X.w) X.A (f (.int i t) (.int j u)) Q E s) :
    OpR X f (rI0 fun i j => .int (g i j)) := by
  intro pins s σ H x y v u Q I rx ry h
  obtain ⟨i, j, rfl, rfl, q⟩ := h
  obtain ⟨t, rfl⟩ := rx
  obtain ⟨t', rfl⟩ := ry
  exact rule i j t t' s _ _ ⟨.int (g i j), H, I.tok _, ⟨_, rfl⟩, q⟩
theorem opB0 {f : Value → Value → Sem Value} {g : Int → Int → Bool}
    (rule : ∀ (i j : Int) (t u : Tok) (s : Shared) (Q : Value → Shared → Prop) (E : Value → Shared → Prop), Q (.bool (g i j)) s → wpAny (model X.prog X.w) X.A (f (.int i t) (.int j u)) Q E s) :
    OpR X f (rI0 fun i j => .bl (g i j)) := by
  intro pins s σ H x y v u Q I rx ry h
  obtain ⟨i, j, rfl, rfl, q⟩ := h
  obtain ⟨t, rfl⟩ := rx
  obtain ⟨t', rfl⟩ := ry
  exact rule i j t t' s _ _ ⟨.bl (g i j), H, I, rfl, q⟩

def CDiv (i j : Int) : Prop := 0 < j ∧ j < 1073741824
def CDivN (i j : Int) : Prop := j ≠ 0 ∧ j.natAbs < 1073741824
def CPow (i j : Int) : Prop := 0 ≤ j ∧ j ≤ 1000000 ∧ i.natAbs < 2 ^ 64
def CMul (i j : Int) : Prop := (-(2 ^ 64) < i ∧ i < 2 ^ 64) ∨ (-(2 ^ 64) < j ∧ j < 2 ^ 64)
theorem CMul.ok {i j : Int} (h : CMul i j) : IntMulOk i j := by
  rcases h with ⟨h1, h2⟩ | ⟨h1, h2⟩
  · exact .of_left (intBits_le_64 h1 h2)
  · exact .of_right (intBits_le_64 h1 h2)
theorem two_pow_nn (k : Nat) : (0 : Int) ≤ 2 ^ k := by
  rw [two_pow_cast]
  exact Int.natCast_nonneg _

theorem op_add : OpR X (binaryOp .Add) (rI0 fun i j => .int (i + j)) := opI0 fun _ _ _ _ _ _ _ q => add_int q
theorem op_sub : OpR X (binaryOp .Sub) (rI0 fun i j => .int (i - j)) := opI0 fun _ _ _ _ _ _ _ q => sub_int q
theorem op_mul : OpR X (binaryOp .Mult) (rI CMul fun i j => .int (i * j)) := opI fun _ _ _ _ _ _ _ hc q => mul_int q hc.ok
/-- // by a positive divisor -/
theorem op_fdiv : OpR X (binaryOp .FloorDiv) (rI CDiv fun i j => .int (i / j)) := opI fun i j _ _ _ _ _ hc q => by
  have h1 : (0 : Int) < j := hc.1
  have h2 : j < 1073741824 := hc.2
  exact floordiv_int (by omega) (by rw [Int.fdiv_eq_ediv_of_nonneg i (by omega)]; exact q) (.inl (PyProof.noPylong_small (by omega)))
theorem op_fdivN : OpR X (binaryOp .FloorDiv) (rI CDivN fun i j => .int (i.fdiv j)) := opI fun _ _ _ _ _ _ _ hc q => floordiv_int hc.1 q (.inl (PyProof.noPylong_small hc.2))
/-- % by a positive divisor of any size -/
theorem op_mod : OpR X (binaryOp .Mod) (rI (fun _ j => 0 < j) fun i j => .int (i % j)) := opI fun i j _ _ _ _ _ hc q => by
  have h1 : (0 : Int) < j := hc
  exact mod_int' (by omega) (by rw [Int.fmod_eq_emod_of_nonneg i (by omega)]; exact q)
theorem op_modN : OpR X (binaryOp .Mod) (rI (fun _ j => j ≠ 0) fun i j => .int (i.fmod j)) := opI fun _ _ _ _ _ _ _ hc q => mod_int' hc q
theorem op_pow : OpR X (binaryOp .Pow) (rI CPow fun i j => .int (i ^ j.toNat)) := opI fun _ _ _ _ _ _ _ hc q => pow_int_small hc.1 hc.2.1 hc.2.2 q
theorem op_shl : OpR X (binaryOp .LShift) (rI CPow fun i j => .int (i * 2 ^ j.toNat)) := opI fun _ _ _ _ _ _ _ hc q => lshift_int_small hc.1 hc.2.1 hc.2.2 q
theorem op_shr : OpR X (binaryOp .RShift) (rI (fun _ j => 0 ≤ j) fun i j => .int (i / 2 ^ j.toNat)) := opI fun i j _ _ _ _ _ hc q =>
  rshift_int hc (by rw [Int.fdiv_eq_ediv_of_nonneg i (two_pow_nn _)]; exact q)
theorem op_and : OpR X (binaryOp .BitAnd) (rI0 fun i j => .int (Builtin.bitAnd i j)) := opI0 fun _ _ _ _ _ _ _ q => and_int q
theorem op_or : OpR X (binaryOp .BitOr) (rI0 fun i j => .int (Builtin.bitOr i j)) := opI0 fun _ _ _ _ _ _ _ q => or_int q
theorem op_xor : OpR X (binaryOp .BitXor) (rI0 fun i j => .int (Builtin.bitXor i j)) := opI0 fun _ _ _ _ _ _ _ q => xor_int q

theorem iop_add : OpR X (inplaceOp .Add) (rI0 fun i j => .int (i + j)) := opI0 fun _ _ _ _ _ _ _ q => iadd_int q
theorem iop_sub : OpR X (inplaceOp .Sub) (rI0 fun i j => .int (i - j)) := opI0 fun _ _ _ _ _ _ _ q => isub_int q
theorem iop_mul : OpR X (inplaceOp .Mult) (rI CMul fun i j => .int (i * j)) := opI fun _ _ _ _ _ _ _ hc q => imul_int q hc.ok
theorem iop_fdiv : OpR X (inplaceOp .FloorDiv) (rI CDiv fun i j => .int (i / j)) := opI fun i j _ _ _ _ _ hc q => by
  have h1 : (0 : Int) < j := hc.1
  have h2 : j < 1073741824 := hc.2
  exact ifloordiv_int (by omega) (by rw [Int.fdiv_eq_ediv_of_nonneg i (by omega)]; exact q) (.inl (PyProof.noPylong_small (by omega)))
theorem iop_mod : OpR X (inplaceOp .Mod) (rI (fun _ j => 0 < j) fun i j => .int (i % j)) := opI fun i j _ _ _ _ _ hc q => by
  have h1 : (0 : Int) < j := hc
  exact imod_int (by omega) (by rw [Int.fmod_eq_emod_of_nonneg i (by omega)]; exact q)
theorem iop_shl : OpR X (inplaceOp .LShift) (rI CPow fun i j => .int (i * 2 ^ j.toNat)) := opI fun _ _ _ _ _ _ _ hc q => ilshift_int_small hc.1 hc.2.1 hc.2.2 q
theorem iop_shr : OpR X (inplaceOp .RShift) (rI (fun _ j => 0 ≤ j) fun i j => .int (i / 2 ^ j.toNat)) := opI fun i j _ _ _ _ _ hc q =>
  irshift_int hc (by rw [Int.fdiv_eq_ediv_of_nonneg i (two_pow_nn _)]; exact q)
theorem iop_and : OpR X (inplaceOp .BitAnd) (rI0 fun i j => .int (Builtin.bitAnd i j)) := opI0 fun _ _ _ _ _ _ _ q => iand_int q
theorem iop_or : OpR X (inplaceOp .BitOr) (rI0 fun i j => .int (Builtin.bitOr i j)) := opI0 fun _ _ _ _ _ _ _ q => ior_int q
theorem iop_xor : OpR X (inplaceOp .BitXor) (rI0 fun i j => .int (Builtin.bitXor i j)) := opI0 fun _ _ _ _ _ _ _ q => ixor_int q

theorem unI {f : Value → Sem Value} {g : Int → Int}
    (rule : ∀ (i : Int) (t : Tok) (s : Shared) (Q : Value → Shared → Prop) (E : Value → Shared → Prop), Q (.int (g i) s.toks) { s with toks := s.toks + 1 } → wpAny (model X.prog X.w) X.A (f (.int i t)) Q E s) :
    UnR X f (rU fun i => .int (g i)) := by
  intro pins s σ H x v Q I rx h
  obtain ⟨i, rfl, q⟩ := h
  obtain ⟨t, rfl⟩ := rx
  exact rule i t s _ _ ⟨.int (g i), H, I.tok _, ⟨_, rfl⟩, q⟩
theorem un_neg : UnR X (unaryOp .USub) (rU fun i => .int (-i)) := unI fun _ _ _ _ _ q => neg_int q
theorem un_inv : UnR X (unaryOp .Invert) (rU fun i => .int (Builtin.bitNot i)) := unI fun _ _ _ _ _ q => invert_int q

/-! ### bools among ints: n += (a < b) -/
theorem op_add_ib : OpR X (binaryOp .Add) (fun x y H Q => ∃ i k, x = .int i ∧ y = .bl k ∧ Q (.int (i + b2i k)) H) := by
  intro pins s σ H x y v u Q I rx ry h
  obtain ⟨i, k, rfl, rfl, q⟩ := h
  obtain ⟨t, rfl⟩ := rx
  cases ry
  exact add_int_bool ⟨.int (i + b2i k), H, I.tok _, ⟨_, rfl⟩, q⟩
end

/-! ### comparisons -/
/-- the scalars that == tells apart as data does -/
def scal : V → V → Bool
  | .non, .non => true | .non, .int _ => true | .int _, .non => true | .non, .bl _ => true | .bl _, .non => true | .non, .str _ => true | .str _, .non => true
  | .int _, .int _ => true | .bl _, .bl _ => true | .str _, .str _ => true | .byt _, .byt _ => true
  | .int _, .str _ => true | .str _, .int _ => true | .bl _, .str _ => true | .str _, .bl _ => true
  | _, _ => false
def rEq : R2 := fun x y H Q => scal x y = true ∧ Q (.bl (decide (x = y))) H
def rNe : R2 := fun x y H Q => scal x y = true ∧ Q (.bl (!decide (x = y))) H

theorem dec_int {i j : Int} : decide (V.int i = V.int j) = (i == j) := by
  rw [Bool.eq_iff_iff]
  simp
theorem dec_bl {i j : Bool} : decide (V.bl i = V.bl j) = (i == j) := by
  rw [Bool.eq_iff_iff]
  simp
theorem dec_str {i j : Str} : decide (V.str i = V.str j) = (i == j) := by
  rw [Bool.eq_iff_iff]
  simp
theorem dec_byt {i j : Array UInt8} : decide (V.byt i = V.byt j) = (i.toList == j.toList) := by
  rw [Bool.eq_iff_iff]
  cases i
  cases j
  simp

section
variable {X : Cx} {a b c : Expr} {ta tb tc : TE} {pos : Pos}
theorem fin_bl {pins : List (Addr × Obj)} {σ : St} {H : Hp} {s : Shared} {Q : VK} {k k' : Bool} (I : Inv X pins σ H s) (q : Q (.bl k) H) (e : k = k') : EP X pins σ Q (.bool k') s := by
  subst e
  exact ⟨.bl k, H, I, rfl, q⟩
theorem op_eq : OpR X (compareOp .Eq) rEq := by
  intro pins s σ H x y v u Q I rx ry h
  obtain ⟨hs, q⟩ := h
  cases x with
  | non =>
    cases rx
    cases y with
    | non => cases ry; exact PySem.EqNone.eq_none_none (fin_bl I q (by simp))
    | bl j => cases ry; exact PySem.EqNone.eq_none_bool (fin_bl I q (by simp))
    | int j => obtain ⟨t', rfl⟩ := ry; exact PySem.EqNone.eq_none_int (fin_bl I q (by simp))
    | str j => obtain ⟨t', rfl⟩ := ry; exact PySem.EqNone.eq_none_str (fin_bl I q (by simp))
    | _ => exact absurd (show false = true from hs) Bool.false_ne_true
  | bl i =>
    cases rx
    cases y with
    | non => cases ry; exact PySem.EqNone.eq_bool_none (fin_bl I q (by simp))
    | bl j => cases ry; exact eq_bool (fin_bl I q dec_bl)
    | str j => obtain ⟨t', rfl⟩ := ry; exact PySem.EqMixed.eq_bool_str (fin_bl I q (by simp))
    | _ => exact absurd (show false = true from hs) Bool.false_ne_true
  | int i =>
    obtain ⟨t, rfl⟩ := rx
    cases y with
    | non => cases ry; exact PySem.EqNone.eq_int_none (fin_bl I q (by simp))
    | int j => obtain ⟨t', rfl⟩ := ry; exact eq_int (fin_bl I q dec_int)
    | str j => obtain ⟨t', rfl⟩ := ry; exact PySem.EqMixed.eq_int_str (fin_bl I q (by simp))
    | _ => exact absurd (show false = true from hs) Bool.false_ne_true
  | str i =>
    obtain ⟨t, rfl⟩ := rx
    cases y with
    | non => cases ry; exact PySem.EqNone.eq_str_none (fin_bl I q (by simp))
    | bl j => cases ry; exact PySem.EqMixed.eq_str_bool (fin_bl I q (by simp))
    | int j => obtain ⟨t', rfl⟩ := ry; exact PySem.EqMixed.eq_str_int (fin_bl I q (by simp))
    | str j => obtain ⟨t', rfl⟩ := ry; exact eq_str (fin_bl I q dec_str)
    | _ => exact absurd (show false = true from hs) Bool.false_ne_true
  | byt i =>
    obtain ⟨t, rfl⟩ := rx
    cases y with
    | byt j => obtain ⟨t', rfl⟩ := ry; exact PySem.W.eq_bytes (fin_bl I q dec_byt)
    | _ => exact absurd (show false = true from hs) Bool.false_ne_true
  | _ => cases y <;> exact absurd (show false = true from hs) Bool.false_ne_true
theorem op_ne : OpR X (compareOp .NotEq) rNe := by
  intro pins s σ H x y v u Q I rx ry h
  obtain ⟨hs, q⟩ := h
  cases x with
  | non =>
    cases rx
    cases y with
    | non => cases ry; exact PySem.EqNone.ne_none_none (fin_bl I q (by simp))
    | bl j => cases ry; exact PySem.EqNone.ne_none_bool (fin_bl I q (by simp))
    | int j => obtain ⟨t', rfl⟩ := ry; exact PySem.EqNone.ne_none_int (fin_bl I q (by simp))
    | str j => obtain ⟨t', rfl⟩ := ry; exact PySem.EqNone.ne_none_str (fin_bl I q (by simp))
    | _ => exact absurd (show false = true from hs) Bool.false_ne_true
  | bl i =>
    cases rx
    cases y with
    | non => cases ry; exact PySem.EqNone.ne_bool_none (fin_bl I q (by simp))
    | bl j => cases ry; exact ne_bool (fin_bl I q (congrArg not dec_bl))
    | str j => obtain ⟨t', rfl⟩ := ry; exact PySem.EqMixed.ne_bool_str (fin_bl I q (by simp))
    | _ => exact absurd (show false = true from hs) Bool.false_ne_true
  | int i =>
    obtain ⟨t, rfl⟩ := rx
    cases y with
    | non => cases ry; exact PySem.EqNone.ne_int_none (fin_bl I q (by simp))
    | int j => obtain ⟨t', rfl⟩ := ry; exact ne_int (fin_bl I q (congrArg not dec_int))
    | str j => obtain ⟨t', rfl⟩ := ry; exact PySem.EqMixed.ne_int_str (fin_bl I q (by simp))
    | _ => exact absurd (show false = true from hs) Bool.false_ne_true
  | str i =>
    obtain ⟨t, rfl⟩ := rx
    cases y with
    | non => cases ry; exact PySem.EqNone.ne_str_none (fin_bl I q (by simp))
    | bl j => cases ry; exact PySem.EqMixed.ne_str_bool (fin_bl I q (by simp))
    | int j => obtain ⟨t', rfl⟩ := ry; exact PySem.EqMixed.ne_str_int (fin_bl I q (by simp))
    | str j => obtain ⟨t', rfl⟩ := ry; exact ne_str (fin_bl I q (congrArg not dec_str))
    | _ => exact absurd (show false = true from hs) Bool.false_ne_true
  | byt i =>
    obtain ⟨t, rfl⟩ := rx
    cases y with
    | byt j => obtain ⟨t', rfl⟩ := ry; exact PySem.W.ne_bytes (fin_bl I q (congrArg not dec_byt))
    | _ => exact absurd (show false = true from hs) Bool.false_ne_true
  | _ => cases y <;> exact absurd (show false = true from hs) Bool.false_ne_true

theorem op_lt : OpR X (compareOp .Lt) (rI0 fun i j => .bl (decide (i < j))) := opB0 fun _ _ _ _ _ _ _ q => lt_int q
theorem op_le : OpR X (compareOp .LtE) (rI0 fun i j => .bl (decide (i ≤ j))) := opB0 fun _ _ _ _ _ _ _ q => le_int q
theorem op_gt : OpR X (compareOp .Gt) (rI0 fun i j => .bl (decide (j < i))) := opB0 fun _ _ _ _ _ _ _ q => gt_int q
theorem op_ge : OpR X (compareOp .GtE) (rI0 fun i j => .bl (decide (j ≤ i))) := opB0 fun _ _ _ _ _ _ _ q => ge_int q
theorem op_lt_str : OpR X (compareOp .Lt) (fun x y H Q => ∃ i j, x = .str i ∧ y = .str j ∧ Q (.bl (decide (i.cps.toList < j.cps.toList))) H) := by
  intro pins s σ H x y v u Q I rx ry h
  obtain ⟨i, j, rfl, rfl, q⟩ := h
  obtain ⟨t, rfl⟩ := rx
  obtain ⟨t', rfl⟩ := ry
  exact lt_str (fin_bl I q rfl)
/-- the one string within the other -/
theorem op_in_str : OpR X (compareOp .In) (fun x y H Q => ∃ i j, x = .str i ∧ y = .str j ∧ Q (.bl (!(Builtin.Str.occurrences j i 0 j.length 1).isEmpty)) H) := by
  intro pins s σ H x y v u Q I rx ry h
  obtain ⟨i, j, rfl, rfl, q⟩ := h
  obtain ⟨t, rfl⟩ := rx
  obtain ⟨t', rfl⟩ := ry
  exact in_str (fin_bl I q rfl)

/-- is None, is not None: the right side a value none -/
theorem op_isN : OpR X (compareOp .Is) (fun x y H Q => y = .non ∧ Q (.bl (decide (x = .non))) H) := by
  intro pins s σ H x y v u Q I rx ry h
  obtain ⟨rfl, q⟩ := h
  cases ry
  refine is_none_gen (fin_bl I q ?_)
  cases x <;> first
    | (cases rx; rfl)
    | (obtain ⟨t, rfl⟩ := rx; rfl)
theorem op_notN : OpR X (compareOp .IsNot) (fun x y H Q => y = .non ∧ Q (.bl (!decide (x = .non))) H) := by
  intro pins s σ H x y v u Q I rx ry h
  obtain ⟨rfl, q⟩ := h
  cases ry
  refine isnot_none_gen (fin_bl I q ?_)
  cases x <;> first
    | (cases rx; rfl)
    | (obtain ⟨t, rfl⟩ := rx; rfl)

theorem op_notin_str : OpR X (compareOp .NotIn) (fun x y H Q => ∃ i j, x = .str i ∧ y = .str j ∧ Q (.bl (!(!(Builtin.Str.occurrences j i 0 j.length 1).isEmpty))) H) := by
  intro pins s σ H x y v u Q I rx ry h
  obtain ⟨i, j, rfl, rfl, q⟩ := h
  obtain ⟨t, rfl⟩ := rx
  obtain ⟨t', rfl⟩ := ry
  exact notIn_str (fin_bl I q rfl)
/-- is, is not of two objects that are tracked lists or instances -/
def isObj : HO → Bool
  | .lst _ => true
  | .ins _ _ _ => true
  | _ => false
theorem obj_there {pins : List (Addr × Obj)} {s : Shared} {σ : St} {H : Hp} {a : Addr} {o : HO} (I : Inv X pins σ H s) (h : H a = some o) (p : isObj o = true) : ∃ ob, s.heap.get? a = some ob ∧ ob.cls ≠ .type "tuple" := by
  cases o with
  | lst xs =>
    obtain ⟨_, its, n, _, e⟩ : xs.length ≤ sizeLine ∧ ∃ (its : List Value) (n : Nat), Vals xs its ∧ s.heap.get? a = some { cls := .type "list", data := .seq its.toArray n } := I.hok a _ h
    exact ⟨_, e, (by show Value.type "list" ≠ .type "tuple"; decide +kernel)⟩
  | ins C dx fs =>
    have x := I.hok a _ h
    obtain ⟨_, _, _, e, _⟩ := x
    exact ⟨_, e, (by show Value.ref C ≠ .type "tuple"; exact fun z => by cases z)⟩
  | _ => exact absurd (show false = true from p) Bool.false_ne_true
theorem op_is_ref : OpR X (compareOp .Is) (fun x y H Q => ∃ a b oa ob, x = .ref a ∧ y = .ref b ∧ H a = some oa ∧ isObj oa = true ∧ H b = some ob ∧ isObj ob = true ∧ Q (.bl (decide (a = b))) H) := by
  intro pins s σ H x y v u Q I rx ry h
  obtain ⟨a, b, oa, ob, rfl, rfl, ha, pa, hb, pb, q⟩ := h
  cases rx
  cases ry
  obtain ⟨o1, e1, n1⟩ := obj_there I ha pa
  obtain ⟨o2, e2, _⟩ := obj_there I hb pb
  by_cases z : a = b
  · subst z
    exact wpAny_is_ref_self (fin_bl I q (by simp))
  · exact wpAny_is_ref_other z e1 e2 n1 (fin_bl I q (by simp [z]))
theorem op_isnot_ref : OpR X (compareOp .IsNot) (fun x y H Q => ∃ a b oa ob, x = .ref a ∧ y = .ref b ∧ H a = some oa ∧ isObj oa = true ∧ H b = some ob ∧ isObj ob = true ∧ Q (.bl (!decide (a = b))) H) := by
  intro pins s σ H x y v u Q I rx ry h
  obtain ⟨a, b, oa, ob, rfl, rfl, ha, pa, hb, pb, q⟩ := h
  cases rx
  cases ry
  obtain ⟨o1, e1, n1⟩ := obj_there I ha pa
  obtain ⟨o2, e2, _⟩ := obj_there I hb pb
  by_cases z : a = b
  · subst z
    exact wpAny_isNot_ref_self (fin_bl I q (by simp))
  · exact wpAny_isNot_ref_other z e1 e2 n1 (fin_bl I q (by simp [z]))

/-- two rules for one operation: by cases -/
theorem OpR.or {f : Value → Value → Sem Value} {r r' : R2} (h : OpR X f r) (h' : OpR X f r') : OpR X f (fun x y H Q => r x y H Q ∨ r' x y H Q) := by
  intro pins s σ H x y v u Q I rx ry q
  rcases q with q | q
  · exact h pins s σ H x y v u Q I rx ry q
  · exact h' pins s σ H x y v u Q I rx ry q

theorem nomark (b : Expr) {op : CmpOp} (h : op ≠ .In := by decide) (h2 : op ≠ .NotIn := by decide) : behindInMarks op b = false := by
  have e1 : (op == CmpOp.In) = false := by cases op <;> first | rfl | exact absurd rfl h
  have e2 : (op == CmpOp.NotIn) = false := by cases op <;> first | rfl | exact absurd rfl h2
  cases b <;> simp [behindInMarks, e1, e2]
/-- a comparison as a value; hm: nomark b, or (for in, not in) by with_unfolding_all rfl -/
theorem pe_cmpR {op : CmpOp} {r : R2} (ho : OpR X (compareOp op) r) (ha : PE X a ta) (hb : PE X b tb) (hm : behindInMarks op b = false) : PE X (.Compare a [op] [b] pos) (tOp r ta tb) := by
  intro pins s σ H Q I h
  exact wpAny_Compare1 (binT ha hb I h fun v u s2 x y H2 I2 rx ry q => ho pins s2 σ H2 x y v u Q I2 rx ry q) hm
/-- a reading of a value as a test -/
def tTest (t : TE) : TT := fun σ H Q => t σ H fun x H' => ∃ k, x = .bl k ∧ Q k H'
theorem pt_cmpR {op : CmpOp} {r : R2} (ho : OpR X (compareOp op) r) (ha : PE X a ta) (hb : PE X b tb) (hm : behindInMarks op b = false) : PT X (.Compare a [op] [b] pos) (tTest (tOp r ta tb)) := by
  intro pins s σ H Q I h
  refine wpAny_isTrue_Compare1 (thn (ha pins s σ H _ I h) fun v s1 ⟨x, H1, I1, r1, q1⟩ => thn (hb pins s1 σ H1 _ I1 q1) fun u s2 ⟨y, H2, I2, r2, q2⟩ =>
    thn (ho pins s2 σ H2 x y v u _ I2 r1 r2 q2) fun c s3 ⟨z, H3, I3, r3, k, e, q3⟩ => ?_) hm
  subst e
  cases r3
  exact wpAny_truthy_bool ⟨H3, I3, q3⟩
/-- a op1 b op2 c -/
def tChain (r r' : R2) (ta tb tc : TE) : TE := fun σ H Q => ta σ H fun x H1 => tb σ H1 fun y H2 => r x y H2 fun z H3 => ∃ k, z = .bl k ∧
  (if k = true then tc σ H3 fun w' H4 => r' y w' H4 Q else Q (.bl false) H3)
theorem pe_chain {op op' : CmpOp} {r r' : R2} (ho : OpR X (compareOp op) r) (ho' : OpR X (compareOp op') r') (ha : PE X a ta) (hb : PE X b tb) (hc : PE X c tc)
    (hm : lastMarks [op, op'] [b, c] = false := by with_unfolding_all rfl) : PE X (.Compare a [op, op'] [b, c] pos) (tChain r r' ta tb tc) := by
  intro pins s σ H Q I h
  refine Compare_chain (thn (ha pins s σ H _ I h) fun v s1 ⟨x, H1, I1, r1, q1⟩ => chain_link (thn (hb pins s1 σ H1 _ I1 q1) fun u s2 ⟨y, H2, I2, r2, q2⟩ =>
    thn (ho pins s2 σ H2 x y v u _ I2 r1 r2 q2) fun d s3 ⟨z, H3, I3, r3, k, e, q3⟩ => ?_)) hm
  subst e
  cases r3
  refine wpAny_truthy_bool ?_
  cases k with
  | false => exact ite_ff ⟨.bl false, H3, I3, rfl, q3⟩
  | true => exact ite_tt (chain_last (thn (hc pins s3 σ H3 _ I3 q3) fun w' s4 ⟨z', H4, I4, r4, q4⟩ => ho' pins s4 σ H4 y z' u w' Q I4 r2 r4 q4))
theorem pt_chain {op op' : CmpOp} {r r' : R2} (ho : OpR X (compareOp op) r) (ho' : OpR X (compareOp op') r') (ha : PE X a ta) (hb : PE X b tb) (hc : PE X c tc)
    (hm : lastMarks [op, op'] [b, c] = false := by with_unfolding_all rfl) : PT X (.Compare a [op, op'] [b, c] pos) (tTest (tChain r r' ta tb tc)) := by
  intro pins s σ H Q I h
  refine isTrue_chain (thn (ha pins s σ H _ I h) fun v s1 ⟨x, H1, I1, r1, q1⟩ => test_link (thn (hb pins s1 σ H1 _ I1 q1) fun u s2 ⟨y, H2, I2, r2, q2⟩ =>
    thn (ho pins s2 σ H2 x y v u _ I2 r1 r2 q2) fun d s3 ⟨z, H3, I3, r3, k, e, q3⟩ => ?_)) hm
  subst e
  cases r3
  refine wpAny_truthy_bool ?_
  cases k with
  | false =>
    obtain ⟨k', e', q'⟩ := q3
    cases e'
    exact ite_ff ⟨H3, I3, q'⟩
  | true =>
    refine ite_tt (test_last (thn (hc pins s3 σ H3 _ I3 q3) fun w' s4 ⟨z', H4, I4, r4, q4⟩ => thn (ho' pins s4 σ H4 y z' u w' _ I4 r2 r4 q4) fun d' s5 ⟨z2, H5, I5, r5, k2, e2, q5⟩ => ?_))
    subst e2
    cases r5
    exact wpAny_truthy_bool ⟨H5, I5, q5⟩

/-! ### truth -/
/-- a value's truth by the abstract heap -/
def TruV (K : PySem.W.Frag) (x : V) (H : Hp) (k : Bool) : Prop :=
  match x with
  | .non => k = false
  | .bl b => k = b
  | .int i => k = (i != 0)
  | .str y => y.length ≤ sizeLine ∧ k = ((y.length : Int) != 0)
  | .byt y => y.size ≤ sizeLine ∧ k = ((y.size : Int) != 0)
  | .ref p => (∃ xs, SqL K H p xs ∧ k = !xs.isEmpty) ∨ (∃ xs, SqT K H p xs ∧ k = !xs.isEmpty) ∨ ∃ kvs, H p = some (.dK kvs) ∧ k = !kvs.isEmpty
  | _ => False
theorem isEmpty_kv {κ : Type} {kvs : List (κ × V)} {vs : List (κ × Value)} (r : KV kvs vs) : (!vs.isEmpty) = !kvs.isEmpty := by
  cases r <;> rfl
theorem isEmpty_of {xs : List V} {its : List Value} (r : Vals xs its) : (!its.toArray.isEmpty) = !xs.isEmpty := by
  cases r <;> simp
theorem line63 : (sizeLine : Nat) < 2 ^ 63 := by rw [sizeLine_eq]; decide
theorem tru_ok : TruR X (fun x H Q => ∃ k, TruV X.K x H k ∧ Q k H) := by
  intro pins s σ H x v Q I rx h
  obtain ⟨k, e, q⟩ := h
  have hl := line63
  have hs : sizeLine = 16777216 := sizeLine_eq
  cases x with
  | non =>
    cases rx
    have e' : k = false := e
    subst e'
    exact truthy_none ⟨H, I, q⟩
  | bl b =>
    cases rx
    have e' : k = b := e
    subst e'
    exact wpAny_truthy_bool ⟨H, I, q⟩
  | int i =>
    obtain ⟨t, rfl⟩ := rx
    have e' : k = (i != 0) := e
    subst e'
    exact PySem.P.truthy_int ⟨H, I, q⟩
  | str y =>
    obtain ⟨t, rfl⟩ := rx
    obtain ⟨hy, e'⟩ : y.length ≤ sizeLine ∧ k = ((y.length : Int) != 0) := e
    subst e'
    exact PySem.P.truthy_str (by omega) ⟨H, I.tok _, q⟩
  | byt y =>
    obtain ⟨t, rfl⟩ := rx
    obtain ⟨hy, e'⟩ : y.size ≤ sizeLine ∧ k = ((y.size : Int) != 0) := e
    subst e'
    exact PySem.W.truthy_bytes (by omega) ⟨H, I.tok _, q⟩
  | ref p =>
    cases rx
    have e' : (∃ xs, SqL X.K H p xs ∧ k = !xs.isEmpty) ∨ (∃ xs, SqT X.K H p xs ∧ k = !xs.isEmpty) ∨ ∃ kvs, H p = some (.dK kvs) ∧ k = !kvs.isEmpty := e
    rcases e' with ⟨xs, hx, e'⟩ | ⟨xs, hx, e'⟩ | ⟨kvs, hx, e'⟩
    · subst e'
      obtain ⟨its, r, pl, hz⟩ := I.list hx
      have hlen := r.length
      exact wpAny_truthy_list pl.isList (by simp only [List.size_toArray]; omega) ⟨H, I.tok _, by rw [isEmpty_of r]; exact q⟩
    · subst e'
      obtain ⟨its, r, pl, hz⟩ := I.tuple hx
      have hlen := r.length
      exact truthy_tuple pl (by simp only [List.size_toArray]; omega) ⟨H, I.tok _, by rw [isEmpty_of r]; exact q⟩
    · subst e'
      obtain ⟨hz, hS, vs, r, m⟩ : kvs.length ≤ sizeLine ∧ (p == sysModules) = false ∧ ∃ vs, KV kvs vs ∧ s.heap.DictOf (mixKind X.prog X.w) p vs := I.hok p _ hx
      have hlen : kvs.length = vs.length := Paired.length r
      exact wpAny_truthy_dict hS m (by omega) ⟨H, I.tok _, by rw [isEmpty_kv r]; exact q⟩
  | _ => exact (show False from e).elim
/-- any expression whose test is its value's truth (a name, a call, a subscript, a field ..: he by fun _ => rfl) -/
theorem pt_truth (ha : PE X a ta) (he : ∀ whole, isTrue a X.env whole = (do let v ← whole; standAt a.pos; holding [v] (truthy v))) :
    PT X a (fun σ H Q => ta σ H fun x H' => ∃ k, TruV X.K x H' k ∧ Q k H') := by
  intro pins s σ H Q I h
  exact isTrue_plain (thn (ha pins s σ H _ I h) fun v s1 ⟨x, H1, I1, r1, q1⟩ => tru_ok pins s1 σ H1 x v Q I1 r1 q1) (he _)

/-! ### strs and bytes -/
theorem pe_byt {x : List UInt8} {k : Nat} : PE X (.Constant (.bytes x) k pos) (fun _ H Q => Q (.byt x.toArray) H) := fun _ _ _ H _ I h => PySem.W.Constant_bytes ⟨.byt x.toArray, H, I.tok _, ⟨_, rfl⟩, h⟩
theorem op_add_str : OpR X (binaryOp .Add) (fun x y H Q => ∃ i j, x = .str i ∧ y = .str j ∧ i.length + j.length ≤ sizeLine ∧ Q (.str (i ++ j)) H) := by
  intro pins s σ H x y v u Q I rx ry h
  obtain ⟨i, j, rfl, rfl, hz, q⟩ := h
  obtain ⟨t, rfl⟩ := rx
  obtain ⟨t', rfl⟩ := ry
  exact add_str (fun t' tk => ⟨.str (i ++ j), H, I.tok _, ⟨_, rfl⟩, q⟩) hz
theorem iop_add_str : OpR X (inplaceOp .Add) (fun x y H Q => ∃ i j, x = .str i ∧ y = .str j ∧ i.length + j.length ≤ sizeLine ∧ Q (.str (i ++ j)) H) := by
  intro pins s σ H x y v u Q I rx ry h
  obtain ⟨i, j, rfl, rfl, hz, q⟩ := h
  obtain ⟨t, rfl⟩ := rx
  obtain ⟨t', rfl⟩ := ry
  exact iadd_str (fun t' tk => ⟨.str (i ++ j), H, I.tok _, ⟨_, rfl⟩, q⟩) hz
theorem op_add_byt : OpR X (binaryOp .Add) (fun x y H Q => ∃ i j, x = .byt i ∧ y = .byt j ∧ i.size + j.size ≤ 16777216 ∧ Q (.byt (i ++ j)) H) := by
  intro pins s σ H x y v u Q I rx ry h
  obtain ⟨i, j, rfl, rfl, hz, q⟩ := h
  obtain ⟨t, rfl⟩ := rx
  obtain ⟨t', rfl⟩ := ry
  exact PySem.W.KBy.add_bytes hz (fun t' tk => ⟨.byt (i ++ j), H, I.tok _, ⟨_, rfl⟩, q⟩)

def PlainIxT (b : Expr) : Prop := ∀ o i, subscripted b false o i = operate [o, i] (getItem o i)
/-- s[i], 0 ≤ i < len -/
theorem pe_item_str (ha : PE X a ta) (hb : PE X b tb) (hs : PlainIxT b) :
    PE X (.Subscript a b pos) (tOp (fun x y H Q => ∃ z i c, x = .str z ∧ y = .int i ∧ 0 ≤ i ∧ i < 2 ^ 63 ∧ i < z.length ∧ z.cps[i.toNat]? = some c ∧ Q (.str ⟨#[c]⟩) H) ta tb) := by
  intro pins s σ H Q I h
  refine Subscript_ (binT ha hb I h fun v u s2 x y H2 I2 rx ry q => ?_)
  obtain ⟨z, i, c, rfl, rfl, h0, h63, h1, hc, q⟩ := q
  obtain ⟨t, rfl⟩ := rx
  obtain ⟨t', rfl⟩ := ry
  have e : seqIndex? i z.length = some i.toNat := PySem.StrLaws.seqIndex_nonneg h0 h1
  exact tail_any (typeIs_str s2 z t) slot_str_getitem.lookup (getItem_str (c := c) (by
    have e1 : decide (i < -(2 ^ 63 : Int)) = false := decide_eq_false (by omega)
    have e2 : decide (i ≥ 2 ^ 63) = false := decide_eq_false (by omega)
    rw [e1, e2] <;> rfl) (by rw [e]; exact hc) ⟨.str ⟨#[c]⟩, H2, I2.tok _, ⟨_, rfl⟩, q⟩) (hs _ _)
/-- b[i], 0 ≤ i < len -/
theorem pe_item_byt (ha : PE X a ta) (hb : PE X b tb) (hs : PlainIxT b) :
    PE X (.Subscript a b pos) (tOp (fun x y H Q => ∃ (z : List UInt8) (i : Int), x = .byt z.toArray ∧ y = .int i ∧ z.length ≤ sizeLine ∧ 0 ≤ i ∧ i < z.length ∧ Q (.int ((z.getD i.toNat 0).toNat : Nat)) H) ta tb) := by
  intro pins s σ H Q I h
  refine Subscript_ (binT ha hb I h fun v u s2 x y H2 I2 rx ry q => ?_)
  obtain ⟨z, i, rfl, rfl, hz, h0, h1, q⟩ := q
  obtain ⟨t, rfl⟩ := rx
  obtain ⟨t', rfl⟩ := ry
  have hl : sizeLine = 16777216 := sizeLine_eq
  exact tail_any (PySem.W.typeIs_bytes s2 z.toArray t) PySem.W.FB.slot_bytes_getitem.lookup (PySem.W.getItem_bytes (by omega) h0 h1 ⟨.int ((z.getD i.toNat 0).toNat : Nat), H2, I2.tok _, ⟨_, rfl⟩, q⟩) (hs _ _)

/-! ### scalar builtins, by CallR -/
theorem vals1 {x : V} {us : List Value} (r : Vals [x] us) : ∃ u, us = [u] ∧ RelV x u := by
  cases r with
  | cons r1 r2 => cases r2; exact ⟨_, rfl, r1⟩
theorem vals2 {x y : V} {us : List Value} (r : Vals [x, y] us) : ∃ u w', us = [u, w'] ∧ RelV x u ∧ RelV y w' := by
  cases r with
  | cons r1 r2 =>
    cases r2 with
    | cons r3 r4 => cases r4; exact ⟨_, _, rfl, r1, r3⟩
theorem call_abs : CallR X (.builtin "abs") (fun xs H Q => ∃ i, xs = [.int i] ∧ Q (.int (if i < 0 then -i else i)) H) := by
  intro pins s σ H xs us Q I r h
  obtain ⟨i, rfl, q⟩ := h
  obtain ⟨u, rfl, t, rfl⟩ := vals1 r
  exact call_abs_int fun u tk => ⟨.int (if i < 0 then -i else i), H, I.tok _, ⟨_, rfl⟩, q⟩
theorem call_max2 (hc : X.calm = true) : CallR X (.builtin "max") (fun xs H Q => ∃ i j, xs = [.int i, .int j] ∧ Q (.int (if j > i then j else i)) H) := by
  intro pins s σ H xs us Q I r h
  obtain ⟨i, j, rfl, q⟩ := h
  obtain ⟨u, w', rfl, ⟨t, rfl⟩, ⟨t', rfl⟩⟩ := vals2 r
  refine max_two_ints (I.ok.hd hc) fun h' tk k => ⟨_, H, I.kept k, ?_, q⟩
  by_cases hj : j > i
  · rw [if_pos hj, if_pos hj]; exact ⟨_, rfl⟩
  · rw [if_neg hj, if_neg hj]; exact ⟨_, rfl⟩
theorem call_min2 (hc : X.calm = true) : CallR X (.builtin "min") (fun xs H Q => ∃ i j, xs = [.int i, .int j] ∧ Q (.int (if j < i then j else i)) H) := by
  intro pins s σ H xs us Q I r h
  obtain ⟨i, j, rfl, q⟩ := h
  obtain ⟨u, w', rfl, ⟨t, rfl⟩, ⟨t', rfl⟩⟩ := vals2 r
  refine min_two_ints (I.ok.hd hc) fun h' tk k => ⟨_, H, I.kept k, ?_, q⟩
  by_cases hj : j < i
  · rw [if_pos hj, if_pos hj]; exact ⟨_, rfl⟩
  · rw [if_neg hj, if_neg hj]; exact ⟨_, rfl⟩
theorem call_int1 : CallR X (.type "int") (fun xs H Q => (∃ i, xs = [.int i] ∧ Q (.int i) H) ∨ ∃ k, xs = [.bl k] ∧ Q (.int (if k then 1 else 0)) H) := by
  intro pins s σ H xs us Q I r h
  rcases h with ⟨i, rfl, q⟩ | ⟨k, rfl, q⟩
  · obtain ⟨u, rfl, t, rfl⟩ := vals1 r
    exact call_int_int ⟨.int i, H, I, ⟨_, rfl⟩, q⟩
  · obtain ⟨u, rfl, r1⟩ := vals1 r
    cases r1
    exact call_int_bool ⟨.int (if k then 1 else 0), H, I.tok _, ⟨_, rfl⟩, q⟩
theorem call_bool1 : CallR X (.type "bool") (fun xs H Q => (∃ i, xs = [.int i] ∧ Q (.bl (i != 0)) H) ∨ ∃ k, xs = [.bl k] ∧ Q (.bl k) H) := by
  intro pins s σ H xs us Q I r h
  rcases h with ⟨i, rfl, q⟩ | ⟨k, rfl, q⟩
  · obtain ⟨u, rfl, t, rfl⟩ := vals1 r
    exact call_bool_int ⟨.bl (i != 0), H, I, rfl, q⟩
  · obtain ⟨u, rfl, r1⟩ := vals1 r
    cases r1
    exact call_bool_bool ⟨.bl k, H, I, rfl, q⟩
theorem call_str_int : CallR X (.type "str") (fun xs H Q => ∃ i, xs = [.int i] ∧ i.natAbs.log2 < 1920 ∧ Q (.str (toString i)) H) := by
  intro pins s σ H xs us Q I r h
  obtain ⟨i, rfl, hz, q⟩ := h
  obtain ⟨u, rfl, t, rfl⟩ := vals1 r
  exact PySem.P.str_of_int hz ⟨.str _, H, I.tok _, ⟨_, rfl⟩, q⟩
theorem call_ord : CallR X (.builtin "ord") (fun xs H Q => ∃ x, xs = [.str x] ∧ x.length = 1 ∧ Q (.int (x.cps.getD 0 0 : Nat)) H) := by
  intro pins s σ H xs us Q I r h
  obtain ⟨x, rfl, hz, q⟩ := h
  obtain ⟨u, rfl, t, rfl⟩ := vals1 r
  exact ord_of_one hz ⟨.int _, H, I.tok _, ⟨_, rfl⟩, q⟩
theorem call_chr : CallR X (.builtin "chr") (fun xs H Q => ∃ i, xs = [.int i] ∧ 0 ≤ i ∧ i ≤ 1114111 ∧ Q (.str ⟨#[i.toNat]⟩) H) := by
  intro pins s σ H xs us Q I r h
  obtain ⟨i, rfl, h0, h1, q⟩ := h
  obtain ⟨u, rfl, t, rfl⟩ := vals1 r
  exact chr_of_range h0 h1 ⟨.str _, H, I.tok _, ⟨_, rfl⟩, q⟩
/-- len of a str, a bytes, a list, a tuple -/
def LenV (K : PySem.W.Frag) (x : V) (H : Hp) (n : Nat) : Prop :=
  match x with
  | .str y => y.length ≤ sizeLine ∧ n = y.length
  | .byt y => y.size ≤ sizeLine ∧ n = y.size
  | .ref p => (∃ xs, SqL K H p xs ∧ n = xs.length) ∨ ∃ xs, SqT K H p xs ∧ n = xs.length
  | _ => False
theorem call_len : CallR X (.builtin "len") (fun xs H Q => ∃ x n, xs = [x] ∧ LenV X.K x H n ∧ Q (.int n) H) := by
  intro pins s σ H xs us Q I r h
  obtain ⟨x, n, rfl, e, q⟩ := h
  obtain ⟨u, rfl, rx⟩ := vals1 r
  have hl := line63
  have hs : sizeLine = 16777216 := sizeLine_eq
  cases x with
  | str y =>
    obtain ⟨t, rfl⟩ := rx
    obtain ⟨hy, e'⟩ : y.length ≤ sizeLine ∧ n = y.length := e
    subst e'
    exact len_str (by omega) ⟨.int _, H, I.tok _, ⟨_, rfl⟩, q⟩
  | byt y =>
    obtain ⟨t, rfl⟩ := rx
    obtain ⟨hy, e'⟩ : y.size ≤ sizeLine ∧ n = y.size := e
    subst e'
    exact PySem.W.len_bytes (by omega) ⟨.int _, H, I.tok _, ⟨_, rfl⟩, q⟩
  | ref p =>
    cases rx
    have e' : (∃ xs, SqL X.K H p xs ∧ n = xs.length) ∨ ∃ xs, SqT X.K H p xs ∧ n = xs.length := e
    rcases e' with ⟨xs, hx, e'⟩ | ⟨xs, hx, e'⟩
    · subst e'
      obtain ⟨its, r', pl, hz⟩ := I.list hx
      have hlen := r'.length
      exact Calls.call_len_list pl.isList (by simp only [List.size_toArray]; omega) ⟨.int xs.length, H, I.tok _, ⟨_, by simp only [List.size_toArray]; rw [hlen]⟩, q⟩
    · subst e'
      obtain ⟨its, r', pl, hz⟩ := I.tuple hx
      have hlen := r'.length
      exact len_tuple pl (by simp only [List.size_toArray]; omega) ⟨.int xs.length, H, I.tok _, ⟨_, by simp only [List.size_toArray]; rw [hlen]⟩, q⟩
  | _ => exact (show False from e).elim
/-- divmod: a new tuple -/
theorem call_divmod : CallR X (.builtin "divmod") (fun xs H Q => ∃ i j, xs = [.int i, .int j] ∧ CDiv i j ∧ ∀ p, H p = none → Q (.ref p) (upd H p (.tup [.int (i / j), .int (i % j)]))) := by
  intro pins s σ H xs us Q I r h
  obtain ⟨i, j, rfl, ⟨h1, h2⟩, q⟩ := h
  obtain ⟨u, w', rfl, ⟨t, rfl⟩, ⟨t', rfl⟩⟩ := vals2 r
  refine divmod_int (by omega) ?_ (.inl (PyProof.noPylong_small (by omega)))
  rw [Int.fdiv_eq_ediv_of_nonneg i (by omega), Int.fmod_eq_emod_of_nonneg i (by omega)]
  have hn : H s.heap.objs.size = none := I.hok.fresh (Nat.le_refl _)
  refine ⟨.ref s.heap.objs.size, _, ?_, rfl, q _ hn⟩
  refine I.laid (fun b o e => Heap.get?_push_of_some _ e) (Nat.le_refl _) ⟨by simp only [List.length_cons, List.length_nil]; rw [sizeLine_eq]; decide, [.int (i / j) s.toks, .int (i % j) (s.toks + 1)], .cons ⟨_, rfl⟩ (.cons ⟨_, rfl⟩ .nil), ?_⟩
  exact ⟨_, Heap.get?_push_size s.heap rfl, rfl, 0, rfl⟩
end
end L2

namespace L2
open PySem PySem.Spec PyProof.Rows

/-! ### an instance, its attributes a map -/
structure ObjM (h : Heap) (x dx C : Addr) (mA : Str → Option Value) : Prop where
  obj : h.get? x = some (PySem.W.instObj C dx)
  ns : h.Ns1 dx mA
  ne : dx ≠ x

theorem lookIn_ns {h : Heap} {dx : Addr} {mA : Str → Option Value} (n : h.Ns1 dx mA) : ∃ od, h.get? dx = some od ∧ ∀ name, PySem.W.lookIn name od = some (mA name) := by
  obtain ⟨o, es, ep, ho, hd, hk, _, hm⟩ := n
  refine ⟨o, ho, fun name => ?_⟩
  have e := hm name
  unfold nsFind findBy at e
  rw [← Array.find?_toList] at e
  unfold PySem.W.lookIn
  rw [hd]
  dsimp only
  split
  · rename_i y q
    rw [q] at e
    exact congrArg some e
  · rename_i q
    rw [q] at e
    have a : es.toList.any (·.refKey) = false := by
      rw [List.any_eq_false]
      intro y hy
      obtain ⟨z, t, hkey⟩ := hk y (Array.mem_toList_iff.mp hy)
      simp [DictEntry.refKey, hkey]
    have a' : ¬ es.toList.any (·.refKey) = true := by rw [a]; exact Bool.false_ne_true
    rw [if_neg a']
    exact congrArg some e

theorem ObjM.look {h : Heap} {x dx C : Addr} {mA : Str → Option Value} (I : ObjM h x dx C mA) : ∃ od, PySem.W.InstAt h x (PySem.W.instObj C dx) C (some od) ∧ ∀ name, PySem.W.lookIn name od = some (mA name) :=
  let ⟨od, ho, hl⟩ := lookIn_ns I.ns
  ⟨od, ⟨I.obj, rfl, rfl, ho⟩, hl⟩

section
variable {prog : Program} {w : World} {A : Around} {E : Value → Shared → Prop} {s : Shared} {K : PySem.W.Frag} {x dx C f : Addr} {mA : Str → Option Value} {name : Str} {v : Value}

theorem get_map {expr : Bool} {Q : Value → Shared → Prop} (X : K.In s.heap) (I : ObjM s.heap x dx C mA) (hg : PySem.W.plainGet K C name = true) (hh : PySem.W.hasDictIn K C = true)
    (ha : PySem.W.findIn K (.ref C) name = some none) (hv : mA name = some v) (hv' : PySem.W.handedIn v = true) (h : Q v { s with toks := s.toks + 1 }) :
    wpAny (model prog w) A (getAttr (.ref x) name expr) Q E s := by
  obtain ⟨od, J, hl⟩ := I.look
  exact PySem.W.get_value X J (PySem.W.plainGet_of hg).1 (PySem.W.findObj_own hh ha rfl (by rw [hl, hv])) hv' h

theorem get_const {expr : Bool} {a : Value} {Q : Value → Shared → Prop} (X : K.In s.heap) (I : ObjM s.heap x dx C mA) (hg : PySem.W.plainGet K C name = true) (hh : PySem.W.hasDictIn K C = true)
    (ha : PySem.W.findIn K (.ref C) name = some (some a)) (hn : PySem.W.specialIn K a "__get__" = some none) (hc : PySem.W.copiedNames.contains name = false) (hv : mA name = none) (hv' : PySem.W.handedIn a = true)
    (h : Q a { s with toks := s.toks + 1 }) : wpAny (model prog w) A (getAttr (.ref x) name expr) Q E s := by
  obtain ⟨od, J, hl⟩ := I.look
  exact PySem.W.get_value X J (PySem.W.plainGet_of hg).1 (PySem.W.findObj_cls hh ha hn hv' hc (by rw [hl, hv])) hv' h

theorem get_meth {pl : Sem Bool} {Q : Value × List Value → Shared → Prop} (X : K.In s.heap) (I : ObjM s.heap x dx C mA) (hg : PySem.W.plainGet K C name = true)
    (hf : PySem.W.findIn K (.ref C) name = some (some (.ref f))) (ht : PySem.W.isFn K (.ref f) = true) (hv : mA name = none) (h : Q (.ref f, [.ref x]) s) :
    wpAny (model prog w) A (getMethod (.ref x) name pl) Q E s := by
  obtain ⟨od, J, hl⟩ := I.look
  exact PySem.W.method_fn X J (PySem.W.plainGet_of hg).1 (PySem.W.plainGet_of hg).2 hf (beq_iff_eq.mp ht) (by show (PySem.W.lookIn name od).map (·.isSome) = some false; rw [hl, hv]; rfl) h

theorem set_map {ns : List Str} {Q : Unit → Shared → Prop} (X : K.In s.heap) (I : ObjM s.heap x dx C mA)
    (hs : PySem.W.findIn K (.ref C) "__setattr__" = some (some (.builtin "object.__setattr__"))) (hp : PySem.W.plainOver K C = true) (ht : PySem.W.takerIn K C name = some none) (hh : PySem.W.hasDictIn K C = true)
    (hw : PySem.Within mA ns) (hsz : ns.length ≤ sizeLine)
    (h : ∀ h', ObjM h' x dx C (fun y => if y = name then some v else mA y) → Heap.SameBut dx s.heap h' → Q () { s with heap := h', toks := s.toks + 2 }) :
    wpAny (model prog w) A (setAttr (.ref x) name v) Q E s := by
  obtain ⟨od, J, hl⟩ := I.look
  refine PySem.W.set_plain X J hs (PySem.W.osa_open (s := { s with toks := s.toks + 1 }) (r := none) X J hp ht fun b => ?_)
  obtain ⟨cd, hc, hd'⟩ := PySem.W.any_some hh
  have hx : s.heap.get? x = some ⟨.ref C, some dx, .plain, #[]⟩ := I.obj
  refine wpAny_bind (wpAny_pure (wpAny_bind (wpAny_bind (wpAny_loadPart hx (wpAny_bind (PySem.W.Looks.here (s := { s with toks := s.toks + 1 }) (PySem.W.looks_clsIn X hc) ?_))))))
  rw [hd']
  refine wpAny_pure (a := some dx) (wpAny_bind (wpAny_pure (wpAny_bind ?_)))
  refine wpAny_nsSet1 (s := { s with toks := s.toks + 1 }) I.ns fun h' hn2 hs2 => ?_
  obtain ⟨oD, esD, epD, hoD, hdD, hcD⟩ := hn2.count (PySem.Within.cons name v hw)
  refine wpAny_bind (wpAny_lookBehind hoD (by rw [hdD]; exact pastItsLine_dict (Nat.le_trans hcD (by rw [List.length_cons]; omega))) ?_)
  exact wpAny_pure (h _ ⟨(hs2.2 _ (Ne.symm I.ne)).trans I.obj, hn2, I.ne⟩ hs2)

/-- C(..): the dict at the heap's end, the instance behind it; then its __init__ -/
theorem make_map {R : Result → Shared → Prop} {vs : List Value} {kw : List (Str × Value)} (X : K.In s.heap) (hm : PySem.W.makesIn K C = true)
    (hi : PySem.W.findIn K (.ref C) "__init__" = some (some (.ref f))) (hf : PySem.W.typeIn K (.ref f) = some (.type "function"))
    (h : codeAny (model prog w) (A.under (.builtin "type.__call__" ⟨.ref C :: vs, kw⟩)) (.call (.ref f) ⟨.ref (s.heap.objs.size + 1) :: vs, kw⟩) (PySem.W.InitBack (s.heap.objs.size + 1) R)
      { s with heap := (s.heap.push PySem.W.emptyDict).push (PySem.W.instObj C s.heap.objs.size) }) :
    codeAny (model prog w) A (.call (.ref C) ⟨vs, kw⟩) R s := by
  obtain ⟨hh, g, d, t, os⟩ := s
  exact PySem.W.make_core (PySem.W.makes_of X hm) (PySem.W.looks_findIn X hi) (fun self => PySem.W.bind_fn X self hf) (.inl rfl) h
/-- C() where there is no __init__ but object's -/
theorem make_map0 {R : Result → Shared → Prop} (X : K.In s.heap) (hm : PySem.W.makesIn K C = true)
    (hi : PySem.W.findIn K (.ref C) "__init__" = some (some (.builtin "object.__init__")))
    (hb : ∀ self, PySem.W.Looks (model prog w) s.heap (bindSpecial (.builtin "object.__init__") self) (.builtin "object.__init__", [self]))
    (h : codeAny (model prog w) (A.under (.builtin "type.__call__" ⟨[.ref C], []⟩)) (.call (.builtin "object.__init__") ⟨[.ref (s.heap.objs.size + 1)], []⟩) (PySem.W.InitBack (s.heap.objs.size + 1) R)
      { s with heap := (s.heap.push PySem.W.emptyDict).push (PySem.W.instObj C s.heap.objs.size) }) :
    codeAny (model prog w) A (.call (.ref C) ⟨[], []⟩) R s := by
  obtain ⟨hh, g, d, t, os⟩ := s
  exact PySem.W.make_core (PySem.W.makes_of X hm) (PySem.W.looks_findIn X hi) hb (.inr ⟨rfl, rfl⟩) h
end

/-! ### the attributes as a list of pairs -/
def putF (f : Str) (v : V) : List (Str × V) → List (Str × V)
  | [] => [(f, v)]
  | (g, x) :: r => if g = f then (g, v) :: r else (g, x) :: putF f v r
theorem lookup_putF (f g : Str) (v : V) : ∀ fs : List (Str × V), (putF f v fs).lookup g = if g = f then some v else fs.lookup g
  | [] => by
    show List.lookup g [(f, v)] = _
    by_cases h : g = f
    · have hb : (g == f) = true := beq_iff_eq.mpr h
      simp only [List.lookup, hb, if_pos h]
    · have hb : (g == f) = false := beq_eq_false_iff_ne.mpr h
      simp only [List.lookup, hb, if_neg h]
  | (k, x) :: r => by
    have ih := lookup_putF f g v r
    rw [show putF f v ((k, x) :: r) = (if k = f then (k, v) :: r else (k, x) :: putF f v r) from rfl]
    by_cases hk : k = f
    · rw [if_pos hk]
      by_cases h : g = k
      · have hb : (g == k) = true := beq_iff_eq.mpr h
        simp only [List.lookup, hb, if_pos (h.trans hk)]
      · have hb : (g == k) = false := beq_eq_false_iff_ne.mpr h
        simp only [List.lookup, hb, if_neg (fun e : g = f => h (e.trans hk.symm))]
    · rw [if_neg hk]
      by_cases h : g = k
      · have hb : (g == k) = true := beq_iff_eq.mpr h
        simp only [List.lookup, hb, if_neg (fun e : g = f => hk (h.symm.trans e))]
      · have hb : (g == k) = false := beq_eq_false_iff_ne.mpr h
        simp only [List.lookup, hb]
        exact ih
theorem keys_putF (f : Str) (v : V) : ∀ fs : List (Str × V), f ∈ (putF f v fs).map (·.1) ∧ ∀ g, g ∈ fs.map (·.1) → g ∈ (putF f v fs).map (·.1)
  | [] => ⟨by simp [putF], fun g h => by simp at h⟩
  | (k, x) :: r => by
    obtain ⟨i1, i2⟩ := keys_putF f v r
    rw [show putF f v ((k, x) :: r) = (if k = f then (k, v) :: r else (k, x) :: putF f v r) from rfl]
    by_cases hk : k = f
    · rw [if_pos hk]
      subst hk
      exact ⟨by simp, fun g h => by simpa using h⟩
    · rw [if_neg hk]
      refine ⟨?_, fun g h => ?_⟩
      · rw [List.map_cons]
        exact List.mem_cons_of_mem _ i1
      · rw [List.map_cons] at h ⊢
        rcases List.mem_cons.mp h with e | e
        · exact List.mem_cons.mpr (.inl e)
        · exact List.mem_cons_of_mem _ (i2 g e)
theorem length_putF (f : Str) (v : V) : ∀ fs : List (Str × V), (putF f v fs).length ≤ fs.length + 1
  | [] => by simp [putF]
  | (k, x) :: r => by
    have ih := length_putF f v r
    rw [show putF f v ((k, x) :: r) = (if k = f then (k, v) :: r else (k, x) :: putF f v r) from rfl]
    by_cases hk : k = f
    · rw [if_pos hk, List.length_cons, List.length_cons]; omega
    · rw [if_neg hk, List.length_cons, List.length_cons]; omega

theorem RelO.some_of {v : V} {o : Option Value} (r : RelO (some v) o) : ∃ u, o = some u ∧ RelV v u := by
  cases o with
  | none => exact (show False from r).elim
  | some u => exact ⟨u, rfl, r⟩
theorem RelO.none_of {o : Option Value} (r : RelO none o) : o = none := by
  cases o with
  | none => rfl
  | some u => exact (show False from r).elim
theorem handed_of {v : V} {u : Value} (r : RelV v u) : PySem.W.handedIn u = true := by
  cases v with
  | non => cases (show u = Value.none from r); rfl
  | bl b => cases (show u = Value.bool b from r); rfl
  | int i => obtain ⟨t, e⟩ := (show ∃ t, u = Value.int i t from r); cases e; rfl
  | str x => obtain ⟨t, e⟩ := (show ∃ t, u = Value.str x t from r); cases e; rfl
  | byt b => obtain ⟨t, e⟩ := (show ∃ t, u = Value.bytes b t from r); cases e; rfl
  | flt b => obtain ⟨t, e⟩ := (show ∃ t, u = Value.float b t from r); cases e; rfl
  | ref a => cases (show u = Value.ref a from r); rfl
  | ty n => cases (show u = Value.type n from r); rfl

section
variable {P : Program} {w : World} {H H' : Hp} {h h' : Heap} {a C dx : Addr} {fs fs' : List (Str × V)}
theorem ins_get (hok : HOk P w H h) (e : H a = some (.ins C dx fs)) : ∃ mA, ObjM h a dx C mA ∧ (∀ f, RelO (fs.lookup f) (mA f)) ∧ PySem.Within mA (fs.map (·.1)) ∧ fs.length ≤ 1000 ∧ H dx = some (.own a) := by
  obtain ⟨d, z, ne, ob, mA, n, r, q⟩ := (show ObjOk P w H h a (.ins C dx fs) from hok a _ e)
  exact ⟨mA, ⟨ob, n, ne⟩, r, q, z, d⟩
end

/-! ### what of the text a class must have -/
structure Cls (K : PySem.W.Frag) (C : Addr) : Prop where
  pg : PySem.W.plainGet K C Str.empty = true
  hd : PySem.W.hasDictIn K C = true
  po : PySem.W.plainOver K C = true
  sa : PySem.W.findIn K (.ref C) "__setattr__" = some (some (.builtin "object.__setattr__"))
theorem Cls.get {K : PySem.W.Frag} {C : Addr} (c : Cls K C) (f : Str) : PySem.W.plainGet K C f = true := c.pg
/-- no class of it has the name -/
def NoAttr (K : PySem.W.Frag) (C : Addr) (f : Str) : Prop := PySem.W.findIn K (.ref C) f = some none
theorem NoAttr.taker {K : PySem.W.Frag} {C : Addr} {f : Str} (n : NoAttr K C f) : PySem.W.takerIn K C f = some none := by
  unfold PySem.W.takerIn
  rw [show PySem.W.findIn K (.ref C) f = some none from n]
  rfl
/-- a constant of the class -/
structure Con (K : PySem.W.Frag) (C : Addr) (f : Str) (v : V) (u : Value) : Prop where
  at_ : PySem.W.findIn K (.ref C) f = some (some u)
  rel : RelV v u
  get : PySem.W.specialIn K u "__get__" = some none
  cp : PySem.W.copiedNames.contains f = false
/-- a method: a plain def of the class or of one above it -/
structure Meth (K : PySem.W.Frag) (C : Addr) (m : Str) (f : Addr) : Prop where
  at_ : PySem.W.findIn K (.ref C) m = some (some (.ref f))
  fn : PySem.W.isFn K (.ref f) = true
  kp : PySem.W.keepIn K (.ref f) = true

section
variable {X : Cx} {pins : List (Addr × Obj)} {σ : St} {H : Hp} {s : Shared} {a C dx : Addr} {fs : List (Str × V)} {f : Str} {v : V} {A : Around} {E : Value → Shared → Prop}

theorem getattr_ok {b : Bool} {Q : Value → Shared → Prop} (I : Inv X pins σ H s) (e : H a = some (.ins C dx fs)) (c : Cls X.K C) (n : NoAttr X.K C f) (l : fs.lookup f = some v)
    (h : ∀ u s', Inv X pins σ H s' → RelV v u → Q u s') : wpAny (model X.prog X.w) A (getAttr (.ref a) f b) Q E s := by
  obtain ⟨mA, O, r, _, _, _⟩ := ins_get I.hok e
  obtain ⟨u, hu, ru⟩ := RelO.some_of (v := v) (o := mA f) (by rw [← l]; exact r f)
  exact get_map I.kIn O (c.get f) c.hd n hu (handed_of ru) (h u _ (I.tok _) ru)

theorem getcon_ok {b : Bool} {u : Value} {Q : Value → Shared → Prop} (I : Inv X pins σ H s) (e : H a = some (.ins C dx fs)) (c : Cls X.K C) (k : Con X.K C f v u) (l : fs.lookup f = none)
    (h : ∀ s', Inv X pins σ H s' → Q u s') : wpAny (model X.prog X.w) A (getAttr (.ref a) f b) Q E s := by
  obtain ⟨mA, O, r, _, _, _⟩ := ins_get I.hok e
  have hn : mA f = none := RelO.none_of (by rw [← l]; exact r f)
  exact get_const I.kIn O (c.get f) c.hd k.at_ k.get k.cp hn (handed_of k.rel) (h _ (I.tok _))

theorem getmeth_ok {m : Str} {g : Addr} {pl : Sem Bool} {Q : Value × List Value → Shared → Prop} (I : Inv X pins σ H s) (e : H a = some (.ins C dx fs)) (c : Cls X.K C) (k : Meth X.K C m g) (l : fs.lookup m = none)
    (h : Q (.ref g, [.ref a]) s) : wpAny (model X.prog X.w) A (getMethod (.ref a) m pl) Q E s := by
  obtain ⟨mA, O, r, _, _, _⟩ := ins_get I.hok e
  have hn : mA m = none := RelO.none_of (by rw [← l]; exact r m)
  exact get_meth I.kIn O (c.get m) k.at_ k.fn hn h

theorem setattr_ok {y : V} {u : Value} {Q : Unit → Shared → Prop} (I : Inv X pins σ H s) (e : H a = some (.ins C dx fs)) (c : Cls X.K C) (n : NoAttr X.K C f) (hl : fs.length < 1000) (ry : RelV y u)
    (h : ∀ s', Inv X pins σ (upd H a (.ins C dx (putF f y fs))) s' → Q () s') : wpAny (model X.prog X.w) A (setAttr (.ref a) f u) Q E s := by
  obtain ⟨mA, O, r, wi, _, ho⟩ := ins_get I.hok e
  have hz : (fs.map (·.1)).length ≤ sizeLine := by rw [List.length_map, sizeLine_eq]; omega
  refine set_map I.kIn O c.sa c.po n.taker c.hd wi hz fun h' O' sb => h _ ?_
  have hd : ∃ o, h'.get? dx = some o := let ⟨o, _, _, e', _⟩ := O'.ns; ⟨o, e'⟩
  refine I.write (x := a) (e := dx) (by rw [e]; exact True.intro) (.inr ho) (fun b q hb z => (sb.2 b hb).trans z) hd ?_
  refine ⟨by rw [upd_ne O.ne]; exact ho, ?_, O.ne, O'.obj, _, O'.ns, fun g => ?_, fun g hg => ?_⟩
  · have := length_putF f y fs; omega
  · show RelO ((putF f y fs).lookup g) (if g = f then some u else mA g)
    rw [lookup_putF]
    by_cases q : g = f
    · rw [if_pos q, if_pos q]; exact ry
    · rw [if_neg q, if_neg q]; exact r g
  · by_cases q : g = f
    · rw [q]; exact (keys_putF f y fs).1
    · refine (keys_putF f y fs).2 g (wi g fun z => hg ?_)
      show (if g = f then some u else mA g) = none
      rw [if_neg q]; exact z

/-- a new instance, tracked, without attributes -/
theorem Inv.made (I : Inv X pins σ H s) : Inv X pins σ (upd (upd H s.heap.objs.size (.own (s.heap.objs.size + 1))) (s.heap.objs.size + 1) (.ins C s.heap.objs.size []))
    { s with heap := (s.heap.push PySem.W.emptyDict).push (PySem.W.instObj C s.heap.objs.size) } := by
  have e1 : (s.heap.push PySem.W.emptyDict).get? s.heap.objs.size = some PySem.W.emptyDict := Heap.get?_push_size s.heap rfl
  have e2 : ((s.heap.push PySem.W.emptyDict).push (PySem.W.instObj C s.heap.objs.size)).get? (s.heap.objs.size + 1) = some (PySem.W.instObj C s.heap.objs.size) := by
    have := Heap.get?_push_size (s.heap.push PySem.W.emptyDict) (o := PySem.W.instObj C s.heap.objs.size) rfl
    rwa [Heap.size_push] at this
  have e3 : (s.heap.push PySem.W.emptyDict).Ns s.heap.objs.size (fun _ => none) := ⟨PySem.W.emptyDict, #[], _, e1, rfl, (fun e he => absurd he (by simp)), fun _ => rfl⟩
  have I1 := I.laid (a := s.heap.objs.size) (o := .own (s.heap.objs.size + 1)) (h' := s.heap.push PySem.W.emptyDict) (t' := s.toks) (fun b u q => Heap.get?_push_of_some _ q) (Nat.le_refl _) ⟨_, e1⟩
  refine I1.laid (a := s.heap.objs.size + 1) (o := .ins C s.heap.objs.size []) (t' := s.toks) (fun b u q => Heap.get?_push_of_some _ q) (Nat.le_of_eq (Heap.size_push _ _)) ?_
  have ne : s.heap.objs.size ≠ s.heap.objs.size + 1 := Nat.ne_of_lt (Nat.lt_succ_self _)
  refine ⟨by rw [upd_ne ne, upd_same], Nat.zero_le _, ne, e2, fun _ => none, (Heap.Ns1.of_empty e3).at fun o q => Heap.get?_push_of_some _ q, fun _ => True.intro, fun y hy => absurd rfl hy⟩

/-- e.f where nothing but the object is asked: through attributeBase (super) and the last hold -/
theorem attr_of {prog : Program} {w : World} {env : Env} {e : Expr} {f : Str} {pos : Pos} {s : Shared} {Q : Value → Shared → Prop} (hb : attributeBase e f env (eval e env) = eval e env)
    (h : wpAny (model prog w) A (eval e env) (fun o s₁ => wpAny (model prog w) A (getAttr o f true) Q E s₁) E s) : wpAny (model prog w) A (eval (.Attribute e f pos) env) Q E s :=
  Attribute_any_ h (by rw [arm_eval_Attribute, hb])
end

/-! ### readings and rules -/
/-- e.f, an attribute of the instance -/
def tFld (K : PySem.W.Frag) (ta : TE) (f : Str) : TE := fun σ H Q => ta σ H fun x H1 => ∃ a C dx fs v, x = .ref a ∧ H1 a = some (.ins C dx fs) ∧ Cls K C ∧ NoAttr K C f ∧ fs.lookup f = some v ∧ Q v H1
/-- e.f, a constant of the class -/
def tCon (K : PySem.W.Frag) (ta : TE) (f : Str) : TE := fun σ H Q => ta σ H fun x H1 => ∃ a C dx fs v u, x = .ref a ∧ H1 a = some (.ins C dx fs) ∧ Cls K C ∧ Con K C f v u ∧ fs.lookup f = none ∧ Q v H1
/-- e.f = value -/
def sFld (K : PySem.W.Frag) (ta tv : TE) (f : Str) : TS := fun D σ H => tv σ H fun y H1 => ta σ H1 fun x H2 => ∃ a C dx fs, x = .ref a ∧ H2 a = some (.ins C dx fs) ∧ Cls K C ∧ NoAttr K C f ∧ fs.length < 1000 ∧
  D.nx σ (upd H2 a (.ins C dx (putF f y fs)))
/-- an augmented operator on two values -/
def InOp (X : Cx) (op : Operator) (rd : V → V → Hp → VK → Prop) : Prop :=
  ∀ (pins : List (Addr × Obj)) (s : Shared) (σ : St) (H : Hp) (x y : V) (u v : Value) (Q : VK), Inv X pins σ H s → RelV x u → RelV y v → rd x y H Q → wpAny (model X.prog X.w) X.A (inplaceOp op u v) (EP X pins σ Q) X.xe s
/-- e.f op= value -/
def sFldAug (K : PySem.W.Frag) (ta tv : TE) (rd : V → V → Hp → VK → Prop) (f : Str) : TS := fun D σ H => ta σ H fun x H1 => ∃ a C dx fs v, x = .ref a ∧ H1 a = some (.ins C dx fs) ∧ Cls K C ∧ NoAttr K C f ∧ fs.lookup f = some v ∧
  tv σ H1 fun y H2 => rd v y H2 fun z H3 => ∃ dx' fs', H3 a = some (.ins C dx' fs') ∧ fs'.length < 1000 ∧ D.nx σ (upd H3 a (.ins C dx' (putF f z fs')))

section
variable {X : Cx} {o e value : Expr} {f : Str} {pos pos' tpos : Pos} {ta tv : TE}
theorem pe_fld (he : PE X e ta) (hb : attributeBase e f X.env (eval e X.env) = eval e X.env) : PE X (.Attribute e f pos) (tFld X.K ta f) := by
  intro pins s σ H Q I h
  refine attr_of hb (thn (he pins s σ H _ I h) fun u s1 ⟨x, H1, I1, rx, a, C, dx, fs, v, ex, ea, c, n, l, q⟩ => ?_)
  subst ex
  obtain rfl : u = Value.ref a := rx
  exact getattr_ok I1 ea c n l fun u' s2 I2 ru => ⟨v, H1, I2, ru, q⟩
theorem pe_con (he : PE X e ta) (hb : attributeBase e f X.env (eval e X.env) = eval e X.env) : PE X (.Attribute e f pos) (tCon X.K ta f) := by
  intro pins s σ H Q I h
  refine attr_of hb (thn (he pins s σ H _ I h) fun u s1 ⟨x, H1, I1, rx, a, C, dx, fs, v, u0, ex, ea, c, k, l, q⟩ => ?_)
  subst ex
  obtain rfl : u = Value.ref a := rx
  exact getcon_ok I1 ea c k l fun s2 I2 => ⟨v, H1, I2, k.rel, q⟩
theorem ps_fld (ha : PE X o ta) (hv : PE X value tv) (hs : swapsWith value (some (.Attribute o f pos')) pos.line X.env = pure false) : PS X (.Assign [.Attribute o f pos'] value pos) (sFld X.K ta tv f) := by
  intro pins s σ H D I h
  refine plainObj_wpAny_Assign_Attribute (thn (hv pins s σ H _ I h) fun u s1 ⟨y, H1, I1, ry, q⟩ => thn (ha pins s1 σ H1 _ I1 q) fun ov s2 ⟨x, H2, I2, rx, a, C, dx, fs, ex, ea, c, n, l, q2⟩ => ?_) hs
  subst ex
  obtain rfl : ov = Value.ref a := rx
  exact setattr_ok I2 ea c n l ry fun s3 I3 => ⟨σ, _, I3, q2⟩
theorem ps_fldaug {op : Operator} {rd : V → V → Hp → VK → Prop} (ha : PE X o ta) (hv : PE X value tv) (hop : InOp X op rd) : PS X (.AugAssign (.Attribute o f tpos) op value pos) (sFldAug X.K ta tv rd f) := by
  intro pins s σ H D I h
  refine wpAny_AugAssign_AttributeAny (thn (ha pins s σ H _ I h) fun ov s1 ⟨x, H1, I1, rx, a, C, dx, fs, v, ex, ea, c, n, l, q⟩ => ?_)
  subst ex
  obtain rfl : ov = Value.ref a := rx
  refine getattr_ok I1 ea c n l fun u s2 I2 ru => thn (hv pins s2 σ H1 _ I2 q) fun w3 s3 ⟨y, H2, I3, ry, q3⟩ => thn (hop pins s3 σ H2 v y u w3 _ I3 ru ry q3) fun w4 s4 ⟨z, H3, I4, rz, dx', fs', ea', l', q4⟩ => ?_
  exact setattr_ok I4 ea' c n l' rz fun s5 I5 => ⟨σ, _, I5, q4⟩
def rAdd : V → V → Hp → VK → Prop := fun x y H Q => ∃ i j, x = .int i ∧ y = .int j ∧ Q (.int (i + j)) H
def rSub : V → V → Hp → VK → Prop := fun x y H Q => ∃ i j, x = .int i ∧ y = .int j ∧ Q (.int (i - j)) H
theorem in_add : InOp X .Add rAdd := by
  rintro pins s σ H x y u v Q I rx ry ⟨i, j, rfl, rfl, q⟩
  obtain ⟨t, rfl⟩ := (show ∃ t, u = Value.int i t from rx)
  obtain ⟨t', rfl⟩ := (show ∃ t', v = Value.int j t' from ry)
  exact PyProof.Rows.iadd_int ⟨.int (i + j), H, I.tok _, ⟨_, rfl⟩, q⟩
theorem in_sub : InOp X .Sub rSub := by
  rintro pins s σ H x y u v Q I rx ry ⟨i, j, rfl, rfl, q⟩
  obtain ⟨t, rfl⟩ := (show ∃ t, u = Value.int i t from rx)
  obtain ⟨t', rfl⟩ := (show ∃ t', v = Value.int j t' from ry)
  exact PyProof.Rows.isub_int ⟨.int (i - j), H, I.tok _, ⟨_, rfl⟩, q⟩

/-- what is between an instance and its method: the tree of a method call -/
theorem methcall_of {pl : Sem Bool} {m : Str} {apos : Pos} {args : List Expr} {pins : List (Addr × Obj)} {s : Shared} {σ : St} {H : Hp} {Q : Value → Shared → Prop} {te : TE} (he : PE X e te) (I : Inv X pins σ H s)
    (h : te σ H fun x H1 => ∃ a C dx fs g, x = .ref a ∧ H1 a = some (.ins C dx fs) ∧ Cls X.K C ∧ Meth X.K C m g ∧ fs.lookup m = none ∧
      ∀ s1, Inv X pins σ H1 s1 → wpAny (model X.prog X.w) X.A (callWith pos (.ref g) [.ref a] (backTo pos (starEach args X.env)) (backToKw pos (keywordEach [] X.env))) Q X.xe s1)
    (ht : eval (.Call (.Attribute e m apos) args [] pos) X.env = (do
      let ov ← eval e X.env
      standAt apos.atName
      let (f, first) ← holding [ov] (getMethod ov m pl)
      callWith pos f first (backTo pos (starEach args X.env)) (backToKw pos (keywordEach [] X.env)))) :
    wpAny (model X.prog X.w) X.A (eval (.Call (.Attribute e m apos) args [] pos) X.env) Q X.xe s := by
  refine PySem.W.methodCall_KW (pl := pl) (thn (he pins s σ H _ I h) fun u s1 ⟨x, H1, I1, rx, a, C, dx, fs, g, ex, ea, c, k, l, q⟩ => ?_) ht
  subst ex
  obtain rfl : u = Value.ref a := rx
  exact getmeth_ok I1 ea c k l (q s1 I1)
end

/-! ### isinstance -/
section
variable {X : Cx} {pins : List (Addr × Obj)} {σ : St} {H : Hp} {s : Shared} {A : Around} {E : Value → Shared → Prop} {Q : Value → Shared → Prop} {c : Value} {b : Bool}
/-- the type of a value, as the fragment's deciders take it; for an instance its class -/
inductive TyOf (K : PySem.W.Frag) (H : Hp) : V → Value → Prop where
  | non : TyOf K H .non (.type "NoneType")
  | bl (x : Bool) : TyOf K H (.bl x) (.type "bool")
  | int (i : Int) : TyOf K H (.int i) (.type "int")
  | str (x : Str) : TyOf K H (.str x) (.type "str")
  | flt (x : UInt64) : TyOf K H (.flt x) (.type "float")
  | lst {a : Addr} {xs : List V} (e : H a = some (.lst xs)) : TyOf K H (.ref a) (.type "list")
  | frz {a : Addr} {o : Obj} {xs : List V} (e : H a = some (.frz o (.lst xs))) : TyOf K H (.ref a) (.type "list")
  | tup {a : Addr} {xs : List V} (e : H a = some (.tup xs)) : TyOf K H (.ref a) (.type "tuple")
  | dK {a : Addr} {kvs : List (Key × V)} (e : H a = some (.dK kvs)) : TyOf K H (.ref a) (.type "dict")
  | dT {a : Addr} {kvs : List (List Key × V)} (e : H a = some (.dT kvs)) : TyOf K H (.ref a) (.type "dict")
  | ins {a C dx : Addr} {fs : List (Str × V)} (e : H a = some (.ins C dx fs)) (cl : Cls K C) (ha : PySem.W.findIn K (.ref C) "__class__" = some (some (.builtin "object.__class__")))
      (hn : PySem.W.specialIn K (.builtin "object.__class__") "__get__" = some (some (.builtin "getset_descriptor.__get__"))) (htk : PySem.W.takesIn K (.builtin "object.__class__") = some true)
      (hm : PySem.W.mroIn K C (.type "object") = some true) : TyOf K H (.ref a) (.ref C)
/-- isinstance(x, c) for one class c, a built-in or an own one: kitOne's answer -/
theorem isinst_ok {x : V} {u t : Value} (I : Inv X pins σ H s) (rx : RelV x u) (ty : TyOf X.K H x t) (e : PySem.W.kitOne X.K t c = some b) (h : ∀ tk, Q (.bool b) { s with toks := tk }) :
    wpAny (model X.prog X.w) A (call (.builtin "isinstance") [u, c]) Q E s := by
  cases ty with
  | non => cases (show u = Value.none from rx); exact PySem.W.kia_one PySem.W.kitx_none I.kIn True.intro e (fun z => nomatch z) h
  | bl y => cases (show u = Value.bool y from rx); exact PySem.W.kia_one PySem.W.kitx_bool I.kIn True.intro e (fun z => nomatch z) h
  | int i => obtain ⟨t, q⟩ := (show ∃ t, u = Value.int i t from rx); cases q; exact PySem.W.kia_one PySem.W.kitx_int I.kIn True.intro e (fun z => nomatch z) h
  | str y => obtain ⟨t, q⟩ := (show ∃ t, u = Value.str y t from rx); cases q; exact PySem.W.kia_one PySem.W.kitx_str I.kIn True.intro e (fun z => nomatch z) h
  | flt y => obtain ⟨t, q⟩ := (show ∃ t, u = Value.float y t from rx); cases q; exact PySem.W.kia_one PySem.W.kitx_float I.kIn True.intro e (fun z => nomatch z) h
  | @lst a xs ea =>
    cases (show u = Value.ref a from rx)
    obtain ⟨_, _, n, _, h1⟩ := (show ObjOk X.prog X.w H s.heap a (.lst xs) from I.hok a _ ea)
    exact PySem.W.kia_one PySem.W.kitx_list I.kIn ⟨_, h1, rfl⟩ e (fun z => nomatch z) h
  | @frz a ob xs ea =>
    cases (show u = Value.ref a from rx)
    obtain ⟨_, _, _, n, _, h1⟩ := (show ObjOk X.prog X.w H s.heap a (.frz ob (.lst xs)) from I.hok a _ ea)
    exact PySem.W.kia_one PySem.W.kitx_list I.kIn ⟨_, h1, rfl⟩ e (fun z => nomatch z) h
  | @tup a xs ea =>
    cases (show u = Value.ref a from rx)
    obtain ⟨_, _, _, p⟩ := (show ObjOk X.prog X.w H s.heap a (.tup xs) from I.hok a _ ea)
    obtain ⟨o, h1, h2, _⟩ := p
    exact PySem.W.kia_one PySem.W.kitx_tuple I.kIn ⟨o, h1, h2⟩ e (fun z => nomatch z) h
  | @dK a kvs ea =>
    cases (show u = Value.ref a from rx)
    obtain ⟨_, _, vs, _, p⟩ := (show ObjOk X.prog X.w H s.heap a (.dK kvs) from I.hok a _ ea)
    obtain ⟨o, es, ep, h1, h2, _⟩ := p
    exact PySem.W.kia_one PySem.W.kitx_dict I.kIn ⟨o, h1, h2.1⟩ e (fun z => nomatch z) h
  | @dT a kvs ea =>
    cases (show u = Value.ref a from rx)
    obtain ⟨_, _, xs, _, o, es, ep, h1, h2, _⟩ := (show ObjOk X.prog X.w H s.heap a (.dT kvs) from I.hok a _ ea)
    exact PySem.W.kia_one PySem.W.kitx_dict I.kIn ⟨o, h1, h2.1⟩ e (fun z => nomatch z) h
  | @ins a C dx fs ea cl ha hn htk hm =>
    cases (show u = Value.ref a from rx)
    obtain ⟨mA, O, _⟩ := ins_get I.hok ea
    obtain ⟨od, J, _⟩ := O.look
    exact PySem.W.kia_one (PySem.W.kitx_own (cl.get _) cl.hd ha hn htk hm) I.kIn J e (fun z => nomatch z) h
end
end L2

namespace L2
open PySem PySem.Spec PyProof.Rows

/-! ### room -/
structure Room (k : Nat) (A : Around) : Prop where
  hd : A.handled = none
  dp : A.depth + 3 * k + 5 < recursionLimit
  un : A.units + 16 * k + 200 < cLine
  gd : A.guards = some []
theorem Room.mono {j k : Nat} {A : Around} (r : Room k A) (h : j ≤ k) : Room j A := ⟨r.hd, by have := r.dp; omega, by have := r.un; omega, r.gd⟩
theorem Room.deeper {k : Nat} {A : Around} (r : Room (k + 1) A) (env : Env) : Room k (A.deeper env) :=
  ⟨r.hd, by have := r.dp; show A.depth + 1 + 3 * k + 5 < _; omega, by have := r.un; show A.units + 3 + 16 * k + 200 < _; omega, r.gd⟩
theorem Room.in1 {k : Nat} {A : Around} (r : Room (k + 1) A) : Room k A.in1 :=
  ⟨r.hd, by have := r.dp; show A.depth + 3 * k + 5 < _; omega, by have := r.un; show A.units + 1 + 16 * k + 200 < _; omega, r.gd⟩
theorem make_depth {A : Around} {C : Addr} {us : List Value} {kw : List (Str × Value)} : (A.under (.builtin "type.__call__" ⟨.ref C :: us, kw⟩)).depth = A.depth + 1 := by
  first | rfl | simp [Around.under, Code.weight, Code.isCreation, Code.isGuard, Code.isCaller, Code.frames, Code.isFrame, guardIds]
theorem make_units {A : Around} {C : Addr} {us : List Value} {kw : List (Str × Value)} : (A.under (.builtin "type.__call__" ⟨.ref C :: us, kw⟩)).units = A.units + 1 := by
  first | rfl | simp [Around.under, Code.cUnits, Code.frames, Code.isFrame]
theorem make_guards {A : Around} {C : Addr} {us : List Value} {kw : List (Str × Value)} : (A.under (.builtin "type.__call__" ⟨.ref C :: us, kw⟩)).guards = A.guards := by
  first | rfl | simp [Around.under, Code.isGuard, guardIds, pushGuard]
theorem Room.make {k : Nat} {A : Around} (r : Room (k + 1) A) (C : Addr) (us : List Value) (kw : List (Str × Value)) : Room k (A.under (.builtin "type.__call__" ⟨.ref C :: us, kw⟩)) :=
  ⟨r.hd, by have := r.dp; rw [make_depth]; omega, by have := r.un; rw [make_units]; omega, by rw [make_guards]; exact r.gd⟩
theorem Room.depth {k : Nat} {A : Around} (r : Room k A) : A.depth < recursionLimit := by have := r.dp; omega
theorem Room.units {k : Nat} {A : Around} (r : Room k A) : A.units + 64 < cLine := by have := r.un; omega
theorem Room.units0 {k : Nat} {A : Around} (r : Room k A) : A.units < cLine := by have := r.un; omega

/-! ### argument lists and displays -/
abbrev tNil : TA := fun _ H Q => Q [] H
abbrev tCons (ta : TE) (tr : TA) : TA := fun σ H Q => ta σ H fun x H1 => tr σ H1 fun xs H2 => Q (x :: xs) H2
section
variable {X : Cx} {e : Expr} {es : List Expr} {te : TE} {t : TA} {pos : Pos}
theorem pa_nil : PA X [] tNil := fun _ _ _ _ H Q I h => Calls.spliced_nil ⟨[], H, I, .nil, h⟩
theorem pa_cons (ha : PE X e te) (hr : PA X es t) (hs : starEach (e :: es) X.env = (false, eval e X.env) :: starEach es X.env := by rfl) : PA X (e :: es) (tCons te t) := by
  intro pos pins s σ H Q I h
  rw [hs]
  show wpAny _ _ (spliced ((false, eval e X.env) :: backTo pos (starEach es X.env))) _ _ s
  refine Calls.spliced_cons (thn (ha pins s σ H _ I h) fun u s1 ⟨x, H1, I1, r1, q1⟩ => ?_)
  exact thn (hr pos pins s1 σ H1 _ I1 q1) fun us s2 ⟨xs, H2, I2, r2, q2⟩ => ⟨x :: xs, H2, I2, .cons r1 r2, q2⟩

/-- a tuple, a list of written items -/
def tTup (t : TA) : TE := fun σ H Q => t σ H fun xs H1 => xs.length ≤ sizeLine ∧ ∀ p, H1 p = none → Q (.ref p) (upd H1 p (.tup xs))
def tLst (t : TA) : TE := fun σ H Q => t σ H fun xs H1 => xs.length ≤ sizeLine ∧ ∀ p, H1 p = none → Q (.ref p) (upd H1 p (.lst xs))
theorem pe_tup {x1} (h : PA X es t) : PE X (.Tuple es x1 pos) (tTup t) := by
  intro pins s σ H Q I hq
  refine wpAny_Tuple_spliced (thn (h pos pins s σ H _ I hq) fun us s1 ⟨xs, H1, I1, r, z, q⟩ => ⟨by rw [← r.length]; exact z, ?_⟩)
  have hf : H1 s1.heap.objs.size = none := I1.hok.fresh (Nat.le_refl _)
  refine ⟨.ref s1.heap.objs.size, upd H1 s1.heap.objs.size (.tup xs), I1.laid (t' := s1.toks) (fun b u e => Heap.get?_push_of_some _ e) (Nat.le_refl _) ?_, rfl, q _ hf⟩
  exact ⟨z, us, r, ⟨_, Heap.get?_push_size _ rfl, rfl, _, rfl⟩⟩
theorem pe_lst (h : PA X es t) : PE X (.List es pos) (tLst t) := by
  intro pins s σ H Q I hq
  refine wpAny_List_spliced (thn (h pos pins s σ H _ I hq) fun us s1 ⟨xs, H1, I1, r, z, q⟩ => ⟨by rw [← r.length]; exact z, ?_⟩)
  have hf : H1 s1.heap.objs.size = none := I1.hok.fresh (Nat.le_refl _)
  refine ⟨.ref s1.heap.objs.size, upd H1 s1.heap.objs.size (.lst xs), I1.laid (t' := s1.toks) (fun b u e => Heap.get?_push_of_some _ e) (Nat.le_refl _) ?_, rfl, q _ hf⟩
  exact ⟨z, us, 0, r, Heap.get?_push_size _ rfl⟩
end

/-! ### what a def promises -/
/-- a def's promise: the bound arguments in the parameters' order, the heap, the wanted end, the wanted exception -/
abbrev Sp := List V → Hp → VK → XK → Prop
/-- how an exception lies behind a call (file 08 gives it): the callers' frames, abstract heap and state ahead of the call, the wish, the exception, the state -/
abbrev CXT := List Env → Hp → Shared → XK → Value → Shared → Prop

/-- the state at a call -/
structure Env0 (P : Program) (w : World) (K : PySem.W.Frag) (mg : Str → Option Value) (base : Heap) (A : Around) (outer : List Env) (s : Shared) (H : Hp) : Prop where
  frames : A.frames = some outer
  mod : Mod K mg base
  bs : ∀ b o, base.get? b = some o → s.heap.get? b = some o ∧ H b = none
  bsz : base.objs.size ≤ s.heap.objs.size
  funs : s.heap.FunFrames base outer
  frf : ∀ b ∈ frs outer, H b = none
  hok : HOk P w H s.heap
  bare : AllBare s.gens
/-- a call's end -/
def CE (outer : List Env) (P : Program) (w : World) (H : Hp) (s : Shared) (Q : VK) (u : Value) (s' : Shared) : Prop :=
  ∃ v H', s'.os = s.os ∧ AllBare s'.gens ∧ Un (frs outer) [] H H' s.heap s'.heap ∧ HOk P w H' s'.heap ∧ RelV v u ∧ Q v H'
def CR (CX : CXT) (outer : List Env) (P : Program) (w : World) (H : Hp) (s : Shared) (Q : VK) (E : XK) (r : Result) (s' : Shared) : Prop :=
  match r with
  | .ok (.ret u) => CE outer P w H s Q u s'
  | .ok _ => False
  | .error e => CX outer H s E e s'
structure FnOk (P : Program) (w : World) (K : PySem.W.Frag) (mg : Str → Option Value) (base : Heap) (CX : CXT) (k : Nat) (f : Addr) (fd : FuncData) (ps : List Str) (sp : Sp) : Prop where
  len : ∀ vs H Q E, sp vs H Q E → vs.length = ps.length
  run : ∀ (A : Around) (outer : List Env) (s : Shared) (H : Hp) (args : Args) (us : List Value) (vs : List V) (Q : VK) (E : XK), Room k A → Env0 P w K mg base A outer s H → BindsTo s fd args (ps.zip us) → Vals vs us → sp vs H Q E →
    codeAny (model P w) A (.call (.ref f) args) (CR CX outer P w H s Q E) s
theorem FnOk.mono {P : Program} {w : World} {K : PySem.W.Frag} {mg : Str → Option Value} {base : Heap} {CX : CXT} {j k : Nat} {f : Addr} {fd : FuncData} {ps : List Str} {sp : Sp} (F : FnOk P w K mg base CX j f fd ps sp) (h : j ≤ k) :
    FnOk P w K mg base CX k f fd ps sp := ⟨F.len, fun A outer s H args us vs Q E hr => F.run A outer s H args us vs Q E (hr.mono h)⟩
/-- a weaker promise -/
theorem FnOk.imp {P : Program} {w : World} {K : PySem.W.Frag} {mg : Str → Option Value} {base : Heap} {CX : CXT} {k : Nat} {f : Addr} {fd : FuncData} {ps : List Str} {sp sp' : Sp} (F : FnOk P w K mg base CX k f fd ps sp)
    (h : ∀ vs H Q E, sp' vs H Q E → sp vs H Q E) : FnOk P w K mg base CX k f fd ps sp' :=
  ⟨fun vs H Q E q => F.len vs H Q E (h _ _ _ _ q), fun A outer s H args us vs Q E hr he hb hv hs => F.run A outer s H args us vs Q E hr he hb hv (h _ _ _ _ hs)⟩

theorem Env0.make {P : Program} {w : World} {K : PySem.W.Frag} {mg : Str → Option Value} {base : Heap} {A : Around} {outer : List Env} {s : Shared} {H : Hp} (e : Env0 P w K mg base A outer s H) (C : Addr) (us : List Value) (kw : List (Str × Value)) :
    Env0 P w K mg base (A.under (.builtin "type.__call__" ⟨.ref C :: us, kw⟩)) outer s H := ⟨by first | exact e.frames | (simpa [Around.under, Code.envs, Code.isFrame, pushEnvs] using e.frames), e.mod, e.bs, e.bsz, e.funs, e.frf, e.hok, e.bare⟩
theorem Env0.in1 {P : Program} {w : World} {K : PySem.W.Frag} {mg : Str → Option Value} {base : Heap} {A : Around} {outer : List Env} {s : Shared} {H : Hp} (e : Env0 P w K mg base A outer s H) :
    Env0 P w K mg base A.in1 outer s H := ⟨e.frames, e.mod, e.bs, e.bsz, e.funs, e.frf, e.hok, e.bare⟩

section
variable {X : Cx} {pins : List (Addr × Obj)} {σ : St} {H : Hp} {s s' : Shared}
/-- from a body: what a callee wants -/
theorem Inv.env0 (I : Inv X pins σ H s) : Env0 X.prog X.w X.K X.mg X.base X.A X.stack s H :=
  ⟨I.ok.frames, I.ok.mod, I.bs, Nat.le_trans I.ok.bsz I.sz, I.stack, I.stkFree, I.hok, I.bare⟩
/-- behind a call -/
theorem Inv.after {Q : VK} {u : Value} (I : Inv X pins σ H s) (h : CE X.stack X.prog X.w H s Q u s') : EP X pins σ Q u s' := by
  obtain ⟨v, H', os, bare, un, hok, r, q⟩ := h
  obtain ⟨hh, g, d, t, os'⟩ := s'
  obtain rfl : os' = s.os := os
  exact ⟨v, H', I.call (h' := hh) (g' := g) (d' := d) (t' := t) (ch := []) un hok bare (fun b z => absurd z (by simp)), r, q⟩
end

/-! ### calls -/
/-- f(..): the written arguments, then the defaults dvs; E: what is wanted of an exception -/
abbrev tCall (sp : Sp) (dvs : List V) (E : XK) (t : TA) : TE := fun σ H Q => t σ H fun vs H1 => sp (vs ++ dvs) H1 Q E
/-- o.m(..) of an instance of the class at C -/
def tMeth (C : Addr) (m : Str) (sp : Sp) (dvs : List V) (E : XK) (ta : TE) (t : TA) : TE := fun σ H Q => ta σ H fun x H1 => ∃ a dx fs, x = .ref a ∧ H1 a = some (.ins C dx fs) ∧ fs.lookup m = none ∧
  t σ H1 fun vs H2 => sp (x :: (vs ++ dvs)) H2 Q E
/-- C(..): a new instance and its dict, then __init__ -/
def tMake (C : Addr) (sp : Sp) (dvs : List V) (E : XK) (t : TA) : TE := fun σ H Q => t σ H fun vs H1 => ∀ x dx, H1 x = none → H1 dx = none → dx ≠ x →
  sp (.ref x :: (vs ++ dvs)) (upd (upd H1 dx (.own x)) x (.ins C dx [])) (fun v H2 => v = .non ∧ Q (.ref x) H2) E

/-- how the parameters are bound: us the positional arguments, kw the keywords' values by name, ds the defaults that fill up -/
def Binds (K : PySem.W.Frag) (fd : FuncData) (ps : List Str) (ds : List Value) : Prop :=
  ∀ (s : Shared) (us : List Value), K.In s.heap → (us ++ ds).length = ps.length → BindsTo s fd ⟨us, []⟩ (ps.zip (us ++ ds))
/-- every parameter is given -/
theorem Binds.all {K : PySem.W.Frag} {fd : FuncData} {ps : List Str} (h : ∀ us : List Value, us.length = ps.length → bindArgs fd ⟨us, []⟩ = pure (ps.zip us)) : Binds K fd ps [] := fun s us _ hl => by
  rw [List.append_nil] at hl ⊢
  exact .of_eq (h us hl)

/-- an exception of a callee reaches what this body wants of exceptions -/
def Passes (CX : CXT) (X : Cx) (E : XK) : Prop := ∀ (pins : List (Addr × Obj)) (σ : St) (H : Hp) (s : Shared) (e : Value) (s' : Shared), Inv X pins σ H s → CX X.stack H s E e s' → X.xe e s'

section
variable {X : Cx} {CX : CXT} {k : Nat} {f C : Addr} {fd : FuncData} {ps : List Str} {sp : Sp} {dvs : List V} {ds : List Value} {E : XK} {x m : Str} {p pos apos : Pos} {e o : Expr} {es : List Expr} {ta : TE} {t : TA}

/-- the callee runs -/
theorem run_fn {pins : List (Addr × Obj)} {σ : St} {H : Hp} {s : Shared} {Q : VK} {us : List Value} {vs : List V} (F : FnOk X.prog X.w X.K X.mg X.base CX k f fd ps sp) (hr : Room k X.A) (hb : Binds X.K fd ps ds) (hd : Vals dvs ds) (hx : Passes CX X E)
    (I : Inv X pins σ H s) (r : Vals vs us) (h : sp (vs ++ dvs) H Q E) : wpAny (model X.prog X.w) X.A (call (.ref f) us) (EP X pins σ Q) X.xe s := by
  have r2 : Vals (vs ++ dvs) (us ++ ds) := r.append hd
  have hl : (us ++ ds).length = ps.length := by rw [← r2.length]; exact F.len _ _ _ _ h
  refine wpAny_call (codeAny_mono (F.run X.A X.stack s H ⟨us, []⟩ (us ++ ds) (vs ++ dvs) Q E hr I.env0 (hb s us I.kIn hl) r2 h) fun r s' hq => ?_)
  cases r with
  | error e => exact hx pins σ H s e s' I hq
  | ok fl =>
    cases fl with
    | ret u => exact I.after hq
    | next => exact False.elim hq
    | brk => exact False.elim hq
    | cont => exact False.elim hq

theorem pe_call (F : FnOk X.prog X.w X.K X.mg X.base CX k f fd ps sp) (hr : Room k X.A) (hg : Gl X x) (hm : X.mg x = some (.ref f)) (hk : PySem.W.keepIn X.K (.ref f) = true) (hb : Binds X.K fd ps ds) (hd : Vals dvs ds) (hx : Passes CX X E)
    (ha : PA X (e :: es) t) (hdb : (x == ("__debug__" : Str)) = false := by decide) (he : starEach (e :: es) X.env = (false, eval e X.env) :: starEach es X.env := by rfl) (hpl : (backTo pos (starEach es X.env)).any (·.1) = false := by rfl) :
    PE X (.Call (.Name x p) (e :: es) [] pos) (tCall sp dvs E t) := by
  intro pins s σ H Q I h
  refine wpAny_Call_Name_kw (ld_glob I hg hm ?_ hdb)
  refine PySem.W.callWith_K (h₀ := X.base) I.ok.mod.kin hk (thn (ha pos pins s σ H _ I h) fun us s1 ⟨vs, H1, I1, r, q⟩ => ⟨I1.kIn, ?_⟩) he hpl
  exact run_fn F hr hb hd hx I1 r q
theorem pe_call0 (F : FnOk X.prog X.w X.K X.mg X.base CX k f fd ps sp) (hr : Room k X.A) (hg : Gl X x) (hm : X.mg x = some (.ref f)) (hk : PySem.W.keepIn X.K (.ref f) = true) (hb : Binds X.K fd ps ds) (hd : Vals dvs ds) (hx : Passes CX X E)
    (hdb : (x == ("__debug__" : Str)) = false := by decide) : PE X (.Call (.Name x p) [] [] pos) (tCall sp dvs E tNil) := by
  intro pins s σ H Q I h
  refine wpAny_Call_Name_kw (ld_glob I hg hm ?_ hdb)
  exact PySem.W.callWith_K0 I.kIn hk (run_fn (us := []) F hr hb hd hx I .nil h)

/-- o.m(e, ..) -/
theorem pe_meth {pl : Sem Bool} (he : PE X o ta) (c : Cls X.K C) (hm : Meth X.K C m f) (F : FnOk X.prog X.w X.K X.mg X.base CX k f fd ps sp) (hr : Room k X.A) (hb : Binds X.K fd ps ds) (hd : Vals dvs ds) (hx : Passes CX X E) (ha : PA X (e :: es) t)
    (hst : starEach (e :: es) X.env = (false, eval e X.env) :: starEach es X.env := by rfl) (hpl : (backTo pos (starEach es X.env)).any (·.1) = false := by rfl)
    (ht : eval (.Call (.Attribute o m apos) (e :: es) [] pos) X.env = (do
      let ov ← eval o X.env
      standAt apos.atName
      let (f, first) ← holding [ov] (getMethod ov m pl)
      callWith pos f first (backTo pos (starEach (e :: es) X.env)) (backToKw pos (keywordEach [] X.env))) := by rfl) :
    PE X (.Call (.Attribute o m apos) (e :: es) [] pos) (tMeth C m sp dvs E ta t) := by
  intro pins s σ H Q I h
  refine PySem.W.methodCall_KW (pl := pl) (thn (he pins s σ H _ I h) fun u s1 ⟨x, H1, I1, rx, a, dx, fs, ex, ea, l, q⟩ => ?_) ht
  subst ex
  obtain rfl : u = Value.ref a := rx
  refine getmeth_ok I1 ea c hm l ?_
  refine PySem.W.callWith_K (first := [.ref a]) (h₀ := X.base) I.ok.mod.kin hm.kp (thn (ha pos pins s1 σ H1 _ I1 q) fun us s2 ⟨vs, H2, I2, r, q2⟩ => ⟨I2.kIn, ?_⟩) hst hpl
  exact run_fn (us := .ref a :: us) (vs := .ref a :: vs) F hr hb hd hx I2 (.cons rfl r) q2
/-- o.m() -/
theorem pe_meth0 {pl : Sem Bool} (he : PE X o ta) (c : Cls X.K C) (hm : Meth X.K C m f) (F : FnOk X.prog X.w X.K X.mg X.base CX k f fd ps sp) (hr : Room k X.A) (hb : Binds X.K fd ps ds) (hd : Vals dvs ds) (hx : Passes CX X E)
    (ht : eval (.Call (.Attribute o m apos) [] [] pos) X.env = (do
      let ov ← eval o X.env
      standAt apos.atName
      let (f, first) ← holding [ov] (getMethod ov m pl)
      callWith pos f first (backTo pos (starEach [] X.env)) (backToKw pos (keywordEach [] X.env))) := by rfl) :
    PE X (.Call (.Attribute o m apos) [] [] pos) (tMeth C m sp dvs E ta tNil) := by
  intro pins s σ H Q I h
  refine PySem.W.methodCall_KW (pl := pl) (thn (he pins s σ H _ I h) fun u s1 ⟨x, H1, I1, rx, a, dx, fs, ex, ea, l, q⟩ => ?_) ht
  subst ex
  obtain rfl : u = Value.ref a := rx
  refine getmeth_ok I1 ea c hm l ?_
  exact PySem.W.callWith_K0 (first := [.ref a]) I1.kIn hm.kp (run_fn (us := [.ref a]) (vs := [.ref a]) F hr hb hd hx I1 (.cons rfl .nil) q)

/-- what a class must have to be made -/
structure Mk (K : PySem.W.Frag) (C f : Addr) : Prop where
  makes : PySem.W.makesIn K C = true
  init : PySem.W.findIn K (.ref C) "__init__" = some (some (.ref f))
  fn : PySem.W.isFn K (.ref f) = true
  kp : PySem.W.keepIn K (.ref C) = true

theorem run_make {pins : List (Addr × Obj)} {σ : St} {H : Hp} {s : Shared} {Q : VK} {us : List Value} {vs : List V} (M : Mk X.K C f) (F : FnOk X.prog X.w X.K X.mg X.base CX k f fd ps sp) (hr : Room (k + 1) X.A) (hb : Binds X.K fd ps ds) (hd : Vals dvs ds)
    (hx : Passes CX X E) (I : Inv X pins σ H s) (r : Vals vs us)
    (h : ∀ x dx, H x = none → H dx = none → dx ≠ x → sp (.ref x :: (vs ++ dvs)) (upd (upd H dx (.own x)) x (.ins C dx [])) (fun v H2 => v = .non ∧ Q (.ref x) H2) E) :
    wpAny (model X.prog X.w) X.A (call (.ref C) us) (EP X pins σ Q) X.xe s := by
  have hq := h (s.heap.objs.size + 1) s.heap.objs.size (I.hok.fresh (Nat.le_succ _)) (I.hok.fresh (Nat.le_refl _)) (Nat.ne_of_lt (Nat.lt_succ_self _))
  have I2 := Inv.made (C := C) I
  have r2 : Vals (V.ref (s.heap.objs.size + 1) :: (vs ++ dvs)) (Value.ref (s.heap.objs.size + 1) :: (us ++ ds)) := .cons rfl (r.append hd)
  have hl : (Value.ref (s.heap.objs.size + 1) :: us ++ ds).length = ps.length := by
    have e := r2.length
    rw [F.len _ _ _ _ hq] at e
    exact e.symm
  refine wpAny_call (make_map (f := f) I.kIn M.makes M.init (beq_iff_eq.mp M.fn) (codeAny_mono (F.run _ X.stack _ _ ⟨Value.ref (s.heap.objs.size + 1) :: us, []⟩ (Value.ref (s.heap.objs.size + 1) :: (us ++ ds)) _ _ E (hr.make C us [])
    (I2.env0.make C us []) (hb _ (Value.ref (s.heap.objs.size + 1) :: us) I2.kIn hl) r2 hq) fun r s' hq' => ?_))
  cases r with
  | error e => exact hx pins σ _ _ e s' I2 hq'
  | ok fl =>
    cases fl with
    | ret u =>
      obtain ⟨v, H', I3, rv, ev, q3⟩ := I2.after hq'
      subst ev
      exact ⟨rv, ⟨V.ref (s.heap.objs.size + 1), H', I3, rfl, q3⟩⟩
    | next => exact False.elim hq'
    | brk => exact False.elim hq'
    | cont => exact False.elim hq'
theorem pe_make (M : Mk X.K C f) (F : FnOk X.prog X.w X.K X.mg X.base CX k f fd ps sp) (hr : Room (k + 1) X.A) (hg : Gl X x) (hm : X.mg x = some (.ref C)) (hb : Binds X.K fd ps ds) (hd : Vals dvs ds) (hx : Passes CX X E)
    (ha : PA X (e :: es) t) (hdb : (x == ("__debug__" : Str)) = false := by decide) (he : starEach (e :: es) X.env = (false, eval e X.env) :: starEach es X.env := by rfl) (hpl : (backTo pos (starEach es X.env)).any (·.1) = false := by rfl) :
    PE X (.Call (.Name x p) (e :: es) [] pos) (tMake C sp dvs E t) := by
  intro pins s σ H Q I h
  refine wpAny_Call_Name_kw (ld_glob I hg hm ?_ hdb)
  refine PySem.W.callWith_K (h₀ := X.base) I.ok.mod.kin M.kp (thn (ha pos pins s σ H _ I h) fun us s1 ⟨vs, H1, I1, r, q⟩ => ⟨I1.kIn, ?_⟩) he hpl
  exact run_make M F hr hb hd hx I1 r q
theorem pe_make0 (M : Mk X.K C f) (F : FnOk X.prog X.w X.K X.mg X.base CX k f fd ps sp) (hr : Room (k + 1) X.A) (hg : Gl X x) (hm : X.mg x = some (.ref C)) (hb : Binds X.K fd ps ds) (hd : Vals dvs ds) (hx : Passes CX X E)
    (hdb : (x == ("__debug__" : Str)) = false := by decide) : PE X (.Call (.Name x p) [] [] pos) (tMake C sp dvs E tNil) := by
  intro pins s σ H Q I h
  refine wpAny_Call_Name_kw (ld_glob I hg hm ?_ hdb)
  exact PySem.W.callWith_K0 I.kIn M.kp (run_make (us := []) M F hr hb hd hx I .nil h)
end

/-! ### keywords -/
/-- the values of the keywords, from the left -/
def PK (X : Cx) (kws : List Keyword) (t : TA) : Prop :=
  ∀ (pos : Pos) (pins : List (Addr × Obj)) (s : Shared) (σ : St) (H : Hp) (Q : List V → Hp → Prop), Inv X pins σ H s → t σ H Q → wpAny (model X.prog X.w) X.A (evalAll ((backToKw pos (keywordEach kws X.env)).map (·.2))) (AP X pins σ Q) X.xe s
section
variable {X : Cx} {CX : CXT} {k : Nat} {f C : Addr} {fd : FuncData} {ps ks : List Str} {sp : Sp} {E : XK} {x m : Str} {p pos apos kpos : Pos} {e o : Expr} {es : List Expr} {kws : List Keyword} {te ta : TE} {t tk : TA} {nm : Option Str}
theorem pk_nil : PK X [] tNil := fun _ _ _ _ H Q I h => wpAny_evalAll_nil ⟨[], H, I, .nil, h⟩
theorem pk_cons (ha : PE X e te) (hr : PK X kws t) : PK X (⟨nm, e, kpos⟩ :: kws) (tCons te t) := by
  intro pos pins s σ H Q I h
  show wpAny _ _ (evalAll ((do let v ← eval e X.env; standAt pos; pure v) :: (backToKw pos (keywordEach kws X.env)).map (·.2))) _ _ s
  refine wpAny_evalAll_cons (wpAny_bind (thn (ha pins s σ H _ I h) fun u s1 ⟨x, H1, I1, r1, q1⟩ => wpAny_bind (wpAny_standAt (wpAny_pure ?_))))
  exact thn (hr pos pins s1 σ H1 _ I1 q1) fun us s2 ⟨xs, H2, I2, r2, q2⟩ => ⟨x :: xs, H2, I2, .cons r1 r2, q2⟩

/-- how a call with keywords binds: g puts the positional values us and the keywords' values ws (names ks) in the parameters' order, defaults among them -/
structure KBinds (K : PySem.W.Frag) (fd : FuncData) (ps ks : List Str) (g : List Value → List Value → List Value) (gV : List V → List V → List V) : Prop where
  to : ∀ (s : Shared) (us ws : List Value), K.In s.heap → (g us ws).length = ps.length → BindsTo s fd ⟨us, ks.zip ws⟩ (ps.zip (g us ws))
  rel : ∀ {vs : List V} {us : List Value} {zs : List V} {ws : List Value}, Vals vs us → Vals zs ws → Vals (gV vs zs) (g us ws)
def tCallK (sp : Sp) (gV : List V → List V → List V) (E : XK) (t tk : TA) : TE := fun σ H Q => t σ H fun vs H1 => tk σ H1 fun zs H2 => sp (gV vs zs) H2 Q E
variable {g : List Value → List Value → List Value} {gV : List V → List V → List V}
theorem run_fnk {pins : List (Addr × Obj)} {σ : St} {H : Hp} {s : Shared} {Q : VK} {us ws : List Value} {vs zs : List V} (F : FnOk X.prog X.w X.K X.mg X.base CX k f fd ps sp) (hr : Room k X.A) (hb : KBinds X.K fd ps ks g gV) (hx : Passes CX X E)
    (I : Inv X pins σ H s) (r : Vals vs us) (rz : Vals zs ws) (h : sp (gV vs zs) H Q E) : wpAny (model X.prog X.w) X.A (call (.ref f) us (ks.zip ws)) (EP X pins σ Q) X.xe s := by
  have r2 := hb.rel r rz
  have hl : (g us ws).length = ps.length := by rw [← r2.length]; exact F.len _ _ _ _ h
  refine wpAny_call (codeAny_mono (F.run X.A X.stack s H ⟨us, ks.zip ws⟩ (g us ws) (gV vs zs) Q E hr I.env0 (hb.to s us ws I.kIn hl) r2 h) fun r s' hq => ?_)
  cases r with
  | error e => exact hx pins σ H s e s' I hq
  | ok fl =>
    cases fl with
    | ret u => exact I.after hq
    | next => exact False.elim hq
    | brk => exact False.elim hq
    | cont => exact False.elim hq
/-- f(e, .., k = v, ..) -/
theorem pe_callK (F : FnOk X.prog X.w X.K X.mg X.base CX k f fd ps sp) (hr : Room k X.A) (hg : Gl X x) (hm : X.mg x = some (.ref f)) (hk : PySem.W.keepIn X.K (.ref f) = true) (hb : KBinds X.K fd ps ks g gV) (hx : Passes CX X E)
    (ha : PA X (e :: es) t) (hkw : PK X kws tk) (hall : (backToKw pos (keywordEach kws X.env)).all (·.1.isSome) = true := by rfl) (hks : (backToKw pos (keywordEach kws X.env)).filterMap (·.1) = ks := by rfl)
    (hdb : (x == ("__debug__" : Str)) = false := by decide) (he : starEach (e :: es) X.env = (false, eval e X.env) :: starEach es X.env := by rfl)
    (hpl : ((backTo pos (starEach (e :: es) X.env)).any (·.1) || (backToKw pos (keywordEach kws X.env)).any (·.1.isNone)) = false := by rfl) :
    PE X (.Call (.Name x p) (e :: es) kws pos) (tCallK sp gV E t tk) := by
  intro pins s σ H Q I h
  refine wpAny_Call_Name_kw (ld_glob I hg hm ?_ hdb)
  refine PySem.W.callWith_KW (h₀ := X.base) I.ok.mod.kin hk hall (thn (ha pos pins s σ H _ I h) fun us s1 ⟨vs, H1, I1, r, q⟩ => ?_) hpl he
  refine thn (hkw pos pins s1 σ H1 _ I1 q) fun ws s2 ⟨zs, H2, I2, rz, q2⟩ => ⟨I2.kIn, ?_⟩
  rw [hks]
  exact run_fnk F hr hb hx I2 r rz q2
end

/-! ### a def's body keeps its promise -/
/-- names: the parameters first -/
structure FnScope (N P : List Str) (sc : Scope) : Prop where
  kind : sc.kind = .function
  co : sc.isCoroutine = false
  gen : sc.isGenerator = false
  nd : N.Nodup
  pre : N.take P.length = P
  par : ∀ x ∈ P, sc.names.lookup x = some .local ∨ sc.names.lookup x = some .cell
  nofree : ∀ y ∈ sc.names, y.2 ≠ .free

theorem bindL_out {kindOf : Str → Option NameKind} {x : Str} : ∀ {binds : List (Str × Value)} {m : Str → Option Value}, (∀ v, (x, v) ∉ binds) → bindL kindOf binds m x = m x
  | [], _, _ => rfl
  | (n, v) :: r, m, h => by
    unfold bindL
    rw [bindL_out fun w hw => h w (List.mem_cons_of_mem _ hw)]
    split
    · have : x ≠ n := by rintro rfl; exact h v List.mem_cons_self
      simp [this]
    · rfl
theorem bindC_out {kindOf : Str → Option NameKind} {x : Str} : ∀ {binds : List (Str × Value)} {m : Str → Option Value}, (∀ v, (x, v) ∉ binds) → bindC kindOf binds m x = m x
  | [], _, _ => rfl
  | (n, v) :: r, m, h => by
    unfold bindC
    rw [bindC_out fun w hw => h w (List.mem_cons_of_mem _ hw)]
    split
    · rfl
    · have : x ≠ n := by rintro rfl; exact h v List.mem_cons_self
      simp [this]
theorem bindL_get {kindOf : Str → Option NameKind} {x : Str} {v : Value} : ∀ {P : List Str} {vs : List Value} {i : Nat} {m : Str → Option Value}, P.Nodup → P[i]? = some x → vs[i]? = some v → kindOf x = some .local →
    bindL kindOf (P.zip vs) m x = some v
  | [], _, _, _, _, h, _, _ => by simp at h
  | _ :: _, [], _, _, _, _, h, _ => by simp at h
  | p :: P, w :: vs, 0, m, nd, h1, h2, hk => by
    simp at h1 h2; subst h1; subst h2
    show bindL kindOf ((p, w) :: P.zip vs) m p = _
    unfold bindL
    rw [bindL_out fun v hv => (List.nodup_cons.mp nd).1 (List.of_mem_zip hv).1, if_pos hk]
    simp
  | p :: P, w :: vs, i + 1, m, nd, h1, h2, hk => by
    show bindL kindOf ((p, w) :: P.zip vs) m x = _
    unfold bindL
    exact bindL_get (i := i) (List.nodup_cons.mp nd).2 (by simpa using h1) (by simpa using h2) hk
theorem bindC_get {kindOf : Str → Option NameKind} {x : Str} {v : Value} : ∀ {P : List Str} {vs : List Value} {i : Nat} {m : Str → Option Value}, P.Nodup → P[i]? = some x → vs[i]? = some v → kindOf x ≠ some .local →
    bindC kindOf (P.zip vs) m x = some v
  | [], _, _, _, _, h, _, _ => by simp at h
  | _ :: _, [], _, _, _, _, h, _ => by simp at h
  | p :: P, w :: vs, 0, m, nd, h1, h2, hk => by
    simp at h1 h2; subst h1; subst h2
    show bindC kindOf ((p, w) :: P.zip vs) m p = _
    unfold bindC
    rw [bindC_out fun v hv => (List.nodup_cons.mp nd).1 (List.of_mem_zip hv).1, if_neg hk]
    simp
  | p :: P, w :: vs, i + 1, m, nd, h1, h2, hk => by
    show bindC kindOf ((p, w) :: P.zip vs) m x = _
    unfold bindC
    exact bindC_get (i := i) (List.nodup_cons.mp nd).2 (by simpa using h1) (by simpa using h2) hk

/-- the names' values at the entry -/
def start (N : List Str) (vs : List V) : St := vs.map some ++ List.replicate (N.length - vs.length) none

/-- the context of a def's body, at its entry; an exception leaves the frame, then lies as CX says -/
def cxOf (CX : CXT) (P : Program) (w : World) (K : PySem.W.Frag) (mg : Str → Option Value) (base : Heap) (N : List Str) (qual : Str) (scope : Scope) (f : Addr) (cd : Value) (A : Around) (outer : List Env) (s : Shared) (H : Hp) (E : XK) : Cx where
  prog := P
  w := w
  K := K
  mg := mg
  base := base
  A := A.deeper (envOfC qual scope s.heap.objs.size f cd)
  N := N
  s₀ := s
  H₀ := H
  env := envOfC qual scope s.heap.objs.size f cd
  outer := outer
  stack := envOfC qual scope s.heap.objs.size f cd :: outer
  ex := []
  calm := true
  fn := fun _ => true
  pn := []
  xe := fun e s' => wpAny (model P w) (A.deeper (envOfC qual scope s.heap.objs.size f cd)) (leaving (envOfC qual scope s.heap.objs.size f cd) e) (fun _ s'' => CX outer H s E e s'') (fun e' s'' => CX outer H s E e' s'') s'

theorem cell_has {sc : Scope} {n : Nat} {x : Str} (h : sc.names.lookup x = some .cell) : ∃ c, (cellsFrom n sc.names []).lookup x = some c := by
  have q := PySem.W.cellsFrom_some sc.names n [] (.inl h)
  exact Option.isSome_iff_exists.mp q

theorem inv_start {CX : CXT} {P : Program} {w : World} {K : PySem.W.Frag} {mg : Str → Option Value} {base : Heap} {N ps : List Str} {qual : Str} {scope : Scope} {f : Addr} {cd : Value} {A : Around} {outer : List Env} {s s1 : Shared} {H : Hp} {E : XK} {us : List Value} {vs : List V}
    (S : FnScope N ps scope) (hd : A.handled = none) (e0 : Env0 P w K mg base A outer s H) (hl : vs.length = ps.length) (r : Vals vs us)
    (x : InCallC s s.heap.objs.size (bindL (envOfC qual scope s.heap.objs.size f cd).kindOf (ps.zip us) fun _ => none) (cellsFrom (s.heap.objs.size + 1) scope.names []) (bindC (envOfC qual scope s.heap.objs.size f cd).kindOf (ps.zip us) fun _ => none) s1) :
    Inv (cxOf CX P w K mg base N qual scope f cd A outer s H E) [] (start N vs) H s1 := by
  have hpl : ps.length ≤ N.length := by have := congrArg List.length S.pre; rw [List.length_take] at this; omega
  obtain ⟨h1, tk, rfl, hk⟩ := x.done
  have noA : ∀ b : Addr, b ∉ (cxOf CX P w K mg base N qual scope f cd A outer s H E).ex := fun b z => absurd (show b ∈ ([] : List Addr) from z) (by simp)
  refine ⟨⟨e0.mod, S.kind, rfl, rfl, Nat.le_refl _, fun y z c h1 h2 => ?_, fun y hy => ?_, fun y c _ h => ?_, fun _ => hd, Around.frames_deeper e0.frames, .inr ⟨rfl, rfl⟩, fun b z => absurd z (noA b), e0.bs, e0.bsz, fun b _ _ => noA b, fun b z => absurd z (noA b), e0.funs, e0.frf⟩,
    rfl, e0.bare, Un.kept hk, ⟨_, x.toInCall.ns, fun i y v h1 h2 h3 => ?_⟩, fun y c h => ⟨_, x.cell y c h⟩, e0.hok.fresh (Nat.le_refl _), fun y c h => ?_, fun p hp => absurd (show p ∈ ([] : List (Addr × Obj)) from hp) (by simp), e0.hok.kept hk, ?_⟩
  · exact name_of_addr x.apart (PySem.mem_of_lookup h1) (PySem.mem_of_lookup h2)
  · have hy : scope.names.lookup y = some .cell ∨ scope.names.lookup y = some .free := hy
    rcases hy with hy | hy
    · exact cell_has hy
    · exact absurd rfl (S.nofree _ (PySem.mem_of_lookup hy))
  · exact Nat.le_of_lt (x.above y c (PySem.mem_of_lookup h))
  · have hi : i < vs.length := by
      unfold start at h2
      by_cases hi : i < vs.length
      · exact hi
      · rw [List.getElem?_append_right (by simpa using hi)] at h2
        rw [List.getElem?_replicate] at h2
        split at h2 <;> cases h2
    have ha : vs[i]? = some v := by
      unfold start at h2
      rw [List.getElem?_append_left (by simpa using hi), List.getElem?_map] at h2
      cases e : vs[i]? with
      | none => rw [e] at h2; cases h2
      | some a => rw [e] at h2; cases h2; rfl
    obtain ⟨u, hu, rv⟩ := r.get ha
    have hp : ps[i]? = some y := by
      rw [← S.pre, List.getElem?_take_of_lt (by omega)]; exact h1
    have ndP : ps.Nodup := by rw [← S.pre]; exact S.nd.sublist (List.take_sublist _ _)
    refine ⟨u, rv, ?_⟩
    rcases S.par y (List.mem_of_getElem? hp) with k | k
    · exact .inl ⟨k, bindL_get ndP hp hu k⟩
    · obtain ⟨c, e⟩ := cell_has (n := s.heap.objs.size + 1) k
      refine .inr ⟨.inl k, c, e, ?_⟩
      have q := x.cell y c e
      rw [bindC_get ndP hp hu (by show scope.names.lookup y ≠ _; rw [k]; decide)] at q
      exact q
  · exact e0.hok.fresh (Nat.le_of_lt (x.above y c (PySem.mem_of_lookup h)))
  · unfold start
    show _ = N.length
    rw [List.length_append, List.length_map, List.length_replicate]
    omega

/-- THE RULE: a def (or a method) of the text, by its body. The body's reading t is chosen for each entry; it is run at the parameters' values -/
theorem fn_of {CX : CXT} {P : Program} {w : World} {K : PySem.W.Frag} {mg : Str → Option Value} {base : Heap} {k : Nat} {f : Addr} {name qual : Str} {params : Arguments} {body : List Stmt} {scope : Scope} {dV kV doc pm cdv ct oc : Value} {an od : Option Addr}
    {osl : Array (Option Value)} {N ps : List Str} {sp : Sp} (lk : K.lookup f = some ⟨oc, od, .func (PySem.W.fnOf name qual params body scope dV kV doc pm an cdv ct), osl⟩) (hcd : PySem.W.codeIn K cdv qual = true) (S : FnScope N ps scope)
    (len : ∀ vs H Q E, sp vs H Q E → vs.length = ps.length)
    (hbody : ∀ (A : Around) (outer : List Env) (s : Shared) (H : Hp) (vs : List V) (Q : VK) (E : XK), Room k (A.deeper (envOfC qual scope s.heap.objs.size f cdv)) → sp vs H Q E →
      ∃ t, PSs (cxOf CX P w K mg base N qual scope f cdv A outer s H E) body t ∧ t { nx := fun _ H' => Q .non H', rt := Q } (start N vs) H) :
    FnOk P w K mg base CX (k + 1) f (PySem.W.fnOf name qual params body scope dV kV doc pm an cdv ct) ps sp := by
  refine ⟨len, fun A outer s H args us vs Q E hr e0 hb r hsp => ?_⟩
  have hl := len _ _ _ _ hsp
  have KX : K.In s.heap := e0.mod.kin.keeps fun b o e => (e0.bs b o e).1
  have lim : s.heap.NoLimit := e0.mod.nolimit.keeps fun b o e => (e0.bs b o e).1
  have hkind : ∀ y ∈ ps.zip us, scope.names.lookup y.1 = some .local ∨ (scope.names.lookup y.1 = some .cell ∧ ((cellsFrom (s.heap.objs.size + 1) scope.names []).lookup y.1).isSome = true) := fun ⟨n, v⟩ hy => by
    rcases S.par n (List.of_mem_zip hy).1 with q | q
    · exact .inl q
    · exact .inr ⟨q, PySem.W.cellsFrom_some _ _ _ (.inl q)⟩
  refine codeAny_call_function hr.depth (KX _ _ lk) rfl S.co S.gen rfl (PySem.W.codeRec_of KX hcd) (hb _ _ _ _ ?_)
  refine wpAny_newFunctionEnv_cells S.kind hkind fun env he s1 x => ?_
  subst he
  refine ⟨lim.keeps x.toInCall.keep, codeAny_func ?_⟩
  obtain ⟨t, ht, hq⟩ := hbody A outer s H vs Q E (hr.deeper _) hsp
  have I : Inv (cxOf CX P w K mg base N qual scope f cdv A outer s H E) [] (start N vs) H s1 := inv_start S hr.hd e0 hl r x
  refine wpAny_mono (ht [] s1 (start N vs) H _ I hq) (fun fl s' hs => ?_) fun e s' hs => hs
  have fin : ∀ {σ' : St} {H' : Hp} {v : V} {u : Value}, Inv (cxOf CX P w K mg base N qual scope f cdv A outer s H E) [] σ' H' s' → RelV v u → Q v H' → CE outer P w H s Q u s' :=
    fun {σ' H' v u} J rv q => ⟨v, H', J.os, J.bare, J.base, J.hok, rv, q⟩
  cases fl with
  | ret u =>
    obtain ⟨v, σ', H', J, rv, q⟩ := hs
    exact fin J rv q
  | next =>
    obtain ⟨σ', H', J, q⟩ := hs
    exact fin (v := V.non) (u := Value.none) J rfl q
  | brk =>
    obtain ⟨_, _, _, q⟩ := hs
    exact False.elim q
  | cont =>
    obtain ⟨_, _, _, q⟩ := hs
    exact False.elim q
end L2

namespace L2
open PySem PySem.Spec PyProof.Rows
section
variable {X : Cx} {x : Str} {p pos : Pos} {e : Expr} {es : List Expr} {t : TA} {id T : String} {r : List V → Hp → VK → Prop}

def tCB (r : List V → Hp → VK → Prop) (t : TA) : TE := fun σ H Q => t σ H fun vs H1 => r vs H1 Q
/-- f(e, ..), f a built-in function -/
theorem pe_callB (hc : CallR X (.builtin id) r) (hg : Gl X x) (hm : X.mg x = none) (hv : bootBuiltins x = some (.builtin id)) (ha : PA X (e :: es) t) (hn : x ≠ "__name__" := by decide) (hdb : (x == ("__debug__" : Str)) = false := by decide)
    (he : starEach (e :: es) X.env = (false, eval e X.env) :: starEach es X.env := by rfl) (hpl : (backTo pos (starEach es X.env)).any (·.1) = false := by rfl) : PE X (.Call (.Name x p) (e :: es) [] pos) (tCB r t) := by
  intro pins s σ H Q I h
  refine wpAny_Call_Name_kw (ld_blt I hg hm hv ?_ hn hdb)
  exact PyProof.Rows.callWith_builtin1 (thn (ha pos pins s σ H _ I h) fun us s1 ⟨vs, H1, I1, r1, q1⟩ => hc pins s1 σ H1 vs us Q I1 r1 q1) he hpl
/-- T(e, ..), T a built-in type -/
theorem pe_callTy (hc : CallR X (.type T) r) (hg : Gl X x) (hm : X.mg x = none) (hv : bootBuiltins x = some (.type T)) (ha : PA X (e :: es) t) (hn : x ≠ "__name__" := by decide) (hdb : (x == ("__debug__" : Str)) = false := by decide)
    (he : starEach (e :: es) X.env = (false, eval e X.env) :: starEach es X.env := by rfl) (hpl : (backTo pos (starEach es X.env)).any (·.1) = false := by rfl) : PE X (.Call (.Name x p) (e :: es) [] pos) (tCB r t) := by
  intro pins s σ H Q I h
  refine wpAny_Call_Name_kw (ld_blt I hg hm hv ?_ hn hdb)
  exact PyProof.Rows.callWith_type1 (thn (ha pos pins s σ H _ I h) fun us s1 ⟨vs, H1, I1, r1, q1⟩ => hc pins s1 σ H1 vs us Q I1 r1 q1) he hpl
/-- T() -/
theorem pe_callTy0 (hc : CallR X (.type T) r) (hg : Gl X x) (hm : X.mg x = none) (hv : bootBuiltins x = some (.type T)) (hn : x ≠ "__name__" := by decide) (hdb : (x == ("__debug__" : Str)) = false := by decide) :
    PE X (.Call (.Name x p) [] [] pos) (tCB r tNil) := by
  intro pins s σ H Q I h
  refine wpAny_Call_Name_kw (ld_blt I hg hm hv ?_ hn hdb)
  exact PyProof.Rows.callWith_type0 (hc pins s σ H [] [] Q I .nil h)
end
end L2

namespace HT
open PySem PyProof.Rows

/-- t < u of tuples of ints -/
def lexLt : List Int → List Int → Bool
  | [], [] => false
  | [], _ :: _ => true
  | _ :: _, [] => false
  | x :: xs, y :: ys => if x = y then lexLt xs ys else decide (x < y)
theorem lexLt_cons (x y : Int) (xs ys : List Int) : lexLt (x :: xs) (y :: ys) = if x = y then lexLt xs ys else decide (x < y) := rfl
theorem lexLt_nil_nil : lexLt [] [] = false := rfl
theorem lexLt_nil_cons (y : Int) (ys : List Int) : lexLt [] (y :: ys) = true := rfl
theorem lexLt_cons_nil (x : Int) (xs : List Int) : lexLt (x :: xs) [] = false := rfl

theorem eqAt_int (A : Around) (s : Shared) (a : Int) (t : Tok) (c : Int) (u : Tok) : ∃ e, SeqAt.EqAt A s (.int a t) (.int c u) e ∧ (e = true ↔ a = c) :=
  ⟨(a == c), SeqAt.EqAt.int_int a t c u, by simp⟩
theorem rcLt_int (A : Around) (s : Shared) (a : Int) (t : Tok) (c : Int) (u : Tok) (prog : Program) (w : World) (E : Value → Shared → Prop) (Q : Value → Shared → Prop) (h : Q (.bool (decide (a < c))) s) :
    wpAny (model prog w) A (richCompare .Lt (.int a t) (.int c u)) Q E s :=
  (PyProof.Rows.lt_int h : wpAny (model prog w) A (compareOp .Lt (.int a t) (.int c u)) Q E s)

section
open PySem.SeqAt
open PySem.AutoSeq1 (wpAny_loadPart')
open PySem.MeetsSeq PySem.MeetsSeq2 PySem.MeetsSeq3

theorem tuple_lt_ints (l b : Addr) (items items2 : Array Value) (n n2 : Nat) (dd dd2 : Option Addr) (sl sl2 : Array (Option Value)) (ns ms : List Int) (hi : IntsAre items.toList ns) (hj : IntsAre items2.toList ms) :
    Meets (Builtin.«tuple.__lt__» ⟨[.ref l, .ref b], []⟩)
      (fun _ R s => s.heap.get? l = some { cls := .type "tuple", dict := dd, data := .seq items n, slots := sl } ∧ s.heap.get? b = some { cls := .type "tuple", dict := dd2, data := .seq items2 n2, slots := sl2 } ∧
        R (.ok (.ret (.bool (lexLt ns ms)))) s) :=
  .of_wp fun prog w A R s h => by
    obtain ⟨hp, g, d, tk, os⟩ := s; obtain ⟨hl, hb, h⟩ := h
    have f2 := AutoSeq1.sub_tuple_tuple
    have z1 : items.size = ns.length := by rw [← hi.length]; simp
    have z2 : items2.size = ms.length := by rw [← hj.length]; simp
    wp_walk using wpAny_loadPart' hl, wpAny_loadPart' hb, wpAny_forIn_list _ (fun rest b s' => b.1 = none ∧ s' = ⟨hp, g, d, tk, os⟩ ∧ ∃ (vs ws : List Value) (ns' ms' : List Int), rest = vs.zip ws ∧
      IntsAre vs ns' ∧ IntsAre ws ms' ∧ ns'.length + items2.size = ms'.length + items.size ∧ R (.ok (.ret (.bool (lexLt ns' ms')))) ⟨hp, g, d, tk, os⟩) _
    case turn =>
      rintro ⟨y, x⟩ rest b s' ⟨hb', rfl, vs, ws, ns', ms', hz, hvi, hwi, hlen, hR⟩
      cases hvi with
      | nil => rw [List.zip_nil_left] at hz; cases hz
      | cons a t hvi' =>
        cases hwi with
        | nil => rw [List.zip_nil_right] at hz; cases hz
        | cons c u hwi' =>
          rw [List.zip_cons_cons] at hz
          injection hz with hyx hrest
          injection hyx with hy hx
          subst hy hx
          rw [lexLt_cons] at hR
          simp only [List.length_cons] at hlen
          obtain ⟨e, he, hiff⟩ := eqAt_int A.in1 ⟨hp, g, d, tk, os⟩ a t c u
          refine wpAny_bind (he prog w _ _ ?_)
          cases e with
          | true =>
            rw [if_pos (hiff.mp rfl)] at hR
            wp_walk
            exact ⟨rfl, rfl, _, _, _, _, hrest, hvi', hwi', by omega, hR⟩
          | false =>
            rw [if_neg (fun q => absurd (hiff.mpr q) Bool.false_ne_true)] at hR
            have hri := rcLt_int A.in1 ⟨hp, g, d, tk, os⟩ a t c u prog w
            wp_walk using hri
            exact ⟨_, rfl, by simpa using hR⟩
    case fin =>
      rintro ⟨b1, b2⟩ s' ⟨hb', rfl, vs, ws, ns', ms', hz, hvi, hwi, hlen, hR⟩
      simp only at hb'
      subst hb'
      have hv : lexLt ns' ms' = decide (items.size < items2.size) := by
        cases hvi with
        | nil =>
          cases hwi with
          | nil =>
            simp only [List.length_nil] at hlen
            rw [lexLt_nil_nil]
            exact (decide_eq_false (by omega)).symm
          | cons c u hw =>
            simp only [List.length_nil, List.length_cons] at hlen
            rw [lexLt_nil_cons]
            exact (decide_eq_true (by omega)).symm
        | cons a t hv =>
          cases hwi with
          | nil =>
            simp only [List.length_nil, List.length_cons] at hlen
            rw [lexLt_cons_nil]
            exact (decide_eq_false (by omega)).symm
          | cons c u hw =>
            rw [List.zip_cons_cons] at hz
            cases hz
      rw [hv] at hR
      wp_walk
      exact ⟨_, rfl, by simpa [Builtin.Tuple.tupleCompareSizes] using hR⟩
    case h =>
      exact ⟨rfl, rfl, items.toList, items2.toList, ns, ms, rfl, hi, hj, by omega, h⟩
end

section
variable {prog : Program} {w : World} {A : Around} {E : Value → Shared → Prop} {s : Shared}

theorem lt_tupInts {l b : Addr} {items items2 : Array Value} {ns ms : List Int} {Q : Value → Shared → Prop} (hl : IsTup s.heap l items) (hb : IsTup s.heap b items2) (hi : IntsAre items.toList ns) (hj : IntsAre items2.toList ms)
    (hu : A.units < cLine) (h : Q (.bool (lexLt ns ms)) s) : wpAny (model prog w) A (compareOp .Lt (.ref l) (.ref b)) Q E s := by
  obtain ⟨⟨cls, dd, data, sl⟩, ho, hc, n, hd⟩ := id hl
  obtain ⟨⟨cls2, dd2, data2, sl2⟩, ho2, hc2, n2, hd2⟩ := id hb
  simp only at hc hd hc2 hd2
  subst hc hd hc2 hd2
  exact richCompare_meets_room (op := .Lt) ⟨_, ho, rfl⟩ ⟨_, ho2, rfl⟩ PySem.F.slot_tuple_lt PySem.F.entry_tuple_lt (PySem.F.args_tuple_lt_2 _ _) (tuple_lt_ints l b items items2 n n2 dd dd2 sl sl2 ns ms hi hj)
    ⟨ho, ho2, show Value.bool (lexLt ns ms) ≠ Value.notImplemented ∧ Q (.bool (lexLt ns ms)) s from ⟨(fun x => nomatch x), h⟩⟩ hu

/-- t + u, t not empty -/
theorem cat_tup {t b : Addr} {vs ws : List Value} {Q : Value → Shared → Prop} (ht : IsTup s.heap t vs.toArray) (hb : IsTup s.heap b ws.toArray) (hv : vs ≠ [])
    (h1 : ws = [] → Q (.ref t) s) (h2 : ws ≠ [] → Q (.ref s.heap.objs.size) { s with heap := s.heap.push { cls := .type "tuple", data := .seq (vs ++ ws).toArray } })
    (hsz : vs.length + ws.length ≤ sizeLine) : wpAny (model prog w) A (binaryOp .Add (.ref t) (.ref b)) Q E s := by
  obtain ⟨⟨cls, dd, data, sl⟩, ho, hc, n, hd⟩ := id ht
  obtain ⟨⟨cls2, dd2, data2, sl2⟩, ho2, hc2, n2, hd2⟩ := id hb
  simp only at hc hd hc2 hd2
  subst hc hd hc2 hd2
  have e : vs.toArray ++ ws.toArray = (vs ++ ws).toArray := by simp
  by_cases hw : ws = []
  · exact concat_meets ⟨_, ho, rfl⟩ ⟨_, ho2, rfl⟩ noFill_tuple_add seq_tuple_add PySem.F.slot_tuple_add PySem.F.entry_tuple_add (PySem.F.args_tuple_add_2 _ _)
      (tuple_addW1 t b vs.toArray ws.toArray n n2 dd dd2 sl sl2 (by simpa using hv) (by simp [hw])) ⟨ho, ho2, h1 hw⟩
  · refine concat_meets ⟨_, ho, rfl⟩ ⟨_, ho2, rfl⟩ noFill_tuple_add seq_tuple_add PySem.F.slot_tuple_add PySem.F.entry_tuple_add (PySem.F.args_tuple_add_2 _ _)
      (tuple_addW2 t b vs.toArray ws.toArray n n2 dd dd2 sl sl2 (by simpa using hv) (by simpa using hw) (by rw [List.size_toArray, List.size_toArray]; exact hsz)) ⟨ho, ho2, ?_⟩
    rw [e]
    exact h2 hw

/-! ### t[a:b], not the whole -/
/-- a slice's bound as a place among n (d where it is left out) -/
def sIx (n d : Nat) : Option Int → Nat
  | none => d
  | some v => if v < 0 then (v + (n : Int)).toNat else min v.toNat n
theorem sIx_none (n d : Nat) : sIx n d none = d := rfl
theorem sIx_nat (n d k : Nat) : sIx n d (some (k : Int)) = min k n := by
  show (if (k : Int) < 0 then ((k : Int) + (n : Int)).toNat else min (k : Int).toNat n) = min k n
  rw [if_neg (by omega), Int.toNat_natCast]
theorem sIx_le (n d : Nat) (hd : d ≤ n) (o : Option Int) : sIx n d o ≤ n := by
  cases o with
  | none => exact hd
  | some v =>
    show (if v < 0 then (v + (n : Int)).toNat else min v.toNat n) ≤ n
    by_cases hv : v < 0
    · rw [if_pos hv]; omega
    · rw [if_neg hv]; exact Nat.min_le_right _ _
theorem clip_eq (v : Int) (n d : Nat) : (if v < 0 then max (v + (n : Int)) 0 else min v (n : Int)) = ((sIx n d (some v) : Nat) : Int) := by
  show (if v < 0 then max (v + (n : Int)) 0 else min v (n : Int)) = (((if v < 0 then (v + (n : Int)).toNat else min v.toNat n) : Nat) : Int)
  by_cases hv : v < 0
  · simp only [if_pos hv]; omega
  · simp only [if_neg hv]; omega
theorem adjust_gen (lo hi : Option Int) (n : Nat) : Builtin.Slice.sliceAdjust lo hi 1 (n : Int) = (((sIx n 0 lo : Nat) : Int), ((sIx n n hi : Nat) : Int)) := by
  have h1 : ¬ ((1 : Int) < 0) := by omega
  unfold Builtin.Slice.sliceAdjust
  simp only [h1, if_false]
  refine Prod.ext ?_ ?_
  · cases lo with
    | none => rfl
    | some v => exact clip_eq v n 0
  · cases hi with
    | none => rfl
    | some v => exact clip_eq v n n
theorem places_gen (i j : Nat) : Builtin.Slice.slicePlaces (i : Int) (j : Int) 1 = j - i := by
  unfold Builtin.Slice.slicePlaces
  have h1 : (1 : Int) > 0 := by omega
  simp only [h1, if_true, Int.ediv_one]
  split <;> omega
theorem slicePart_ {v : Value} {o : Option Int} {Q : Option Int → Shared → Prop} (p : IsPart v o) (h : Q o s) : wpAny (model prog w) A (Builtin.Slice.slicePartIndex v) Q E s := by
  cases p with
  | none => exact slicePart_none h
  | int i t => exact slicePart_int h
theorem sliceApplied_gen {sl : Addr} {vl vu : Value} {lo hi : Option Int} {n : Nat} {Q : Int × Int × Nat → Shared → Prop} (hs : s.heap.IsSliceOf sl vl vu .none) (pl : IsPart vl lo) (pu : IsPart vu hi)
    (h : Q (((sIx n 0 lo : Nat) : Int), 1, sIx n n hi - sIx n 0 lo) s) : wpAny (model prog w) A (Builtin.Slice.sliceApplied (.ref sl) (pure (n : Int))) Q E s := by
  obtain ⟨os, hos, hcs, hds⟩ := id hs
  unfold Builtin.Slice.sliceApplied Builtin.Slice.sliceFields
  refine wpAny_bind (wpAny_bind (wpAny_field hos hds (x := vl) rfl (wpAny_bind (wpAny_field hos hds (x := vu) rfl (wpAny_bind (wpAny_field hos hds (x := .none) rfl (wpAny_pure ?_)))))))
  refine wpAny_bind (slicePart_none ?_)
  show wpAny _ _ (if ((1 : Int) == 0) = true then _ else _) _ _ s
  rw [if_neg (by decide)]
  refine wpAny_bind (slicePart_ pl (wpAny_bind (slicePart_ pu (wpAny_bind (wpAny_pure ?_)))))
  show wpAny _ _ (match Builtin.Slice.sliceAdjust lo hi 1 (n : Int) with | (lo, hi) => pure (lo, (1 : Int), Builtin.Slice.slicePlaces lo hi 1)) _ _ s
  rw [adjust_gen lo hi n]
  show wpAny _ _ (pure (((sIx n 0 lo : Nat) : Int), (1 : Int), Builtin.Slice.slicePlaces ((sIx n 0 lo : Nat) : Int) ((sIx n n hi : Nat) : Int) 1)) _ _ s
  rw [places_gen]
  exact wpAny_pure h
theorem pick_gen (xs : Array Value) (i k : Nat) : ((List.range k).filterMap fun (m : Nat) => xs[((i : Int) + (m : Int) * 1).toNat]?).toArray = ((xs.toList.drop i).take k).toArray := by
  have e : (fun (m : Nat) => xs[((i : Int) + (m : Int) * 1).toNat]?) = fun m => xs[i + m]? := by
    funext m
    have : ((i : Int) + (m : Int) * 1).toNat = i + m := by omega
    rw [this]
  rw [e]
  have := pick_run xs i k
  rw [List.filterMap_map] at this
  have e2 : ((fun x => xs[x]?) ∘ fun x => i + x) = fun m => xs[i + m]? := rfl
  rw [e2] at this
  rw [this]

theorem getItem_tuple_cut {t sl : Addr} {items : Array Value} {vl vu : Value} {lo hi : Option Int} {Q : Value → Shared → Prop} (ht : IsTup s.heap t items) (hs : s.heap.IsSliceOf sl vl vu .none) (pl : IsPart vl lo) (pu : IsPart vu hi)
    (hw : ¬ (sIx items.size 0 lo = 0 ∧ sIx items.size items.size hi = items.size))
    (h : Q (.ref s.heap.objs.size) { s with heap := s.heap.push { cls := .type "tuple", data := .seq ((items.toList.drop (sIx items.size 0 lo)).take (sIx items.size items.size hi - sIx items.size 0 lo)).toArray } })
    (hsz : items.size ≤ sizeLine) : wpAny (model prog w) A (getItem (.ref t) (.ref sl)) Q E s := by
  have htake : sizeOk (.seq ((items.toList.drop (sIx items.size 0 lo)).take (sIx items.size items.size hi - sIx items.size 0 lo)).toArray) := by
    show ((items.toList.drop (sIx items.size 0 lo)).take (sIx items.size items.size hi - sIx items.size 0 lo)).toArray.size ≤ sizeLine
    rw [List.size_toArray, List.length_take, List.length_drop, Array.length_toList]
    omega
  have hj : sIx items.size items.size hi ≤ items.size := sIx_le _ _ (Nat.le_refl _) hi
  obtain ⟨os, hos, hcs, hds⟩ := id hs
  have hTs : s.TypeIs (.ref sl) "slice" := ⟨os, hos, hcs⟩
  unfold getItem
  try with_reducible refine wpAny_holding ?_
  first | refine wpAny_bind (wpAny_pure ?_) | skip
  refine wpAny_bind (wpAny_sequenceKey ht.typeIs (by decide) ?_)
  refine wpAny_bind (wpAny_callSpecial?_slot (name := Str.ofString "__getitem__") ht.typeIs PyProof.Rows.slot_tuple_getitem
    (wpAny_call_entry PyProof.Rows.slot_tuple_getitem ht.typeIs entry_tuple_getitem ?_ (args_tuple_getitem _ _)))
  show wpAny _ _ (Builtin.Tuple.tupleItemsOf (.ref t) >>= _) _ _ s
  refine wpAny_bind (tupleItemsOf_ ht ?_)
  refine wpAny_bind (wpAny_typeOf hTs ?_)
  rw [if_pos (by decide)]
  refine wpAny_bind (sliceApplied_gen hs pl pu ?_)
  have hno : ¬ ((((sIx items.size 0 lo : Nat) : Int) == 0 && (1 : Int) == 1 && (sIx items.size items.size hi - sIx items.size 0 lo) == items.size) = true) := by
    intro q
    rw [Bool.and_eq_true, Bool.and_eq_true] at q
    have q1 : ((sIx items.size 0 lo : Nat) : Int) = 0 := eq_of_beq q.1.1
    have q2 : sIx items.size items.size hi - sIx items.size 0 lo = items.size := eq_of_beq q.2
    exact hw ⟨by omega, by omega⟩
  show wpAny _ _ (if (((sIx items.size 0 lo : Nat) : Int) == 0 && (1 : Int) == 1 && (sIx items.size items.size hi - sIx items.size 0 lo) == items.size) = true then _ else _) _ _ s
  rw [if_neg hno, pick_gen]
  first
    | exact wpAny_bind (m := Builtin.Tuple.tupleExact _) (wpAny_newObj_type (wpAny_pure ⟨_, rfl, wpAny_pure h⟩) htake)
    | exact wpAny_bind (m := Builtin.Tuple.tupleExact _) (wpAny_newObj_type (wpAny_bind (wpAny_pure (wpAny_pure ⟨_, rfl, wpAny_pure h⟩))) htake)
    | exact wpAny_bind (wpAny_bind (m := Builtin.Tuple.tupleExact _) (wpAny_newObj_type (wpAny_pure (wpAny_pure ⟨_, rfl, wpAny_pure h⟩)) htake))
    | exact wpAny_bind (wpAny_bind (m := Builtin.Tuple.tupleExact _) (wpAny_newObj_type (wpAny_pure ⟨_, rfl, wpAny_pure h⟩) htake))
end
end HT

namespace L2
open PySem PySem.Spec PyProof.Rows

/-! ### the parts of a slice -/
abbrev TO := St → Hp → (Option Int → Hp → Prop) → Prop
/-- a slice's part (left out, or an int) -/
def PO (X : Cx) (e : Option Expr) (t : TO) : Prop :=
  ∀ (pins : List (Addr × Obj)) (s : Shared) (σ : St) (H : Hp) (Q : Option Int → Hp → Prop), Inv X pins σ H s → t σ H Q →
    wpAny (model X.prog X.w) X.A (evalPart e X.env) (fun u s' => ∃ o H', Inv X pins σ H' s' ∧ IsPart u o ∧ Q o H') X.xe s
def tNoPart : TO := fun _ H Q => Q none H
def tPart (t : TE) : TO := fun σ H Q => t σ H fun x H1 => ∃ i, x = .int i ∧ Q (some i) H1

theorem intsAre_of {ns : List Int} : ∀ {us : List Value}, Vals (ns.map V.int) us → IntsAre us ns := by
  induction ns with
  | nil => intro us r; rw [List.map_nil] at r; cases r; exact .nil
  | cons n ns ih =>
    intro us r
    rw [List.map_cons] at r
    cases r with
    | cons r1 r2 =>
      obtain ⟨t, e⟩ := r1
      subst e
      exact .cons n t (ih r2)

section
variable {X : Cx} {e : Expr} {te : TE} {lo hi : Option Expr} {tl th : TO} {pos p2 : Pos}

theorem po_none : PO X none tNoPart := by
  intro pins s σ H Q I h
  rw [evalPart_none]
  exact wpAny_pure ⟨none, H, I, .none, h⟩
theorem po_some (h : PE X e te) : PO X (some e) (tPart te) := by
  intro pins s σ H Q I hw
  rw [evalPart_some]
  refine thn (h pins s σ H _ I hw) fun u s1 ⟨x, H1, I1, r1, q1⟩ => ?_
  obtain ⟨i, rfl, q⟩ := q1
  obtain ⟨t, rfl⟩ := r1
  exact ⟨some i, H1, I1, .int i t, q⟩

/-- what a slice of a value is, by values: the slice object stands at sl -/
def SlR (X : Cx) (r : V → Option Int → Option Int → Hp → VK → Prop) : Prop :=
  ∀ (pins : List (Addr × Obj)) (s : Shared) (σ : St) (H : Hp) (x : V) (v vl vu : Value) (lo hi : Option Int) (sl : Addr) (Q : VK), Inv X pins σ H s → RelV x v → s.heap.IsSliceOf sl vl vu .none → IsPart vl lo → IsPart vu hi → r x lo hi H Q →
    ∃ T id, typeLookup (.type T) "__getitem__" = pure (some (.builtin id)) ∧ s.TypeIs v T ∧ wpAny (model X.prog X.w) X.A (getItem v (.ref sl)) (EP X pins σ Q) X.xe s
theorem SlR.or {r r' : V → Option Int → Option Int → Hp → VK → Prop} (h : SlR X r) (h' : SlR X r') : SlR X (fun x lo hi H Q => r x lo hi H Q ∨ r' x lo hi H Q) := by
  intro pins s σ H x v vl vu lo hi sl Q I rx hs pl pu q
  rcases q with q | q
  · exact h pins s σ H x v vl vu lo hi sl Q I rx hs pl pu q
  · exact h' pins s σ H x v vl vu lo hi sl Q I rx hs pl pu q
def tSl (r : V → Option Int → Option Int → Hp → VK → Prop) (te : TE) (tl th : TO) : TE := fun σ H Q => te σ H fun x H1 => tl σ H1 fun l H2 => th σ H2 fun u H3 => r x l u H3 Q
/-- a[lo:hi], any a -/
theorem pe_slice {r : V → Option Int → Option Int → Hp → VK → Prop} (hr : SlR X r) (he : PE X e te) (hl : PO X lo tl) (hu : PO X hi th) : PE X (.Subscript e (.Slice lo hi none p2) pos) (tSl r te tl th) := by
  intro pins s σ H Q I h
  refine Subscript_ (thn (he pins s σ H _ I h) fun v s1 ⟨x, H1, I1, r1, q1⟩ => ?_)
  refine wpAny_Slice (thn (hl pins s1 σ H1 _ I1 q1) fun vl s2 ⟨l, H2, I2, pl, q2⟩ => thn (hu pins s2 σ H2 _ I2 q2) fun vu s3 ⟨u, H3, I3, pu, q3⟩ => ?_)
  rw [evalPart_none]
  refine wpAny_pure ?_
  have I4 : Inv X pins σ H3 { s3 with heap := s3.heap.push { cls := .type "slice", data := .fields #[vl, vu, .none] } } := I3.kept (t' := s3.toks) fun b ob q => Heap.get?_push_of_some _ q
  obtain ⟨T, id, hT, ht, hg⟩ := hr pins { s3 with heap := s3.heap.push { cls := .type "slice", data := .fields #[vl, vu, .none] } } σ H3 x v vl vu l u s3.heap.objs.size Q I4 r1 (Heap.IsSliceOf.new ..) pl pu q3
  show wpAny (model X.prog X.w) X.A (subscriptTail e (.Slice lo hi none p2) v (.ref s3.heap.objs.size)) (EP X pins σ Q) X.xe { s3 with heap := s3.heap.push { cls := .type "slice", data := .fields #[vl, vu, .none] } }
  exact tail_any (ops := [.ref s3.heap.objs.size, v]) ht hT hg (by with_unfolding_all rfl)

/-- the items of xs[lo:hi] -/
def cutV (xs : List V) (lo hi : Option Int) : List V := (xs.drop (HT.sIx xs.length 0 lo)).take (HT.sIx xs.length xs.length hi - HT.sIx xs.length 0 lo)
theorem cutV_length (xs : List V) (lo hi : Option Int) : (cutV xs lo hi).length ≤ xs.length := by
  unfold cutV
  rw [List.length_take, List.length_drop]
  omega
/-- t[lo:hi], not the whole of it (the whole would be t itself) -/
def rSlT (K : PySem.W.Frag) : V → Option Int → Option Int → Hp → VK → Prop := fun x lo hi H Q => ∃ a xs, x = .ref a ∧ SqT K H a xs ∧
  ¬ (HT.sIx xs.length 0 lo = 0 ∧ HT.sIx xs.length xs.length hi = xs.length) ∧ ∀ p, H p = none → Q (.ref p) (upd H p (.tup (cutV xs lo hi)))
theorem sl_tup : SlR X (rSlT X.K) := by
  intro pins s σ H x v vl vu lo hi sl Q I rx hs pl pu h
  obtain ⟨a, xs, rfl, hx, hw, q⟩ := h
  cases rx
  obtain ⟨its, r, ht, hz⟩ := I.tuple hx
  have hlen : its.toArray.size = xs.length := by rw [List.size_toArray]; exact r.length.symm
  refine ⟨"tuple", _, PyProof.Rows.slot_tuple_getitem.lookup, ht.typeIs, ?_⟩
  refine HT.getItem_tuple_cut ht hs pl pu (by rw [hlen]; exact hw) ?_ (by rw [hlen]; exact hz)
  rw [hlen]
  refine ⟨.ref s.heap.objs.size, _, I.laid (t' := s.toks) (o := .tup (cutV xs lo hi)) (fun b ob q => Heap.get?_push_of_some _ q) (Nat.le_refl _) ?_, rfl, q _ (I.hok.fresh (Nat.le_refl _))⟩
  exact ⟨Nat.le_trans (cutV_length xs lo hi) hz, _, (r.drop (HT.sIx xs.length 0 lo)).take (HT.sIx xs.length xs.length hi - HT.sIx xs.length 0 lo), IsTup.new _ _⟩

/-! ### t < u, t + u -/
def rLtT (K : PySem.W.Frag) : R2 := fun x y H Q => ∃ a b ns ms, x = .ref a ∧ y = .ref b ∧ SqT K H a (ns.map V.int) ∧ SqT K H b (ms.map V.int) ∧ Q (.bl (HT.lexLt ns ms)) H
theorem op_ltT (hu : X.A.units < cLine) : OpR X (compareOp .Lt) (rLtT X.K) := by
  intro pins s σ H x y v u Q I rx ry h
  obtain ⟨a, b, ns, ms, rfl, rfl, ha, hb, q⟩ := h
  cases rx
  cases ry
  obtain ⟨its, r1, p1, _⟩ := I.tuple ha
  obtain ⟨its2, r2, p2, _⟩ := I.tuple hb
  have i1 : IntsAre its.toArray.toList ns := intsAre_of r1
  have i2 : IntsAre its2.toArray.toList ms := intsAre_of r2
  exact HT.lt_tupInts p1 p2 i1 i2 hu ⟨.bl (HT.lexLt ns ms), H, I, rfl, q⟩
/-- t + u, t not empty: u empty gives t itself -/
def rCatT (K : PySem.W.Frag) : R2 := fun x y H Q => ∃ a b xs ys, x = .ref a ∧ y = .ref b ∧ SqT K H a xs ∧ SqT K H b ys ∧ xs ≠ [] ∧ xs.length + ys.length ≤ sizeLine ∧
  (ys = [] → Q (.ref a) H) ∧ (ys ≠ [] → ∀ p, H p = none → Q (.ref p) (upd H p (.tup (xs ++ ys))))
theorem Vals.nil_iff {xs : List V} {us : List Value} (r : Vals xs us) : us = [] ↔ xs = [] := by
  cases r with
  | nil => simp
  | cons _ _ => simp
theorem op_catT : OpR X (binaryOp .Add) (rCatT X.K) := by
  intro pins s σ H x y v u Q I rx ry h
  obtain ⟨a, b, xs, ys, rfl, rfl, ha, hb, hx, hz, q1, q2⟩ := h
  cases rx
  cases ry
  obtain ⟨its, r1, p1, _⟩ := I.tuple ha
  obtain ⟨its2, r2, p2, _⟩ := I.tuple hb
  refine HT.cat_tup p1 p2 (fun z => hx (r1.nil_iff.mp z)) (fun z => ⟨.ref a, H, I, rfl, q1 (r2.nil_iff.mp z)⟩) (fun z => ?_) (by rw [← r1.length, ← r2.length]; exact hz)
  refine ⟨.ref s.heap.objs.size, _, I.laid (t' := s.toks) (o := .tup (xs ++ ys)) (fun b ob q => Heap.get?_push_of_some _ q) (Nat.le_refl _) ?_, rfl, q2 (fun w => z (r2.nil_iff.mpr w)) _ (I.hok.fresh (Nat.le_refl _))⟩
  exact ⟨by rw [List.length_append]; exact hz, _, r1.append r2, IsTup.new _ _⟩
/-- tuple(t) -/
theorem call_tupleT : CallR X (.type "tuple") (fun xs H Q => ∃ a ys, xs = [.ref a] ∧ SqT X.K H a ys ∧ Q (.ref a) H) := by
  intro pins s σ H xs us Q I r h
  obtain ⟨a, ys, rfl, ha, q⟩ := h
  obtain ⟨u, rfl, ru⟩ := vals1 r
  cases ru
  obtain ⟨its, _, p1, _⟩ := I.tuple ha
  exact call_tuple_same (items := its.toArray) p1 ⟨.ref a, H, I, rfl, q⟩
end
end L2

namespace L2
open PySem PySem.Spec PyProof.Rows

/-! ### places -/
/-- the place that an index of any sign means -/
def ixN (n : Nat) (i : Int) : Option Nat := if 0 ≤ i then (if i < n then some i.toNat else none) else if -(n : Int) ≤ i then some (i + n).toNat else none
def atI {α : Type} (xs : List α) (i : Int) : Option α := (ixN xs.length i).bind fun j => xs[j]?
theorem ixN_seq {n : Nat} {i : Int} {j : Nat} (h : ixN n i = some j) : seqIndex? i n = some j ∧ j < n ∧ -(n : Int) ≤ i ∧ i < n := by
  unfold ixN at h
  by_cases h0 : 0 ≤ i
  · rw [if_pos h0] at h
    by_cases h1 : i < n
    · rw [if_pos h1] at h
      have e : i.toNat = j := Option.some.inj h
      exact ⟨by rw [seqIndex_of h0 h1, e], by omega, by omega, h1⟩
    · rw [if_neg h1] at h; cases h
  · rw [if_neg h0] at h
    by_cases h1 : -(n : Int) ≤ i
    · rw [if_pos h1] at h
      have e : (i + n).toNat = j := Option.some.inj h
      exact ⟨by rw [seqIndex_neg (by omega) h1, e], by omega, h1, by omega⟩
    · rw [if_neg h1] at h; cases h
theorem atI_get {α : Type} {xs : List α} {i : Int} {v : α} (h : atI xs i = some v) : ∃ j, seqIndex? i xs.length = some j ∧ xs[j]? = some v ∧ j < xs.length ∧ -(xs.length : Int) ≤ i ∧ i < xs.length := by
  unfold atI at h
  cases e : ixN xs.length i with
  | none => rw [e] at h; cases h
  | some j =>
    rw [e] at h
    obtain ⟨h1, h2, h3, h4⟩ := ixN_seq e
    exact ⟨j, h1, h, h2, h3, h4⟩
theorem atI_nat {α : Type} {xs : List α} {j : Nat} {v : α} (h : xs[j]? = some v) : atI xs (j : Int) = some v := by
  have hj : j < xs.length := (List.getElem?_eq_some_iff.mp h).1
  have e : ixN xs.length (j : Int) = some j := by
    unfold ixN
    rw [if_pos (by omega), if_pos (by omega)]; simp
  unfold atI; rw [e]; exact h
theorem atI_last {α : Type} (xs : List α) (v : α) : atI (xs ++ [v]) (-1) = some v := by
  have hl : (xs ++ [v]).length = xs.length + 1 := by simp
  have e : ixN (xs ++ [v]).length (-1) = some xs.length := by
    unfold ixN
    rw [hl, if_neg (by decide), if_pos (by omega)]
    congr 1
    omega
  unfold atI
  rw [e]
  show (xs ++ [v])[xs.length]? = some v
  simp

/-! ### what may be subscripted -/
/-- what stands as an index of a plain subscript -/
def PlainIx (b : Expr) : Prop := ∀ o i, subscripted b false o i = operate [o, i] (getItem o i)
/-- a subscript by values -/
def IxR (X : Cx) (r : R2) : Prop :=
  ∀ (value slice : Expr) (pins : List (Addr × Obj)) (s : Shared) (σ : St) (H : Hp) (x y : V) (v u : Value) (Q : VK), Inv X pins σ H s → RelV x v → RelV y u → r x y H Q →
    subscripted slice false v u = operate [v, u] (getItem v u) → wpAny (model X.prog X.w) X.A (subscriptTail value slice v u) (EP X pins σ Q) X.xe s
/-- a call of a builtin's method by values: the receiver, the arguments -/
def MtR (X : Cx) (id : String) (r : V → List V → Hp → VK → Prop) : Prop :=
  ∀ (pins : List (Addr × Obj)) (s : Shared) (σ : St) (H : Hp) (x : V) (xs : List V) (v : Value) (us : List Value) (Q : VK), Inv X pins σ H s → RelV x v → Vals xs us → r x xs H Q →
    wpAny (model X.prog X.w) X.A (call (.builtin id) (v :: us)) (EP X pins σ Q) X.xe s
section
variable {X : Cx} {a b : Expr} {ta tb : TE} {pos : Pos}
theorem IxR.or {r r' : R2} (h : IxR X r) (h' : IxR X r') : IxR X (fun x y H Q => r x y H Q ∨ r' x y H Q) := by
  intro value slice pins s σ H x y v u Q I rx ry q hs
  rcases q with q | q
  · exact h value slice pins s σ H x y v u Q I rx ry q hs
  · exact h' value slice pins s σ H x y v u Q I rx ry q hs
theorem MtR.or {id : String} {r r' : V → List V → Hp → VK → Prop} (h : MtR X id r) (h' : MtR X id r') : MtR X id (fun x xs H Q => r x xs H Q ∨ r' x xs H Q) := by
  intro pins s σ H x xs v us Q I rx rs q
  rcases q with q | q
  · exact h pins s σ H x xs v us Q I rx rs q
  · exact h' pins s σ H x xs v us Q I rx rs q
/-- a[b] -/
theorem pe_ix {r : R2} (hr : IxR X r) (ha : PE X a ta) (hb : PE X b tb) (hs : PlainIx b) : PE X (.Subscript a b pos) (tOp r ta tb) := by
  intro pins s σ H Q I h
  exact Subscript_ (binT ha hb I h fun v u s2 x y H2 I2 rx ry q => hr a b pins s2 σ H2 x y v u Q I2 rx ry q (hs _ _))

def rIxL (K : PySem.W.Frag) : R2 := fun x y H Q => ∃ p xs i v, x = .ref p ∧ y = .int i ∧ SqL K H p xs ∧ atI xs i = some v ∧ Q v H
def rIxT (K : PySem.W.Frag) : R2 := fun x y H Q => ∃ p xs i v, x = .ref p ∧ y = .int i ∧ SqT K H p xs ∧ atI xs i = some v ∧ Q v H
def rIxS : R2 := fun x y H Q => ∃ z i c, x = .str z ∧ y = .int i ∧ z.length ≤ sizeLine ∧ atI z.cps.toList i = some c ∧ Q (.str ⟨#[c]⟩) H
theorem ix_list : IxR X (rIxL X.K) := by
  intro value slice pins s σ H x y v u Q I rx ry h hs
  obtain ⟨p, xs, i, z, rfl, rfl, hq, he, q⟩ := h
  cases rx
  obtain ⟨t, rfl⟩ := ry
  obtain ⟨its, r, pl, hz⟩ := I.list hq
  obtain ⟨j, h1, h2, h3, h4, h5⟩ := atI_get he
  obtain ⟨w, ew, rw'⟩ := r.get h2
  have hl := r.length
  have hn := line63
  have fin : EP X pins σ Q w s := ⟨z, H, I, rw', q⟩
  by_cases h0 : 0 ≤ i
  · have hj : i.toNat = j := by
      rw [seqIndex_of h0 h5] at h1
      exact Option.some.inj h1
    exact item_listR pl.isList h0 (by omega) (by rw [hj]; simpa using ew) fin hs
  · have hj : (i + (its.toArray.size : Int)).toNat = j := by
      rw [seqIndex_neg (by omega) h4] at h1
      rw [List.size_toArray, ← hl]
      exact Option.some.inj h1
    exact subscriptTail_builtinR (x := w) pl.isList.typeIs slot_list_getitem.lookup
      (wpAny_getItem_list_neg (Q := fun r s' => r = w ∧ EP X pins σ Q r s') pl.isList (by omega) (by rw [List.size_toArray] <;> omega) (by omega) (by rw [hj]; simpa using ew) ⟨rfl, fin⟩) hs
theorem ix_tup : IxR X (rIxT X.K) := by
  intro value slice pins s σ H x y v u Q I rx ry h hs
  obtain ⟨p, xs, i, z, rfl, rfl, hq, he, q⟩ := h
  cases rx
  obtain ⟨t, rfl⟩ := ry
  obtain ⟨its, r, pl, hz⟩ := I.tuple hq
  obtain ⟨j, h1, h2, h3, h4, h5⟩ := atI_get he
  obtain ⟨w, ew, rw'⟩ := r.get h2
  have hl := r.length
  have hn := line63
  have fin : EP X pins σ Q w s := ⟨z, H, I, rw', q⟩
  exact subscriptTail_builtinR (x := w) pl.typeIs slot_tuple_getitem.lookup
    (getItem_tuple (j := j) (Q := fun r s' => r = w ∧ EP X pins σ Q r s') pl (by omega) (by omega) (by rw [List.size_toArray, ← hl]; exact h1) (by simpa using ew) ⟨rfl, fin⟩) hs
theorem ix_str : IxR X rIxS := by
  intro value slice pins s σ H x y v u Q I rx ry h hs
  obtain ⟨z, i, c, rfl, rfl, hz, he, q⟩ := h
  obtain ⟨t, rfl⟩ := rx
  obtain ⟨t', rfl⟩ := ry
  obtain ⟨j, h1, h2, h3, h4, h5⟩ := atI_get he
  have hl : z.cps.toList.length = z.length := by simp [Str.length]
  rw [hl] at h1 h4 h5
  have hn := line63
  exact tail_any (typeIs_str s z t) slot_str_getitem.lookup (getItem_str (c := c) (by
    have e1 : decide (i < -(2 ^ 63 : Int)) = false := decide_eq_false (by omega)
    have e2 : decide (i ≥ 2 ^ 63) = false := decide_eq_false (by omega)
    rw [e1, e2, Bool.or_false]) (by rw [h1]; simpa using h2) ⟨.str ⟨#[c]⟩, H, I.tok _, ⟨_, rfl⟩, q⟩) hs
/-- list, tuple or str -/
def rIx (K : PySem.W.Frag) : R2 := fun x y H Q => rIxL K x y H Q ∨ rIxT K x y H Q ∨ rIxS x y H Q
theorem ix_seq : IxR X (rIx X.K) := ix_list.or (ix_tup.or ix_str)

/-! ### xs[i] = v, any sign -/
/-- the list's object behind a store -/
theorem mapSeq_set (its : List Value) (n j : Nat) (u : Value) : Obj.mapSeq (·.setIfInBounds j u) { cls := .type "list", data := .seq its.toArray n } = { cls := .type "list", data := .seq (its.set j u).toArray n } := by
  simp [Obj.mapSeq]
theorem Inv.lst {pins : List (Addr × Obj)} {σ : St} {H : Hp} {s : Shared} {p : Addr} {xs : List V} (I : Inv X pins σ H s) (h : H p = some (.lst xs)) :
    ∃ (its : List Value) (n : Nat), Vals xs its ∧ s.heap.get? p = some { cls := .type "list", data := .seq its.toArray n } ∧ xs.length ≤ sizeLine := by
  obtain ⟨z, its, n, r, e⟩ := I.hok p _ h
  exact ⟨its, n, r, e, z⟩
/-- the list at p is written by an update of its object -/
theorem Inv.lstUpd {pins : List (Addr × Obj)} {σ : St} {H : Hp} {s : Shared} {p : Addr} {xs ys : List V} {its its' : List Value} {n n' : Nat} {f : Obj → Obj} (I : Inv X pins σ H s) (h : H p = some (.lst xs))
    (ho : s.heap.get? p = some { cls := .type "list", data := .seq its.toArray n }) (hf : f { cls := .type "list", data := .seq its.toArray n } = { cls := .type "list", data := .seq its'.toArray n' }) (r : Vals ys its') (hz : ys.length ≤ sizeLine) (t : Nat) :
    Inv X pins σ (upd H p (.lst ys)) { s with heap := s.heap.update p f, toks := t } := by
  have e : (s.heap.update p f).get? p = some { cls := .type "list", data := .seq its'.toArray n' } := by
    rw [Heap.get?_update_self f ho (by rw [hf] <;> rfl), hf]
  refine I.write (x := p) (e := p) (by rw [h]; trivial) (.inl rfl) (fun b u hb q => (Heap.get?_update_other _ _ (Ne.symm hb)).trans q) ⟨_, e⟩ ?_
  exact ⟨hz, its', n', r, e⟩
def rSetL : V → V → V → Hp → (Hp → Prop) → Prop := fun o i v H Q => ∃ p xs k j, o = .ref p ∧ i = .int k ∧ H p = some (.lst xs) ∧ ixN xs.length k = some j ∧ Q (upd H p (.lst (xs.set j v)))
theorem set_list : PSet X rSetL := by
  intro pins s σ H o i v ov iv u Q I ro ri rv h
  obtain ⟨p, xs, k, j, rfl, rfl, hp, hj, q⟩ := h
  cases ro
  obtain ⟨t, rfl⟩ := ri
  obtain ⟨its, n, r, ho, hz⟩ := I.lst hp
  obtain ⟨h1, h2, h3, h4⟩ := ixN_seq hj
  have hl := r.length
  have hn := line63
  have I' : Inv X pins σ (upd H p (.lst (xs.set j v))) { s with heap := s.heap.update p (Obj.mapSeq (·.setIfInBounds j u)) } :=
    I.lstUpd hp ho (mapSeq_set its n j u) (r.set rv j) (by rw [List.length_set]; exact hz) s.toks
  by_cases h0 : 0 ≤ k
  · have hk : k.toNat = j := by
      rw [seqIndex_of h0 h4] at h1
      exact Option.some.inj h1
    exact PySem.W.ki_setAt ho h0 (by omega) (by rw [List.size_toArray, ← hl]; exact h4) (by rw [hk]; exact ⟨_, I', q⟩)
  · have hk : (k + (its.toArray.size : Int)).toNat = j := by
      rw [seqIndex_neg (by omega) h3] at h1
      rw [List.size_toArray, ← hl]
      exact Option.some.inj h1
    exact PySem.W.ki_setBack ho (by omega) (by rw [List.size_toArray, ← hl]; exact h3) (by omega) (by rw [hk]; exact ⟨_, I', q⟩)

/-! ### slices -/
theorem slice_bounds (lo hi : Option Int) (n : Nat) : (sliceBounds lo hi none n).1 = ((HT.sIx n 0 lo : Nat) : Int) ∧ (sliceBounds lo hi none n).2.1 = ((HT.sIx n n hi : Nat) : Int) ∧ (sliceBounds lo hi none n).2.2 = 1 := by
  refine ⟨?_, ?_, rfl⟩
  · cases lo with
    | none => simp [sliceBounds, HT.sIx]
    | some i =>
      simp only [sliceBounds, HT.sIx, Option.getD_none, show (1 : Int) > 0 by decide, if_true]
      by_cases h : i < 0
      · simp only [h, if_true] <;> omega
      · simp only [h, if_false] <;> omega
  · cases hi with
    | none => simp [sliceBounds, HT.sIx]
    | some i =>
      simp only [sliceBounds, HT.sIx, Option.getD_none, show (1 : Int) > 0 by decide, if_true]
      by_cases h : i < 0
      · simp only [h, if_true] <;> omega
      · simp only [h, if_false] <;> omega
theorem slicePick_cut (its : List Value) (lo hi : Option Int) : slicePick its.toArray lo hi none = ((its.drop (HT.sIx its.length 0 lo)).take (HT.sIx its.length its.length hi - HT.sIx its.length 0 lo)).toArray := by
  obtain ⟨h1, h2, h3⟩ := slice_bounds lo hi its.toArray.size
  unfold slicePick
  rw [h1, h2, h3]
  simp only [sliceRange_one, pick_run, List.size_toArray] <;> rfl
/-- xs[lo:hi] of a list: a new list -/
def rSlL (K : PySem.W.Frag) : V → Option Int → Option Int → Hp → VK → Prop := fun x lo hi H Q => ∃ a xs, x = .ref a ∧ SqL K H a xs ∧ ∀ p, H p = none → Q (.ref p) (upd H p (.lst (cutV xs lo hi)))
theorem sl_list : SlR X (rSlL X.K) := by
  intro pins s σ H x v vl vu lo hi sl Q I rx hs pl pu h
  obtain ⟨a, xs, rfl, hx, q⟩ := h
  cases rx
  obtain ⟨its, r, ht, hz⟩ := I.list hx
  have hlen := r.length
  refine ⟨"list", _, slot_list_getitem.lookup, ht.isList.typeIs, ?_⟩
  refine wpAny_getItem_list_slice ht.isList hs pl pu .none (by simp) ?_ (by rw [List.size_toArray] <;> omega)
  rw [slicePick_cut, ← hlen]
  refine ⟨.ref s.heap.objs.size, _, I.laid (t' := s.toks) (o := .lst (cutV xs lo hi)) (fun b ob q => Heap.get?_push_of_some _ q) (Nat.le_refl _) ?_, rfl, q _ (I.hok.fresh (Nat.le_refl _))⟩
  exact ⟨Nat.le_trans (cutV_length xs lo hi) hz, _, 0, (r.drop (HT.sIx xs.length 0 lo)).take (HT.sIx xs.length xs.length hi - HT.sIx xs.length 0 lo), Heap.get?_push_size _ rfl⟩

/-! ### in, not in: flat items -/
def flatV : V → Bool
  | .non => true
  | .bl _ => true
  | .int _ => true
  | .str _ => true
  | _ => false
/-- == of flat values -/
def eqV : V → V → Bool
  | .non, .non => true
  | .bl a, .bl b => a == b
  | .bl a, .int b => (if a then 1 else 0) == b
  | .int a, .bl b => a == (if b then 1 else 0)
  | .int a, .int b => a == b
  | .str a, .str b => a == b
  | _, _ => false
theorem eqAt_V {A : Around} {s : Shared} {y x : V} {u v : Value} (ry : RelV y u) (rx : RelV x v) (fy : flatV y = true) (fx : flatV x = true) : SeqAt.EqAt A s u v (eqV y x) := by
  cases y with
  | non =>
    cases ry
    cases x with
    | non => cases rx; exact SeqAt.EqAt.same _
    | bl b => cases rx; exact SeqAt.EqAt.none_bool b
    | int b => obtain ⟨t, rfl⟩ := rx; exact SeqAt.EqAt.none_int b t
    | str b => obtain ⟨t, rfl⟩ := rx; exact SeqAt.EqAt.none_str b t
    | _ => exact absurd (show false = true from fx) Bool.false_ne_true
  | bl a =>
    cases ry
    cases x with
    | non => cases rx; exact SeqAt.EqAt.bool_none a
    | bl b => cases rx; exact SeqAt.EqAt.bool_bool a b
    | int b => obtain ⟨t, rfl⟩ := rx; exact SeqAt.EqAt.bool_int a b t
    | str b => obtain ⟨t, rfl⟩ := rx; exact SeqAt.EqAt.bool_str a b t
    | _ => exact absurd (show false = true from fx) Bool.false_ne_true
  | int a =>
    obtain ⟨t', rfl⟩ := ry
    cases x with
    | non => cases rx; exact SeqAt.EqAt.int_none a t'
    | bl b => cases rx; exact SeqAt.EqAt.int_bool a t' b
    | int b => obtain ⟨t, rfl⟩ := rx; exact SeqAt.EqAt.int_int a t' b t
    | str b => obtain ⟨t, rfl⟩ := rx; exact SeqAt.EqAt.int_str a t' b t
    | _ => exact absurd (show false = true from fx) Bool.false_ne_true
  | str a =>
    obtain ⟨t', rfl⟩ := ry
    cases x with
    | non => cases rx; exact SeqAt.EqAt.str_none a t'
    | bl b => cases rx; exact SeqAt.EqAt.str_bool a t' b
    | int b => obtain ⟨t, rfl⟩ := rx; exact SeqAt.EqAt.str_int a t' b t
    | str b => obtain ⟨t, rfl⟩ := rx; exact SeqAt.EqAt.str_str a t' b t
    | _ => exact absurd (show false = true from fx) Bool.false_ne_true
  | _ => exact absurd (show false = true from fy) Bool.false_ne_true
/-- the items' answers, read off the values (a value's own answer does not lean on its token) -/
def eqU (x : V) (u : Value) : Bool := match u with
  | .none => eqV .non x
  | .bool b => eqV (.bl b) x
  | .int i _ => eqV (.int i) x
  | .str z _ => eqV (.str z) x
  | _ => false
theorem eqU_of {x y : V} {u : Value} (r : RelV y u) (f : flatV y = true) : eqU x u = eqV y x := by
  cases y with
  | non => cases r; rfl
  | bl b => cases r; rfl
  | int i => obtain ⟨t, rfl⟩ := r; rfl
  | str z => obtain ⟨t, rfl⟩ := r; rfl
  | _ => exact absurd (show false = true from f) Bool.false_ne_true
theorem any_eqU {x : V} : ∀ {xs : List V} {us : List Value}, Vals xs us → xs.all flatV = true → us.any (eqU x) = xs.any fun y => eqV y x
  | _, _, .nil, _ => rfl
  | y :: xs, u :: us, .cons r t, f => by
    rw [List.all_cons, Bool.and_eq_true] at f
    rw [List.any_cons, List.any_cons, eqU_of r f.1, any_eqU t f.2]
theorem mem_eqAt {A : Around} {s : Shared} {x : V} {v : Value} (rx : RelV x v) (fx : flatV x = true) : ∀ {xs : List V} {us : List Value}, Vals xs us → xs.all flatV = true → ∀ u ∈ us, SeqAt.EqAt A s u v (eqU x u)
  | _, _, .nil, _ => fun u hu => by cases hu
  | y :: xs, u :: us, .cons r t, f => fun u' hu => by
    rw [List.all_cons, Bool.and_eq_true] at f
    rcases List.mem_cons.mp hu with rfl | hu
    · rw [eqU_of r f.1]; exact eqAt_V r rx f.1 fx
    · exact mem_eqAt rx fx t f.2 u' hu
def inV (x : V) (xs : List V) : Bool := xs.any fun y => eqV y x
/-- x in a list or tuple of flat items -/
def rIn (K : PySem.W.Frag) (neg : Bool) : R2 := fun x y H Q => ∃ p xs, y = .ref p ∧ (SqL K H p xs ∨ SqT K H p xs) ∧ flatV x = true ∧ xs.all flatV = true ∧ Q (.bl (if neg then !inV x xs else inV x xs)) H
theorem op_in_seq : OpR X (compareOp .In) (rIn X.K false) := by
  intro pins s σ H x y v u Q I rx ry h
  obtain ⟨p, xs, rfl, hq, fx, fs, q⟩ := h
  cases ry
  rcases hq with hq | hq
  · obtain ⟨its, r, pl, hz⟩ := I.list hq
    refine SeqAt.in_listAt (eqU x) pl.isList (fun w hw => mem_eqAt rx fx r fs w (by simpa using hw)) ⟨.bl _, H, I, rfl, ?_⟩
    rw [show its.toArray.any (eqU x) = its.any (eqU x) by simp, any_eqU r fs]
    exact q
  · obtain ⟨its, r, pl, hz⟩ := I.tuple hq
    refine SeqAt.in_tupleAt (eqU x) pl (fun w hw => mem_eqAt rx fx r fs w (by simpa using hw)) ⟨.bl _, H, I, rfl, ?_⟩
    rw [show its.toArray.any (eqU x) = its.any (eqU x) by simp, any_eqU r fs]
    exact q
theorem op_notIn_seq : OpR X (compareOp .NotIn) (rIn X.K true) := by
  intro pins s σ H x y v u Q I rx ry h
  obtain ⟨p, xs, rfl, hq, fx, fs, q⟩ := h
  cases ry
  rcases hq with hq | hq
  · obtain ⟨its, r, pl, hz⟩ := I.list hq
    refine SeqAt.notIn_listAt (eqU x) pl.isList (fun w hw => mem_eqAt rx fx r fs w (by simpa using hw)) ⟨.bl _, H, I, rfl, ?_⟩
    rw [show its.toArray.any (eqU x) = its.any (eqU x) by simp, any_eqU r fs]
    exact q
  · obtain ⟨its, r, pl, hz⟩ := I.tuple hq
    refine SeqAt.notIn_tupleAt (eqU x) pl (fun w hw => mem_eqAt rx fx r fs w (by simpa using hw)) ⟨.bl _, H, I, rfl, ?_⟩
    rw [show its.toArray.any (eqU x) = its.any (eqU x) by simp, any_eqU r fs]
    exact q
theorem op_notIn_str : OpR X (compareOp .NotIn) (fun x y H Q => ∃ i j, x = .str i ∧ y = .str j ∧ Q (.bl (!(!(Builtin.Str.occurrences j i 0 j.length 1).isEmpty))) H) := by
  intro pins s σ H x y v u Q I rx ry h
  obtain ⟨i, j, rfl, rfl, q⟩ := h
  obtain ⟨t, rfl⟩ := rx
  obtain ⟨t', rfl⟩ := ry
  exact notIn_str ⟨.bl _, H, I, rfl, q⟩

/-! ### len, list(x), tuple(x) of any list or tuple that is read -/
theorem call_len_seq : CallR X (.builtin "len") (fun xs H Q => ∃ p ys, xs = [.ref p] ∧ (SqL X.K H p ys ∨ SqT X.K H p ys) ∧ Q (.int ys.length) H) := by
  intro pins s σ H xs us Q I r h
  obtain ⟨p, ys, rfl, hq, q⟩ := h
  obtain ⟨u, rfl, rx⟩ := vals1 r
  cases rx
  have hn := line63
  rcases hq with hq | hq
  · obtain ⟨its, r', pl, hz⟩ := I.list hq
    have hlen := r'.length
    exact Calls.call_len_list pl.isList (by simp only [List.size_toArray] <;> omega) ⟨.int ys.length, H, I.tok _, ⟨s.toks + 1, by rw [List.size_toArray, hlen]⟩, q⟩
  · obtain ⟨its, r', pl, hz⟩ := I.tuple hq
    have hlen := r'.length
    exact len_tuple pl (by simp only [List.size_toArray] <;> omega) ⟨.int ys.length, H, I.tok _, ⟨s.toks + 1, by rw [List.size_toArray, hlen]⟩, q⟩
theorem call_len_str : CallR X (.builtin "len") (fun xs H Q => ∃ z, xs = [.str z] ∧ z.length ≤ sizeLine ∧ Q (.int z.length) H) := by
  intro pins s σ H xs us Q I r h
  obtain ⟨z, rfl, hz, q⟩ := h
  obtain ⟨u, rfl, t, rfl⟩ := vals1 r
  have hn := line63
  exact len_str (by omega) ⟨.int z.length, H, I.tok _, ⟨_, rfl⟩, q⟩
theorem CallR.or {f : Value} {r r' : List V → Hp → VK → Prop} (h : CallR X f r) (h' : CallR X f r') : CallR X f (fun xs H Q => r xs H Q ∨ r' xs H Q) := by
  intro pins s σ H xs us Q I rs q
  rcases q with q | q
  · exact h pins s σ H xs us Q I rs q
  · exact h' pins s σ H xs us Q I rs q
theorem call_list_of : CallR X (.type "list") (fun xs H Q => ∃ p ys, xs = [.ref p] ∧ (SqL X.K H p ys ∨ SqT X.K H p ys) ∧ ∀ l, H l = none → Q (.ref l) (upd H l (.lst ys))) := by
  intro pins s σ H xs us Q I r h
  obtain ⟨p, ys, rfl, hq, q⟩ := h
  obtain ⟨u, rfl, rx⟩ := vals1 r
  cases rx
  have fin : ∀ (its : List Value), Vals ys its → ys.length ≤ sizeLine → ∀ (h' : Heap) (c' : Nat), (∀ b o', s.heap.get? b = some o' → h'.get? b = some o') →
      h'.get? s.heap.objs.size = some { cls := .type "list", dict := none, data := .seq its.toArray c', slots := #[] } → EP X pins σ Q (.ref s.heap.objs.size) { s with heap := h' } := fun its r' hz h' c' kp e =>
    ⟨.ref s.heap.objs.size, _, I.laid (t' := s.toks) kp (Nat.le_refl _) (show ObjOk X.prog X.w _ h' _ (.lst ys) from ⟨hz, its, c', r', e⟩), rfl, q _ (I.hok.fresh (Nat.le_refl _))⟩
  rcases hq with hq | hq
  · obtain ⟨its, r', pl, hz⟩ := I.list hq
    have hlen := r'.length
    obtain ⟨o, ho, hc, n, hd⟩ := pl.isList
    exact call_list_seq p (.inl rfl) ho hc hd (fun h' c' kp e => fin its r' hz h' c' kp e) (by simp only [List.size_toArray] <;> omega)
  · obtain ⟨its, r', pl, hz⟩ := I.tuple hq
    have hlen := r'.length
    obtain ⟨o, ho, hc, n, hd⟩ := pl
    exact call_list_seq p (.inr rfl) ho hc hd (fun h' c' kp e => fin its r' hz h' c' kp e) (by simp only [List.size_toArray] <;> omega)
theorem call_tuple_of : CallR X (.type "tuple") (fun xs H Q => ∃ p ys, xs = [.ref p] ∧ ((SqL X.K H p ys ∧ ∀ l, H l = none → Q (.ref l) (upd H l (.tup ys))) ∨ (SqT X.K H p ys ∧ Q (.ref p) H))) := by
  intro pins s σ H xs us Q I r h
  obtain ⟨p, ys, rfl, h⟩ := h
  obtain ⟨u, rfl, rx⟩ := vals1 r
  cases rx
  rcases h with ⟨hq, q⟩ | ⟨hq, q⟩
  · obtain ⟨its, r', pl, hz⟩ := I.list hq
    have hlen := r'.length
    refine call_tuple_list pl.isList (fun h' kp => ?_) (by simp only [List.size_toArray] <;> omega)
    have I1 : Inv X pins σ H { s with heap := h' } := I.kept (t' := s.toks) kp
    have I2 : Inv X pins σ (upd H h'.objs.size (.tup ys)) { s with heap := h'.push { cls := .type "tuple", data := .seq its.toArray } } :=
      I1.laid (t' := s.toks) (fun b o e => Heap.get?_push_of_some _ e) (Nat.le_refl _) (show ObjOk X.prog X.w _ _ _ (.tup ys) from ⟨hz, its, r', IsTup.new _ _⟩)
    exact ⟨.ref h'.objs.size, _, I2, rfl, q _ (I1.hok.fresh (Nat.le_refl _))⟩
  · obtain ⟨its, r', pl, hz⟩ := I.tuple hq
    exact call_tuple_same pl ⟨.ref p, H, I, rfl, q⟩

/-! ### the call of a builtin's method: o.m(..) -/
/-- the value is of that builtin type -/
def tyV (K : PySem.W.Frag) (T : String) (x : V) (H : Hp) : Prop := match x with
  | .str _ => T = "str"
  | .int _ => T = "int"
  | .ref p => (T = "list" ∧ ∃ xs, SqL K H p xs) ∨ (T = "tuple" ∧ ∃ o, K.lookup p = some o ∧ o.cls = .type "tuple" ∧ o.dict = none) ∨
      (T = "dict" ∧ ((∃ kvs, H p = some (.dK kvs)) ∨ ∃ kvs, H p = some (.dT kvs))) ∨ (T = "set" ∧ ∃ S n, H p = some (.set S n))
  | _ => False
theorem tyV_is {pins : List (Addr × Obj)} {σ : St} {H : Hp} {s : Shared} {T : String} {x : V} {v : Value} (I : Inv X pins σ H s) (r : RelV x v) (ty : tyV X.K T x H) :
    s.TypeIs v T ∧ ∀ a, v = .ref a → ∃ ob, s.heap.get? a = some ob ∧ ob.dict = none := by
  cases x with
  | str z =>
    obtain ⟨t, rfl⟩ := r
    cases (show T = "str" from ty)
    exact ⟨typeIs_str s z t, fun _ e => nomatch e⟩
  | int i =>
    obtain ⟨t, rfl⟩ := r
    cases (show T = "int" from ty)
    exact ⟨typeIs_int s i t, fun _ e => nomatch e⟩
  | ref p =>
    cases r
    rcases ty with ⟨rfl, xs, hq⟩ | ⟨rfl, o, hk, hc, hd⟩ | ⟨rfl, hk⟩ | ⟨rfl, S, n, hk⟩
    · obtain ⟨its, _, pl, _⟩ := I.list hq
      refine ⟨pl.isList.typeIs, fun a e => ?_⟩
      cases e
      obtain ⟨o, n, e, c, hd, _⟩ := pl
      exact ⟨o, e, hd⟩
    · refine ⟨⟨o, I.kIn p o hk, hc⟩, fun a e => ?_⟩
      cases e
      exact ⟨o, I.kIn _ o hk, hd⟩
    · have z : ∃ o, s.heap.get? p = some o ∧ o.ExactDict := by
        rcases hk with ⟨kvs, hk⟩ | ⟨kvs, hk⟩
        · obtain ⟨_, _, _, _, o, _, _, e, ex, _⟩ := I.hok p _ hk
          exact ⟨o, e, ex⟩
        · obtain ⟨_, _, _, _, o, _, _, e, ex, _⟩ := I.hok p _ hk
          exact ⟨o, e, ex⟩
      obtain ⟨o, e, ex⟩ := z
      refine ⟨⟨o, e, ex.1⟩, fun a e2 => ?_⟩
      cases e2
      exact ⟨o, e, ex.2.1⟩
    · obtain ⟨o, _, _, _, e, ex, _⟩ := I.hok p _ hk
      refine ⟨⟨o, e, ex.1⟩, fun a e2 => ?_⟩
      cases e2
      exact ⟨o, e, ex.2.1⟩
  | _ => exact False.elim ty
def tBM0 (K : PySem.W.Frag) (T : String) (r : V → List V → Hp → VK → Prop) (to : TE) : TE := fun σ H Q => to σ H fun x H1 => tyV K T x H1 ∧ r x [] H1 Q
def tBM (K : PySem.W.Frag) (T : String) (r : V → List V → Hp → VK → Prop) (to : TE) (t : TA) : TE := fun σ H Q => to σ H fun x H1 => tyV K T x H1 ∧ t σ H1 fun xs H2 => r x xs H2 Q
variable {o e : Expr} {es : List Expr} {to : TE} {t : TA} {name : Str} {apos cpos : Pos} {T id : String} {r : V → List V → Hp → VK → Prop}
theorem pe_bm0 (pa : PlainAttrs T) (slot : Slot T name id) (hty : typeOf (.builtin id) = pure (.type "method_descriptor")) (hm : MtR X id r) (ho : PE X o to)
    (hbase : attributeBase o name X.env (eval o X.env) = eval o X.env := by rfl) (hline : (apos.endLine == cpos.line) = true := by rfl) : PE X (.Call (.Attribute o name apos) [] [] cpos) (tBM0 X.K T r to) := by
  intro pins s σ H Q I h
  refine wpAny_Call_method0_late hbase hline (thn (ho pins s σ H _ I h) fun v s1 ⟨x, H1, I1, r1, ty, q1⟩ => ?_)
  obtain ⟨h1, h2⟩ := tyV_is I1 r1 ty
  exact ⟨T, id, pa, slot, hty, h1, h2, Calls.callWith_builtin rfl (PySem.evalArgs_none (hm pins s1 σ H1 x [] v [] Q I1 r1 .nil q1))⟩
theorem pe_bm (pa : PlainAttrs T) (slot : Slot T name id) (hty : typeOf (.builtin id) = pure (.type "method_descriptor")) (hm : MtR X id r) (ho : PE X o to) (ha : PA X (e :: es) t)
    (hbase : attributeBase o name X.env (eval o X.env) = eval o X.env := by rfl)
    (hfew : ((backTo cpos (starEach (e :: es) X.env)).all (fun x => !x.1) && (backToKw cpos (keywordEach [] X.env)).all (fun x => x.1.isSome)
      && decide ((e :: es).length + ([] : List Keyword).length + (if ([] : List Keyword).isEmpty then 0 else 1) < 30)) = true := by rfl)
    (hline : (apos.endLine == cpos.line) = true := by rfl) (hs : starEach (e :: es) X.env = (false, eval e X.env) :: starEach es X.env := by rfl) (hplain : (backTo cpos (starEach es X.env)).any (·.1) = false := by rfl) :
    PE X (.Call (.Attribute o name apos) (e :: es) [] cpos) (tBM X.K T r to t) := by
  intro pins s σ H Q I h
  refine wpAny_Call_method_late hbase hfew hline rfl (thn (ho pins s σ H _ I h) fun v s1 ⟨x, H1, I1, r1, ty, q1⟩ => ?_)
  obtain ⟨h1, h2⟩ := tyV_is I1 r1 ty
  refine ⟨T, id, pa, slot, hty, h1, h2, ?_⟩
  have hA := ha cpos pins s1 σ H1 _ I1 q1
  rw [hs] at hA ⊢
  refine Calls.callWith_builtin (by show (false || (backTo cpos (starEach es X.env)).any (·.1)) = false; rw [hplain] <;> rfl) (Calls.evalArgs_plain ?_)
  exact thn hA fun us s2 ⟨vs, H2, I2, r2, q2⟩ => hm pins s2 σ H2 x vs v us Q I2 r1 r2 q2
/- xs.append(e), list.index on a module's tuple .. are MtR facts of 06m -/
end
end L2

namespace L2
open PySem PySem.Spec PyProof.Rows

def MtM (X : Cx) (id : String) (r : V → List V → Hp → VK → Prop) : Prop :=
  ∀ (pins : List (Addr × Obj)) (s : Shared) (σ : St) (H : Hp) (x : V) (xs : List V) (v : Value) (us : List Value) (Q : VK), Inv X pins σ H s → RelV x v → Vals xs us → r x xs H Q →
    wpAny (model X.prog X.w) X.A (call (.builtin id) (v :: us)) (EP X pins σ Q) X.xe s

/-! ### lists of values -/
theorem Vals.one : ∀ {x : V} {us : List Value}, Vals [x] us → ∃ u, us = [u] ∧ RelV x u
  | _, _, .cons r .nil => ⟨_, rfl, r⟩
theorem Vals.two : ∀ {x y : V} {us : List Value}, Vals [x, y] us → ∃ u v, us = [u, v] ∧ RelV x u ∧ RelV y v
  | _, _, _, .cons r (.cons q .nil) => ⟨_, _, rfl, r, q⟩
theorem Vals.zero : ∀ {us : List Value}, Vals [] us → us = []
  | _, .nil => rfl
theorem Vals.dropLast {xs : List V} {us : List Value} (h : Vals xs us) : Vals xs.dropLast us.dropLast := by
  induction h with
  | nil => exact .nil
  | cons r t ih =>
    cases t with
    | nil => exact .nil
    | cons q t' => exact .cons r ih
theorem Vals.eraseIdx : ∀ {xs : List V} {us : List Value} (i : Nat), Vals xs us → Vals (xs.eraseIdx i) (us.eraseIdx i)
  | _, _, _, .nil => .nil
  | _, _, 0, .cons _ t => t
  | _, _, i + 1, .cons r t => .cons r (Vals.eraseIdx i t)
theorem Vals.reverse {xs : List V} {us : List Value} (h : Vals xs us) : Vals xs.reverse us.reverse := by
  induction h with
  | nil => exact .nil
  | cons r t ih => rw [List.reverse_cons, List.reverse_cons]; exact Vals.append ih (.cons r .nil)
theorem Vals.rep {xs : List V} {us : List Value} (h : Vals xs us) : ∀ k : Nat, Vals (List.replicate k xs).flatten (List.replicate k us).flatten
  | 0 => .nil
  | k + 1 => by
    rw [List.replicate_succ, List.replicate_succ, List.flatten_cons, List.flatten_cons]
    exact Vals.append h (Vals.rep h k)
theorem erase_last {α : Type} (l : List α) : l.eraseIdx (l.length - 1) = l.dropLast := by
  induction l with
  | nil => rfl
  | cons a r ih =>
    cases r with
    | nil => rfl
    | cons b r =>
      have e : (a :: b :: r).length - 1 = ((b :: r).length - 1) + 1 := by
        have h1 : (a :: b :: r).length = r.length + 2 := rfl
        have h2 : (b :: r).length = r.length + 1 := rfl
        omega
      rw [e, List.eraseIdx_cons_succ, ih]
      all_goals rfl
theorem len_erase {α : Type} : ∀ (l : List α) (i : Nat), (l.eraseIdx i).length ≤ l.length
  | [], _ => Nat.le_refl _
  | _ :: _, 0 => Nat.le_succ _
  | _ :: r, i + 1 => Nat.succ_le_succ (len_erase r i)
theorem foldl_rep (its : List Value) : ∀ (k : Nat) (acc : List Value),
    List.foldl (fun x1 x2 => x1 ++ x2) acc.toArray (List.replicate k its.toArray) = (acc ++ (List.replicate k its).flatten).toArray
  | 0, acc => by simp
  | k + 1, acc => by
    have e : acc.toArray ++ its.toArray = (acc ++ its).toArray := by simp
    have e2 : (acc ++ its) ++ (List.replicate k its).flatten = acc ++ (List.replicate (k + 1) its).flatten := by
      rw [List.replicate_succ, List.flatten_cons, List.append_assoc]
    rw [← e2, ← foldl_rep its k (acc ++ its), ← e, List.replicate_succ, List.foldl_cons]

section
variable {X : Cx} {pins : List (Addr × Obj)} {σ : St} {H : Hp} {s : Shared} {l b : Addr} {xs ys zs : List V}

/-! ### the two steps: a tracked list is rewritten, a new list is laid -/
theorem Inv.lset {its its' : List Value} {n : Nat} {f : Array Value → Array Value} {t' : Nat} (I : Inv X pins σ H s) (hH : H l = some (.lst xs))
    (e : s.heap.get? l = some { cls := .type "list", data := .seq its.toArray n }) (hf : f its.toArray = its'.toArray) (hv : Vals ys its') (hz : ys.length ≤ sizeLine) :
    Inv X pins σ (upd H l (.lst ys)) { s with heap := s.heap.update l (Obj.mapSeq f), toks := t' } := by
  have q := PySem.IsL.update e f
  rw [hf] at q
  refine I.write (x := l) (e := l) (by rw [hH]; exact trivial) (.inl rfl) (fun b' u hb hu => (Heap.get?_update_other s.heap (Obj.mapSeq f) (Ne.symm hb)).trans hu) ⟨_, q⟩ ?_
  exact ⟨hz, its', _, hv, q⟩
theorem Inv.lnew {its : List Value} {t' : Nat} (I : Inv X pins σ H s) (hv : Vals ys its) (hz : ys.length ≤ sizeLine) :
    Inv X pins σ (upd H s.heap.objs.size (.lst ys)) { s with heap := s.heap.push { cls := .type "list", data := .seq its.toArray }, toks := t' } :=
  I.laid (fun _ _ q => Heap.get?_push_of_some _ q) (Nat.le_refl _) ⟨hz, its, 0, hv, Heap.get?_push_size _ rfl⟩
theorem Inv.fresh (I : Inv X pins σ H s) : H s.heap.objs.size = none := I.hok.fresh (Nat.le_refl _)
theorem Inv.lstM (I : Inv X pins σ H s) (hH : H l = some (.lst xs)) : xs.length ≤ sizeLine ∧ ∃ (its : List Value) (n : Nat), Vals xs its ∧ xs.length = its.length ∧ s.heap.get? l = some { cls := .type "list", data := .seq its.toArray n } := by
  obtain ⟨z, its, n, r, e⟩ := I.hok l _ hH
  exact ⟨z, its, n, r, r.length, e⟩

theorem notLongL {n : Nat} (h : n ≤ sizeLine) : Builtin.List.listTooLong n = false := by
  unfold Builtin.List.listTooLong
  exact decide_eq_false (by omega)
end

section
variable {X : Cx}

/-! ### methods -/
def rAppend : V → List V → Hp → VK → Prop := fun x vs H Q => ∃ l xs y, x = .ref l ∧ vs = [y] ∧ H l = some (.lst xs) ∧ xs.length < sizeLine ∧ Q .non (upd H l (.lst (xs ++ [y])))
theorem mt_append : MtM X "list.append" rAppend := by
  intro pins s σ H x vs v us Q I rx rv h
  obtain ⟨l, xs, y, rfl, rfl, hH, hz, q⟩ := h
  cases rx
  obtain ⟨u, rfl, ru⟩ := rv.one
  obtain ⟨z, its, n, r, hl, e⟩ := I.lstM hH
  refine call_meets F.slot_list_append ⟨_, e, rfl⟩ F.entry_list_append (F.args_list_append_2 _ _) (PySem.list_append l its.toArray n u (by rw [List.size_toArray]; omega)) ⟨e, ?_⟩
  refine ⟨.non, _, I.lset (its' := its ++ [u]) hH e (by simp) (r.append (.cons ru .nil)) ?_, rfl, q⟩
  rw [List.length_append, List.length_singleton]
  omega

def rExtend : V → List V → Hp → VK → Prop := fun x vs H Q => ∃ l b xs zs, x = .ref l ∧ vs = [.ref b] ∧ H l = some (.lst xs) ∧ H b = some (.lst zs) ∧ xs.length + zs.length ≤ sizeLine ∧ Q .non (upd H l (.lst (xs ++ zs)))
theorem mt_extend : MtM X "list.extend" rExtend := by
  intro pins s σ H x vs v us Q I rx rv h
  obtain ⟨l, b, xs, zs, rfl, rfl, hH, hB, hz, q⟩ := h
  cases rx
  obtain ⟨u, rfl, ru⟩ := rv.one
  cases ru
  obtain ⟨z, its, n, r, hl, e⟩ := I.lstM hH
  obtain ⟨z2, its2, n2, r2, hl2, e2⟩ := I.lstM hB
  have hsz : its.toArray.size + its2.toArray.size ≤ sizeLine := by rw [List.size_toArray, List.size_toArray]; omega
  have hlong : ¬ (!its.toArray.isEmpty && Builtin.List.listTooLong (its.toArray.size + its2.toArray.size)) = true := by
    rw [notLongL hsz, Bool.and_false]
    exact Bool.false_ne_true
  refine call_meets F.slot_list_extend ⟨_, e, rfl⟩ F.entry_list_extend (F.args_list_extend_2 _ _)
    (AutoSeq1.list_extend_list_list_0 l its.toArray n b its2.toArray n2 hlong (by rw [List.size_toArray]; omega) (by omega)) ⟨e, e2, ?_⟩
  refine ⟨.non, _, I.lset (its' := its ++ its2) hH e (by simp) (r.append r2) ?_, rfl, q⟩
  rw [List.length_append]
  omega

def rPop : V → List V → Hp → VK → Prop := fun x vs H Q => ∃ l xs y, x = .ref l ∧ vs = [] ∧ H l = some (.lst xs) ∧ xs[xs.length - 1]? = some y ∧ Q y (upd H l (.lst xs.dropLast))
theorem mt_pop : MtM X "list.pop" rPop := by
  intro pins s σ H x vs v us Q I rx rv h
  obtain ⟨l, xs, y, rfl, rfl, hH, hy, q⟩ := h
  cases rx
  have hus := rv.zero
  subst hus
  obtain ⟨z, its, n, r, hl, e⟩ := I.lstM hH
  obtain ⟨u, hu, ru⟩ := r.get hy
  have hy' : its.toArray[its.toArray.size - 1]? = some u := by
    show its.toArray[its.length - 1]? = some u
    rw [← Array.getElem?_toList, ← hl]
    exact hu
  refine call_meets F.slot_list_pop ⟨_, e, rfl⟩ F.entry_list_pop (F.args_list_pop_1 _) (MeetsSeq.list_pop_last l its.toArray n u hy' (by rw [List.size_toArray]; omega)) ⟨e, ?_⟩
  refine ⟨y, _, I.lset (its' := its.dropLast) hH e ?_ r.dropLast ?_, ru, q⟩
  · show its.toArray.eraseIdxIfInBounds (its.toArray.size - 1) = its.dropLast.toArray
    rw [List.size_toArray, List.eraseIdxIfInBounds_toArray, erase_last]
  · rw [List.length_dropLast]
    omega

def rPopAt : V → List V → Hp → VK → Prop := fun x vs H Q => ∃ l xs i k y, x = .ref l ∧ vs = [.int i] ∧ H l = some (.lst xs) ∧ -(2 ^ 63) ≤ i ∧ i < 2 ^ 63 ∧ seqIndex? i xs.length = some k ∧ xs[k]? = some y ∧ Q y (upd H l (.lst (xs.eraseIdx k)))
theorem mt_popAt : MtM X "list.pop" rPopAt := by
  intro pins s σ H x vs v us Q I rx rv h
  obtain ⟨l, xs, i, k, y, rfl, rfl, hH, h1, h2, hk, hy, q⟩ := h
  cases rx
  obtain ⟨u, rfl, ru⟩ := rv.one
  obtain ⟨t, rfl⟩ := ru
  obtain ⟨z, its, n, r, hl, e⟩ := I.lstM hH
  obtain ⟨w, hw, rw'⟩ := r.get hy
  refine call_meets F.slot_list_pop ⟨_, e, rfl⟩ F.entry_list_pop (F.args_list_pop_2 _ _)
    (MeetsSeq.list_pop_at l its.toArray n i t k w (fitsIndex_both h1 h2) (by rw [List.size_toArray, ← hl]; exact hk) (by rw [← Array.getElem?_toList]; exact hw) (by rw [List.size_toArray]; omega)) ⟨e, ?_⟩
  refine ⟨y, _, I.lset (its' := its.eraseIdx k) hH e ?_ (r.eraseIdx k) ?_, rw', q⟩
  · show its.toArray.eraseIdxIfInBounds k = (its.eraseIdx k).toArray
    rw [List.eraseIdxIfInBounds_toArray]
  · have := len_erase xs k
    omega

def rReverse : V → List V → Hp → VK → Prop := fun x vs H Q => ∃ l xs, x = .ref l ∧ vs = [] ∧ H l = some (.lst xs) ∧ Q .non (upd H l (.lst xs.reverse))
theorem mt_reverse : MtM X "list.reverse" rReverse := by
  intro pins s σ H x vs v us Q I rx rv h
  obtain ⟨l, xs, rfl, rfl, hH, q⟩ := h
  cases rx
  have hus := rv.zero
  subst hus
  obtain ⟨z, its, n, r, hl, e⟩ := I.lstM hH
  refine call_meets F.slot_list_reverse ⟨_, e, rfl⟩ F.entry_list_reverse (F.args_list_reverse_1 _) (AutoSeq1.list_reverse_list_0 l its.toArray n (by rw [List.size_toArray]; omega)) ⟨e, ?_⟩
  refine ⟨.non, _, I.lset (its' := its.reverse) hH e (by simp) r.reverse ?_, rfl, q⟩
  rw [List.length_reverse]
  omega

def rClear : V → List V → Hp → VK → Prop := fun x vs H Q => ∃ l xs, x = .ref l ∧ vs = [] ∧ H l = some (.lst xs) ∧ Q .non (upd H l (.lst []))
theorem mt_clear : MtM X "list.clear" rClear := by
  intro pins s σ H x vs v us Q I rx rv h
  obtain ⟨l, xs, rfl, rfl, hH, q⟩ := h
  cases rx
  have hus := rv.zero
  subst hus
  obtain ⟨z, its, n, r, hl, e⟩ := I.lstM hH
  refine call_meets F.slot_list_clear ⟨_, e, rfl⟩ F.entry_list_clear (F.args_list_clear_1 _) (AutoSeq1.list_clear_list_0 l its.toArray n (by rw [List.size_toArray]; omega)) ⟨e, ?_⟩
  exact ⟨.non, _, I.lset (its' := []) (ys := []) hH e rfl .nil (Nat.zero_le _), rfl, q⟩

/-! ### list + list, list += list, list * int -/
def rCat : R2 := fun x y H Q => ∃ l b xs zs, x = .ref l ∧ y = .ref b ∧ H l = some (.lst xs) ∧ H b = some (.lst zs) ∧ xs.length + zs.length ≤ sizeLine ∧ ∀ p, H p = none → Q (.ref p) (upd H p (.lst (xs ++ zs)))
theorem op_cat : OpR X (binaryOp .Add) rCat := by
  intro pins s σ H x y v u Q I rx ry h
  obtain ⟨l, b, xs, zs, rfl, rfl, hH, hB, hz, q⟩ := h
  cases rx
  cases ry
  obtain ⟨z, its, n, r, hl, e⟩ := I.lstM hH
  obtain ⟨z2, its2, n2, r2, hl2, e2⟩ := I.lstM hB
  refine PySem.P.add_list e e2 ?_ (by rw [List.size_toArray, List.size_toArray]; omega)
  have ea : its.toArray ++ its2.toArray = (its ++ its2).toArray := by simp
  rw [ea]
  exact ⟨.ref _, _, I.lnew (t' := s.toks) (r.append r2) (by rw [List.length_append]; omega), rfl, q _ I.fresh⟩
/-- a list times an int (a negative one is nothing) -/
def rRep : R2 := fun x y H Q => ∃ l k xs, x = .ref l ∧ y = .int k ∧ H l = some (.lst xs) ∧ -(2 ^ 63) ≤ k ∧ k < 2 ^ 63 ∧ xs.length * k.toNat ≤ sizeLine ∧
  ∀ p, H p = none → Q (.ref p) (upd H p (.lst (List.replicate k.toNat xs).flatten))
theorem len_rep {α : Type} (xs : List α) (k : Nat) : (List.replicate k xs).flatten.length = k * xs.length := by
  induction k with
  | zero => simp
  | succ k ih => rw [List.replicate_succ, List.flatten_cons, List.length_append, ih, Nat.succ_mul, Nat.add_comm]
theorem op_rep : OpR X (binaryOp .Mult) rRep := by
  intro pins s σ H x y v u Q I rx ry h
  obtain ⟨l, k, xs, rfl, rfl, hH, h1, h2, hz, q⟩ := h
  cases rx
  obtain ⟨t, rfl⟩ := ry
  obtain ⟨z, its, n, r, hl, e⟩ := I.lstM hH
  have hlen : its.toArray.size * k.toNat ≤ sizeLine := by rw [List.size_toArray, ← hl]; exact hz
  have hcap : ¬ its.toArray.size * k.toNat > (2 ^ 63 - 1) / 8 := by
    have : (sizeLine : Nat) ≤ (2 ^ 63 - 1) / 8 := by decide
    omega
  have hfit : ¬ (!Builtin.List.listFitsIndex k) = true := by
    rw [fitsIndex_both h1 h2]
    exact Bool.false_ne_true
  have hlong : ¬ Builtin.List.listTooLong (its.toArray.size * k.toNat) = true := by
    rw [notLongL hlen]
    exact Bool.false_ne_true
  have hnew : List.foldl (fun x1 x2 => x1 ++ x2) #[] (List.replicate (if its.toArray.isEmpty = true then 0 else k.toNat) its.toArray) = (List.replicate k.toNat its).flatten.toArray := by
    have f0 : ∀ m : Nat, List.foldl (fun x1 x2 => x1 ++ x2) #[] (List.replicate m its.toArray) = (List.replicate m its).flatten.toArray := fun m => by
      have := foldl_rep its m []
      rw [List.nil_append] at this
      exact this
    rw [f0]
    cases its with
    | nil => simp
    | cons a r' => rw [if_neg (by simp)]
  refine wpAny_binaryOp_repeat_ref (T := "list") (U := "int") (by decide) ⟨_, e, rfl⟩ (fun s' => typeIs_int s' k t) noFill_list_mul F.fills_int_mul F.slot_int_rmul repeat_list F.slot_int_index.lookup
    (call_meets F.slot_int_rmul (typeIs_int s k t) F.entry_int_rmul (F.args_int_rmul_2 _ _) (int___rmul___int_list k t l its.toArray n)
      ⟨e, rfl, ⟨_, e, rfl⟩, call_meets F.slot_list_mul ⟨_, e, rfl⟩ F.entry_list_mul (F.args_list_mul_2 _ _) (AutoListH.list___mul___list_int_3 l its.toArray n k t hfit hcap hlong) ⟨e, ?_⟩⟩)
  rw [hnew]
  exact ⟨.ref _, _, I.lnew (t' := s.toks) (r.rep k.toNat) (by rw [len_rep, Nat.mul_comm]; exact hz), rfl, q _ I.fresh⟩

/-! ### del xs[i] -/
theorem del_list {pins : List (Addr × Obj)} {s : Shared} {σ : St} {H : Hp} {l : Addr} {xs : List V} {i : Int} {t : Tok} {k : Nat} {Q : Unit → Shared → Prop} (I : Inv X pins σ H s) (hH : H l = some (.lst xs))
    (h1 : -(2 ^ 63) ≤ i) (h2 : i < 2 ^ 63) (hk : seqIndex? i xs.length = some k) (h : ∀ s', Inv X pins σ (upd H l (.lst (xs.eraseIdx k))) s' → Q () s') :
    wpAny (model X.prog X.w) X.A (delItem (.ref l) (.int i t)) Q X.xe s := by
  obtain ⟨z, its, n, r, hl, e⟩ := I.lstM hH
  refine PySem.P.delItem_list (k := k) e (fitsIndex_both h1 h2) (by rw [List.size_toArray, ← hl]; exact hk) (h _ ?_) (by rw [List.size_toArray]; omega)
  refine I.lset (its' := its.eraseIdx k) (t' := s.toks) hH e ?_ (r.eraseIdx k) ?_
  · show its.toArray.eraseIdxIfInBounds k = (its.eraseIdx k).toArray
    rw [List.eraseIdxIfInBounds_toArray]
  · have := len_erase xs k
    omega
end

/-! ### xs[a:b] = ys -/
section
variable {prog : Program} {w : World} {A : Around} {E : Value → Shared → Prop} {s : Shared}
theorem splice_eq (its its2 : List Value) (a c : Nat) : its.toArray.extract 0 a ++ its2.toArray ++ its.toArray.extract c its.toArray.size = (its.take a ++ its2 ++ its.drop c).toArray := by
  apply Array.toList_inj.mp
  first
    | (simp
       exact List.take_of_length_le (by simp))
    | simp [List.take_of_length_le]
    | simp
theorem bounds_run {a c n : Nat} (hac : a ≤ c) (hc : c ≤ n) : sliceBounds (some (a : Int)) (some (c : Int)) none n = ((a : Int), (c : Int), 1) := by
  simp only [sliceBounds, Option.getD_none]
  have h1 : ¬ ((a : Int) < 0) := by omega
  have h2 : ¬ ((c : Int) < 0) := by omega
  simp only [h1, h2, if_false, show (1 : Int) > 0 by decide, if_true]
  congr 1
  · omega
  · congr 1; omega
set_option maxRecDepth 100000 in
/-- list.__setitem__ with a slice of step one and another list -/
theorem setItem_slice {l b sl : Addr} {items new : Array Value} {n n2 : Nat} {vl vu : Value} {a c : Nat} {Q : Unit → Shared → Prop}
    (e : s.heap.get? l = some { cls := .type "list", data := .seq items n }) (e2 : s.heap.get? b = some { cls := .type "list", data := .seq new n2 }) (hne : l ≠ b)
    (hs : s.heap.IsSliceOf sl vl vu .none) (pl : IsPart vl (some (a : Int))) (pu : IsPart vu (some (c : Int))) (hac : a ≤ c) (hc : c ≤ items.size)
    (hsz : items.size + new.size ≤ sizeLine) (h : Q () { s with heap := s.heap.update l (Obj.mapSeq fun xs => xs.extract 0 a ++ new ++ xs.extract c xs.size) }) :
    wpAny (model prog w) A (setItem (.ref l) (.ref sl) (.ref b)) Q E s := by
  have hl : s.heap.IsList l items := PySem.IsL.isList e
  have hb : s.heap.IsList b new := PySem.IsL.isList e2
  obtain ⟨os, hos, hcs, hds⟩ := id hs
  have hTs : s.TypeIs (.ref sl) "slice" := ⟨os, hos, hcs⟩
  have hstep : ¬ ((rawPart none == rawInt 0) = true) := Bool.false_ne_true
  have hsame : Builtin.List.listSameRef (.ref l) (.ref b) = false := by
    unfold Builtin.List.listSameRef
    exact beq_eq_false_iff_ne.mpr hne
  have hmax : (max (a : Int) (c : Int)).toNat = c := by omega
  have hz' : ((fun xs : Array Value => xs.extract 0 a ++ new ++ xs.extract c xs.size) items).size ≤ sizeLine + 1 := by
    simp only [Array.size_append, Array.size_extract]
    omega
  unfold setItem
  try with_reducible refine wpAny_holding ?_
  first | refine wpAny_bind (wpAny_pure ?_) | skip
  refine wpAny_bind (wpAny_sequenceKey hl.typeIs (by decide) ?_)
  refine wpAny_bind (wpAny_callSpecial?_slot (name := Str.ofString "__setitem__") hl.typeIs slot_list_setitem
    (wpAny_call_entry slot_list_setitem hl.typeIs entry_list_setitem ?_ (args_list_setitem _ _ _)))
  show wpAny _ _ (Builtin.List.listSubscript? (.ref sl) >>= _) _ _ s
  refine wpAny_bind ?_
  unfold Builtin.List.listSubscript?
  refine wpAny_bind (wpAny_specialOf hTs slice_no_index ?_)
  simp only [Option.isNone_none, if_true]
  refine wpAny_pure ?_
  show wpAny _ _ (typeOf (.ref sl) >>= _) _ _ s
  refine wpAny_bind (wpAny_typeOf hTs ?_)
  first
    | rw [if_neg (by decide)]
    | refine PySem.W.KFB.if_not (by decide) ?_
  rw [listSliceParts_eq]
  refine wpAny_bind (wpAny_bind (wpAny_field hos hds (x := .none) rfl (wpAny_bind (wpAny_listPart .none ?_))))
  rw [if_neg hstep]
  refine wpAny_bind (wpAny_field hos hds (x := vl) rfl (wpAny_bind (wpAny_listPart pl ?_)))
  refine wpAny_bind (wpAny_field hos hds (x := vu) rfl (wpAny_bind (wpAny_listPart pu (wpAny_pure ?_))))
  first
    | simp only [hsame, Bool.false_eq_true, if_false]
    | refine PySem.W.KFB.if_not hsame ?_
    | (dsimp only
       rw [if_neg (by rw [hsame]; exact Bool.false_ne_true)])
  refine wpAny_bind (m := Builtin.List.listAllItems (.ref b) "must assign iterable to extended slice") ?_
  unfold Builtin.List.listAllItems
  refine wpAny_bind (wpAny_typeOf hb.typeIs ?_)
  first
    | refine PySem.W.KFB.if_so (by decide) ?_
    | rw [if_pos (by decide)]
    | simp only [beq_self_eq_true, Bool.true_or, if_true]
  unfold Builtin.List.listItems
  refine wpAny_bind (wpAny_seqItems e2 rfl (wpAny_pure ?_))
  refine wpAny_bind (wpAny_bind (wpAny_seqItems e rfl (wpAny_pure ?_)))
  refine wpAny_bind (wpAny_of_eq ((sliceIndices_raw (some (a : Int)) (some (c : Int)) none items.size (by simp)).trans (congrArg (pure : Int × Int × Int → Sem (Int × Int × Int)) (bounds_run hac hc))) ?_)
  show wpAny _ _ (if ((1 : Int) == 1) = true then _ else _) _ _ s
  rw [if_pos (by decide)]
  refine wpAny_bind (wpAny_rule ?_)
  first
    | simp only [notLongL hsz, Bool.false_eq_true, if_false]
    | refine PySem.W.KFB.if_not (notLongL hsz) ?_
  first | refine wpAny_bind (wpAny_pure ?_) | skip
  show wpAny _ _ (updateSeq l (fun xs => xs.extract 0 ((a : Int)).toNat ++ new ++ xs.extract (max (a : Int) (c : Int)).toNat xs.size) >>= _) _ _ s
  rw [hmax, Int.toNat_natCast]
  refine wpAny_bind (wpAny_updateSeq (hz := Nat.le_trans (Nat.le_add_right _ _) hsz) (_hz' := hz') e rfl ?_)
  refine wpAny_bind (wpAny_letGo ?_)
  first
    | exact wpAny_bind (wpAny_pure (wpAny_pure ⟨.none, rfl, wpAny_pure h⟩))
    | exact wpAny_pure ⟨.none, rfl, wpAny_pure h⟩
end

section
variable {X : Cx}
/-- xs[a:c] = ys of another list, at the value level: sl is the slice object that was just made -/
theorem set_slice {pins : List (Addr × Obj)} {s : Shared} {σ : St} {H : Hp} {l b sl : Addr} {xs ys : List V} {a c : Int} {vl vu : Value} {Q : Unit → Shared → Prop} (I : Inv X pins σ H s)
    (hH : H l = some (.lst xs)) (hB : H b = some (.lst ys)) (hne : l ≠ b) (hs : s.heap.IsSliceOf sl vl vu .none) (ra : RelV (.int a) vl) (rc : RelV (.int c) vu) (h0 : 0 ≤ a) (hac : a ≤ c) (hc : c ≤ xs.length)
    (hz : xs.length + ys.length ≤ sizeLine) (h : ∀ s', Inv X pins σ (upd H l (.lst (xs.take a.toNat ++ ys ++ xs.drop c.toNat))) s' → Q () s') :
    wpAny (model X.prog X.w) X.A (setItem (.ref l) (.ref sl) (.ref b)) Q X.xe s := by
  obtain ⟨ta, rfl⟩ := ra
  obtain ⟨tc, rfl⟩ := rc
  obtain ⟨z, its, n, r, hl, e⟩ := I.lstM hH
  obtain ⟨z2, its2, n2, r2, hl2, e2⟩ := I.lstM hB
  obtain ⟨a', rfl⟩ := Int.eq_ofNat_of_zero_le h0
  obtain ⟨c', rfl⟩ := Int.eq_ofNat_of_zero_le (Int.le_trans h0 hac)
  simp only [Int.toNat_natCast] at h
  refine setItem_slice (a := a') (c := c') e e2 hne hs (.int _ _) (.int _ _) (by omega) (by rw [List.size_toArray]; omega) (by rw [List.size_toArray, List.size_toArray]; omega) (h _ ?_)
  refine I.lset (its' := its.take a' ++ its2 ++ its.drop c') (t' := s.toks) hH e ?_ (Vals.append (Vals.append (r.take _) r2) (r.drop _)) ?_
  · exact splice_eq its its2 a' c'
  · rw [List.length_append, List.length_append, List.length_take, List.length_drop]
    omega
end
end L2

namespace L2
open PySem PySem.Spec PyProof.Rows

/-! ### lists of pairs as tables -/
section
variable {κ : Type} [DecidableEq κ]
def valV (kvs : List (κ × V)) (k : κ) : Option V := (kvs.find? fun kv => decide (kv.1 = k)).map (·.2)
/-- in its place, or at the end -/
def putK (kvs : List (κ × V)) (k : κ) (v : V) : List (κ × V) :=
  if (kvs.any fun kv => decide (kv.1 = k)) = true then kvs.map (fun kv => if kv.1 = k then (kv.1, v) else kv) else kvs ++ [(k, v)]
def dropK (kvs : List (κ × V)) (k : κ) : List (κ × V) := kvs.filter fun kv => decide (kv.1 ≠ k)

theorem valV_nil {k : κ} : valV ([] : List (κ × V)) k = none := rfl
theorem valV_pos {p : κ × V} {r : List (κ × V)} {k : κ} (e : p.1 = k) : valV (p :: r) k = some p.2 := by simp [valV, List.find?_cons, e]
theorem valV_neg {p : κ × V} {r : List (κ × V)} {k : κ} (e : ¬ p.1 = k) : valV (p :: r) k = valV r k := by simp [valV, List.find?_cons, e]
theorem valV_any (k : κ) : ∀ kvs : List (κ × V), (kvs.any fun kv => decide (kv.1 = k)) = (valV kvs k).isSome
  | [] => rfl
  | p :: r => by
    rw [List.any_cons]
    by_cases e : p.1 = k
    · simp only [valV_pos e, decide_eq_true e, Bool.true_or, Option.isSome_some]
    · rw [valV_neg e, decide_eq_false e, Bool.false_or]; exact valV_any k r
theorem valV_map (k j : κ) (y : V) : ∀ kvs : List (κ × V), valV (kvs.map fun kv => if kv.1 = k then (kv.1, y) else kv) j = (valV kvs j).map fun x => if j = k then y else x
  | [] => rfl
  | p :: r => by
    have ih := valV_map k j y r
    rw [List.map_cons]
    by_cases h : p.1 = k
    · rw [if_pos h]
      by_cases e : p.1 = j
      · rw [valV_pos (p := (p.1, y)) e, valV_pos e, Option.map_some, if_pos (e.symm.trans h)]
      · rw [valV_neg (p := (p.1, y)) e, valV_neg e, ih]
    · rw [if_neg h]
      by_cases e : p.1 = j
      · rw [valV_pos (p := p) e, valV_pos e, Option.map_some, if_neg (fun z => h (e.trans z))]
      · rw [valV_neg (p := p) e, valV_neg e, ih]
theorem valV_snoc (k j : κ) (y : V) : ∀ kvs : List (κ × V), valV kvs k = none → valV (kvs ++ [(k, y)]) j = if j = k then some y else valV kvs j
  | [], _ => by
    by_cases e : k = j
    · rw [if_pos e.symm]; exact valV_pos (p := (k, y)) e
    · rw [if_neg (fun z => e z.symm)]; exact valV_neg (p := (k, y)) e
  | p :: r, hn => by
    rw [List.cons_append]
    have hk : ¬ p.1 = k := fun z => by rw [valV_pos z] at hn; cases hn
    rw [valV_neg hk] at hn
    have ih := valV_snoc k j y r hn
    by_cases e : p.1 = j
    · rw [valV_pos e, valV_pos e, if_neg (fun z => hk (e.trans z))]
    · rw [valV_neg e, valV_neg e, ih]
theorem valV_put (kvs : List (κ × V)) (k j : κ) (y : V) : valV (putK kvs k y) j = if j = k then some y else valV kvs j := by
  unfold putK
  by_cases a : (kvs.any fun kv => decide (kv.1 = k)) = true
  · rw [if_pos a, valV_map]
    rw [valV_any] at a
    by_cases e : j = k
    · obtain ⟨x, hx⟩ := Option.isSome_iff_exists.mp a
      rw [if_pos e, e, hx, Option.map_some, if_pos rfl]
    · rw [if_neg e]
      cases valV kvs j with
      | none => rfl
      | some x => rw [Option.map_some, if_neg e]
  · rw [if_neg a]
    refine valV_snoc k j y kvs ?_
    rw [valV_any] at a
    cases q : valV kvs k with
    | none => rfl
    | some x => rw [q] at a; exact (a rfl).elim
theorem length_putK (kvs : List (κ × V)) (k : κ) (v : V) : (putK kvs k v).length ≤ kvs.length + 1 := by
  unfold putK
  split
  · rw [List.length_map]; omega
  · rw [List.length_append, List.length_cons, List.length_nil]; omega
theorem putK_new {kvs : List (κ × V)} {k : κ} (v : V) (h : valV kvs k = none) : putK kvs k v = kvs ++ [(k, v)] := by
  unfold putK
  rw [valV_any, h]
  exact if_neg (by decide)

theorem RelO.isSome_eq {o : Option V} {u : Option Value} (r : RelO o u) : o.isSome = u.isSome := by
  cases o with
  | none => cases u with
    | none => rfl
    | some _ => exact (show False from r).elim
  | some _ => cases u with
    | none => exact (show False from r).elim
    | some _ => rfl
theorem RelO.getD {o : Option V} {u : Option Value} {d : V} {d' : Value} (r : RelO o u) (rd : RelV d d') : RelV (o.getD d) (u.getD d') := by
  cases o with
  | none => cases u with
    | none => exact rd
    | some _ => exact (show False from r).elim
  | some _ => cases u with
    | none => exact (show False from r).elim
    | some _ => exact r

/-- raw tables of the same keys -/
theorem KV.val {kvs : List (κ × V)} {vs : List (κ × Value)} (r : KV kvs vs) (k : κ) : RelO (valV kvs k) (valueAt vs k) := by
  unfold KV at r
  induction r with
  | nil => exact True.intro
  | @cons p q ps qs h t ih =>
    obtain ⟨h1, h2⟩ := h
    by_cases e : p.1 = k
    · have e' : q.1 = k := h1.symm.trans e
      have b : valueAt (q :: qs) k = some q.2 := by simp [valueAt, List.find?_cons, e']
      rw [valV_pos e, b]; exact h2
    · have e' : ¬ q.1 = k := fun z => e (h1.trans z)
      have b : valueAt (q :: qs) k = valueAt qs k := by simp [valueAt, List.find?_cons, e']
      rw [valV_neg e, b]; exact ih
theorem KV.any {kvs : List (κ × V)} {vs : List (κ × Value)} (r : KV kvs vs) (k : κ) : (kvs.any fun kv => decide (kv.1 = k)) = vs.any fun kv => decide (kv.1 = k) := by
  unfold KV at r
  induction r with
  | nil => rfl
  | cons h t ih => rw [List.any_cons, List.any_cons, ih, h.1]
theorem KV.repl {kvs : List (κ × V)} {vs : List (κ × Value)} (r : KV kvs vs) (k : κ) {y : V} {u : Value} (ry : RelV y u) :
    KV (kvs.map fun kv => if kv.1 = k then (kv.1, y) else kv) (vs.map fun kv => if kv.1 = k then (kv.1, u) else kv) := by
  unfold KV at r ⊢
  induction r with
  | nil => exact .nil
  | @cons p q ps qs h t ih =>
    rw [List.map_cons, List.map_cons]
    refine .cons ?_ ih
    obtain ⟨h1, h2⟩ := h
    by_cases e : p.1 = k
    · rw [if_pos e, if_pos (h1.symm.trans e)]; exact ⟨h1, ry⟩
    · rw [if_neg e, if_neg (fun z => e (h1.trans z))]; exact ⟨h1, h2⟩
theorem KV.put {kvs : List (κ × V)} {vs : List (κ × Value)} (r : KV kvs vs) (k : κ) {y : V} {u : Value} (ry : RelV y u) : KV (putK kvs k y) (stored vs k u) := by
  unfold putK stored
  rw [r.any k]
  by_cases e : (vs.any fun kv => decide (kv.1 = k)) = true
  · rw [if_pos e, if_pos e]; exact r.repl k ry
  · rw [if_neg e, if_neg e]; exact Paired.snoc r ⟨rfl, ry⟩
theorem KV.drop {kvs : List (κ × V)} {vs : List (κ × Value)} (r : KV kvs vs) (k : κ) : KV (dropK kvs k) (without vs k) := by
  unfold KV at r ⊢
  unfold dropK without
  induction r with
  | nil => exact .nil
  | @cons p q ps qs h t ih =>
    obtain ⟨h1, h2⟩ := h
    rw [List.filter_cons, List.filter_cons]
    by_cases e : p.1 = k
    · have a : ¬ decide (p.1 ≠ k) = true := by simp [e]
      have b : ¬ decide (q.1 ≠ k) = true := by simp [h1.symm.trans e]
      rw [if_neg a, if_neg b]; exact ih
    · have e' : ¬ q.1 = k := fun z => e (h1.trans z)
      have a : decide (p.1 ≠ k) = true := by simp [e]
      have b : decide (q.1 ≠ k) = true := by simp [e']
      rw [if_pos a, if_pos b]; exact .cons ⟨h1, h2⟩ ih
theorem KV.keys {kvs : List (κ × V)} {vs : List (κ × Value)} (r : KV kvs vs) : kvs.map (·.1) = vs.map (·.1) := by
  unfold KV at r
  induction r with
  | nil => rfl
  | cons h t ih => rw [List.map_cons, List.map_cons, ih, h.1]
theorem KV.length {kvs : List (κ × V)} {vs : List (κ × Value)} (r : KV kvs vs) : kvs.length = vs.length := Paired.length r
theorem dropK_le (kvs : List (κ × V)) (k : κ) : (dropK kvs k).length ≤ kvs.length := List.length_filter_le _ _
end


/-! ### a tracked dict, its keys ints and texts or tuples of these -/
theorem kV_is {P : Program} {w : World} {k : Key} {u : Value} (r : RelV (kV k) u) : (mixKind P w).is k u = true := by
  cases k with
  | inl i => obtain ⟨t, e⟩ := (show ∃ t, u = Value.int i t from r); subst e; exact mixKind_int P w i t
  | inr x => obtain ⟨t, e⟩ := (show ∃ t, u = Value.str x t from r); subst e; exact mixKind_str P w x t
theorem kV_inj {a b : Key} (e : kV a = kV b) : a = b := by
  cases a with
  | inl i => cases b with
    | inl j => have e' : V.int i = V.int j := e; injection e' with e'; rw [e']
    | inr y => exact nomatch (show V.int i = V.str y from e)
  | inr x => cases b with
    | inl j => exact nomatch (show V.str x = V.int j from e)
    | inr y => have e' : V.str x = V.str y := e; injection e' with e'; rw [e']
theorem kVs_inj : ∀ {a b : List Key}, a.map kV = b.map kV → a = b
  | [], [], _ => rfl
  | [], _ :: _, e => by simp at e
  | _ :: _, [], e => by simp at e
  | x :: xs, y :: ys, e => by
    rw [List.map_cons, List.map_cons] at e
    injection e with e1 e2
    rw [kV_inj e1, kVs_inj e2]
theorem items_are {P : Program} {w : World} : ∀ {ks : List Key} {us : List Value}, Vals (ks.map kV) us → ItemsAre (mixKind P w) ks us
  | [], _, r => by rw [List.map_nil] at r; cases r; exact .nil
  | k :: ks, _, r => by
    rw [List.map_cons] at r
    cases r with
    | cons h t => exact .cons (kV_is h) (items_are t)

/-- raw entries of a dict with tuple keys -/
abbrev KT (H : Hp) : List (List Key × V) → List (List Key × Addr × Value) → Prop := Paired fun p q => p.1 = q.1 ∧ H q.2.1 = some (.tup (p.1.map kV)) ∧ RelV p.2 q.2.2
theorem KT.val {H : Hp} {kvs : List (List Key × V)} {xs : List (List Key × Addr × Value)} (r : KT H kvs xs) (k : List Key) : RelO (valV kvs k) ((atKey xs k).map (·.2)) := by
  induction r with
  | nil => exact True.intro
  | @cons p q ps qs h t ih =>
    obtain ⟨h1, _, h2⟩ := h
    by_cases e : p.1 = k
    · have e' : q.1 = k := h1.symm.trans e
      have b : atKey (q :: qs) k = some q.2 := by simp [atKey, List.find?_cons, e']
      rw [valV_pos e, b]; exact h2
    · have e' : ¬ q.1 = k := fun z => e (h1.trans z)
      have b : atKey (q :: qs) k = atKey qs k := by simp [atKey, List.find?_cons, e']
      rw [valV_neg e, b]; exact ih
theorem KT.repl {H : Hp} {kvs : List (List Key × V)} {xs : List (List Key × Addr × Value)} (r : KT H kvs xs) (k : List Key) {y : V} {u : Value} (ry : RelV y u) :
    KT H (kvs.map fun kv => if kv.1 = k then (kv.1, y) else kv) (xs.map (putAt k u)) := by
  induction r with
  | nil => exact .nil
  | @cons p q ps qs h t ih =>
    rw [List.map_cons, List.map_cons]
    refine .cons ?_ ih
    obtain ⟨h1, h2, h3⟩ := h
    unfold putAt
    by_cases e : p.1 = k
    · rw [if_pos e, if_pos (h1.symm.trans e)]; exact ⟨h1, h2, ry⟩
    · rw [if_neg e, if_neg (fun z => e (h1.trans z))]; exact ⟨h1, h2, h3⟩
theorem KT.put {H : Hp} {kvs : List (List Key × V)} {xs : List (List Key × Addr × Value)} (r : KT H kvs xs) (k : List Key) {b : Addr} {y : V} {u : Value} (hb : H b = some (.tup (k.map kV))) (ry : RelV y u) :
    KT H (putK kvs k y) (storedH xs k b u) := by
  have e : (kvs.any fun kv => decide (kv.1 = k)) = (atKey xs k).isSome := by
    rw [valV_any, (r.val k).isSome_eq, Option.isSome_map]
  unfold putK storedH
  rw [e]
  by_cases q : (atKey xs k).isSome = true
  · rw [if_pos q, if_pos q]; exact r.repl k ry
  · rw [if_neg q, if_neg q]; exact Paired.snoc r ⟨rfl, hb, ry⟩
theorem KT.keeps {H H' : Hp} {kvs : List (List Key × V)} {xs : List (List Key × Addr × Value)} (r : KT H kvs xs) (ht : ∀ b ys, H b = some (.tup ys) → H' b = some (.tup ys)) : KT H' kvs xs :=
  Paired.mapP r fun _ _ z => ⟨z.1, ht _ _ z.2.1, z.2.2⟩

section
variable {P : Program} {w : World} {H : Hp} {h : Heap} {a : Addr}
theorem rd_of {u : HO} (ok : HOk P w H h) (e : Rd H a u) : ObjOk P w H h a u := e.ok ok
theorem dk_rd {kvs : List (Key × V)} (ok : HOk P w H h) (e : Rd H a (.dK kvs)) : kvs.length ≤ sizeLine ∧ (a == sysModules) = false ∧ ∃ vs, KV kvs vs ∧ h.DictOf (mixKind P w) a vs :=
  show ObjOk P w H h a (.dK kvs) from rd_of ok e
theorem dk_of {kvs : List (Key × V)} (ok : HOk P w H h) (e : H a = some (.dK kvs)) : kvs.length ≤ sizeLine ∧ (a == sysModules) = false ∧ ∃ vs, KV kvs vs ∧ h.DictOf (mixKind P w) a vs := dk_rd ok (.inl e)
/-- a tracked tuple of ints and texts is a key -/
theorem key_of {ks : List Key} (ok : HOk P w H h) (e : H a = some (.tup (ks.map kV))) : (tupleKind (mixKind P w)).is h ks a := by
  obtain ⟨_, its, r, o, h1, h2, n, h3⟩ := (show ObjOk P w H h a (.tup (ks.map kV)) from ok a _ e)
  exact ⟨o, its.toArray, n, h1, h2, h3, by simpa using items_are r⟩
theorem dt_rd {kvs : List (List Key × V)} (ok : HOk P w H h) (e : Rd H a (.dT kvs)) : kvs.length ≤ sizeLine ∧ (a == sysModules) = false ∧
    ∃ xs, KT H kvs xs ∧ h.DictOfH (tupleKind (mixKind P w)) a xs := by
  obtain ⟨z, y, xs, r, o, es, ep, h1, h2, h3, h4, h5⟩ := (show ObjOk P w H h a (.dT kvs) from rd_of ok e)
  refine ⟨z, y, xs, r, o, es, ep, h1, h2, h3, h4, fun x hx => ?_, h5⟩
  have all : ∀ {l : List (List Key × V)} {m : List (List Key × Addr × Value)}, KT H l m → ∀ x ∈ m, (tupleKind (mixKind P w)).is h x.1 x.2.1 := by
    intro l m q
    induction q with
    | nil => intro x hx; exact nomatch hx
    | @cons p q ps qs hq t ih =>
      intro x hx
      rcases List.mem_cons.mp hx with e | hx
      · subst e
        exact key_of ok (by rw [← hq.1]; exact hq.2.1)
      · exact ih x hx
  exact all r x hx
theorem dt_of {kvs : List (List Key × V)} (ok : HOk P w H h) (e : H a = some (.dT kvs)) : kvs.length ≤ sizeLine ∧ (a == sysModules) = false ∧
    ∃ xs, KT H kvs xs ∧ h.DictOfH (tupleKind (mixKind P w)) a xs := dt_rd ok (.inl e)
end

/-- what the dict at a holds at the key y -/
def DGet (H : Hp) (a : Addr) (y : V) (r : Option V) : Prop :=
  (∃ kvs k, Rd H a (.dK kvs) ∧ y = kV k ∧ r = valV kvs k) ∨ ∃ kvs k b, Rd H a (.dT kvs) ∧ y = .ref b ∧ H b = some (.tup (k.map kV)) ∧ r = valV kvs k
/-- the heap behind a[y] = v -/
def DPut (H : Hp) (a : Addr) (y v : V) (H' : Hp) : Prop :=
  (∃ kvs k, H a = some (.dK kvs) ∧ y = kV k ∧ kvs.length < sizeLine ∧ H' = upd H a (.dK (putK kvs k v))) ∨
  ∃ kvs k b, H a = some (.dT kvs) ∧ y = .ref b ∧ H b = some (.tup (k.map kV)) ∧ kvs.length < sizeLine ∧ H' = upd H a (.dT (putK kvs k v))
theorem DGet.k {H : Hp} {a : Addr} {kvs : List (Key × V)} {k : Key} (e : H a = some (.dK kvs)) : DGet H a (kV k) (valV kvs k) := .inl ⟨kvs, k, .inl e, rfl, rfl⟩
theorem DGet.t {H : Hp} {a b : Addr} {kvs : List (List Key × V)} {k : List Key} (e : H a = some (.dT kvs)) (eb : H b = some (.tup (k.map kV))) : DGet H a (.ref b) (valV kvs k) := .inr ⟨kvs, k, b, .inl e, rfl, eb, rfl⟩
theorem DPut.k {H : Hp} {a : Addr} {kvs : List (Key × V)} {k : Key} {v : V} (e : H a = some (.dK kvs)) (hl : kvs.length < sizeLine) : DPut H a (kV k) v (upd H a (.dK (putK kvs k v))) := .inl ⟨kvs, k, e, rfl, hl, rfl⟩
theorem DPut.t {H : Hp} {a b : Addr} {kvs : List (List Key × V)} {k : List Key} {v : V} (e : H a = some (.dT kvs)) (eb : H b = some (.tup (k.map kV))) (hl : kvs.length < sizeLine) :
    DPut H a (.ref b) v (upd H a (.dT (putK kvs k v))) := .inr ⟨kvs, k, b, e, rfl, eb, hl, rfl⟩


section
variable {X : Cx} {pins : List (Addr × Obj)} {σ : St} {H : Hp} {s : Shared} {a : Addr} {y v : V} {u r : Value} {o : Option V} {A : Around} {E : Value → Shared → Prop}

theorem Inv.big (I : Inv X pins σ H s) : sysModules < s.heap.objs.size := by
  have h : mainGlobals < s.heap.objs.size := (I.mod.glob.keeps I.bk).lt
  exact Nat.lt_trans (by decide) h

/-- d[y], there -/
theorem d_getItem {Q : Value → Shared → Prop} (hu : A.units + 1 < cLine) (I : Inv X pins σ H s) (g : DGet H a y (some v)) (ry : RelV y u) (h : ∀ w' s', Inv X pins σ H s' → RelV v w' → Q w' s') :
    wpAny (model X.prog X.w) A (getItem (.ref a) u) Q E s := by
  rcases g with ⟨kvs, k, e, ey, l⟩ | ⟨kvs, k, b, e, ey, eb, l⟩
  · subst ey
    obtain ⟨z, hd, vs, rel, dd⟩ := dk_rd I.hok e
    obtain ⟨w', hw, rw'⟩ := RelO.some_of (v := v) (o := valueAt vs k) (by rw [l]; exact rel.val k)
    exact wpAny_getItem_of (kV_is ry) dd.mapOf hw (h w' _ (I.tok _) rw')
  · subst ey
    cases (show u = Value.ref b from ry)
    obtain ⟨z, hd, xs, rel, dd⟩ := dt_rd I.hok e
    obtain ⟨w', hw, rw'⟩ := RelO.some_of (v := v) (o := (atKey xs k).map (·.2)) (by rw [l]; exact rel.val k)
    obtain ⟨p, hp, hp2⟩ := Option.map_eq_some_iff.mp hw
    refine wpAny_getItem_heap (tupleKind_room_in1 hu) (key_of I.hok eb) dd hp ?_
    rw [hp2]
    exact h w' _ (I.tok _) rw'
/-- y in d -/
theorem d_in {Q : Value → Shared → Prop} (hu : A.units + 1 < cLine) (I : Inv X pins σ H s) (g : DGet H a y o) (ry : RelV y u) (h : ∀ s', Inv X pins σ H s' → Q (.bool o.isSome) s') :
    wpAny (model X.prog X.w) A (compareOp .In u (.ref a)) Q E s := by
  rcases g with ⟨kvs, k, e, ey, l⟩ | ⟨kvs, k, b, e, ey, eb, l⟩
  · subst ey
    obtain ⟨z, hd, vs, rel, dd⟩ := dk_rd I.hok e
    refine wpAny_in_of (kV_is ry) hd dd.mapOf ?_
    rw [← (rel.val k).isSome_eq, ← l]
    exact h _ (I.tok _)
  · subst ey
    cases (show u = Value.ref b from ry)
    obtain ⟨z, hd, xs, rel, dd⟩ := dt_rd I.hok e
    refine wpAny_in_heap (tupleKind_room_in1 hu) (key_of I.hok eb) hd dd ?_
    have q := (rel.val k).isSome_eq
    rw [Option.isSome_map] at q
    rw [← q, ← l]
    exact h _ (I.tok _)
theorem d_notIn {Q : Value → Shared → Prop} (hu : A.units + 1 < cLine) (I : Inv X pins σ H s) (g : DGet H a y o) (ry : RelV y u) (h : ∀ s', Inv X pins σ H s' → Q (.bool (!o.isSome)) s') :
    wpAny (model X.prog X.w) A (compareOp .NotIn u (.ref a)) Q E s := by
  rcases g with ⟨kvs, k, e, ey, l⟩ | ⟨kvs, k, b, e, ey, eb, l⟩
  · subst ey
    obtain ⟨z, hd, vs, rel, dd⟩ := dk_rd I.hok e
    refine wpAny_notIn_of (kV_is ry) hd dd.mapOf ?_
    rw [← (rel.val k).isSome_eq, ← l]
    exact h _ (I.tok _)
  · subst ey
    cases (show u = Value.ref b from ry)
    obtain ⟨z, hd, xs, rel, dd⟩ := dt_rd I.hok e
    refine wpAny_notIn_heap (tupleKind_room_in1 hu) (key_of I.hok eb) hd dd ?_
    have q := (rel.val k).isSome_eq
    rw [Option.isSome_map] at q
    rw [← q, ← l]
    exact h _ (I.tok _)
/-- a dict's object is replaced -/
theorem d_write {h' : Heap} {t' : Nat} {ob : HO} (I : Inv X pins σ H s) (mu : Mut (H a)) (hs : Heap.SameBut a s.heap h') (he : ∃ q, h'.get? a = some q) (new : ObjOk X.prog X.w (upd H a ob) h' a ob) :
    Inv X pins σ (upd H a ob) { s with heap := h', toks := t' } :=
  I.write (x := a) (e := a) mu (.inl rfl) (fun b q hb z => (hs.2 b hb).trans z) he new
theorem dk_new {P : Program} {w : World} {H' : Hp} {h' : Heap} {kvs : List (Key × V)} {vs : List (Key × Value)} (z : kvs.length ≤ sizeLine) (hd : (a == sysModules) = false) (rel : KV kvs vs) (dd : h'.DictOf (mixKind P w) a vs) :
    ObjOk P w H' h' a (.dK kvs) := ⟨z, hd, vs, rel, dd⟩
/-- d[y] = v -/
theorem d_setItem {H' : Hp} {Q : Unit → Shared → Prop} (hu : A.units + 1 < cLine) (I : Inv X pins σ H s) (g : DPut H a y v H') (ry : RelV y u) (rv : RelV v r) (h : ∀ s', Inv X pins σ H' s' → Q () s') :
    wpAny (model X.prog X.w) A (setItem (.ref a) u r) Q E s := by
  rcases g with ⟨kvs, k, e, ey, l, eH⟩ | ⟨kvs, k, b, e, ey, eb, l, eH⟩
  · subst ey eH
    obtain ⟨z, hd, vs, rel, dd⟩ := dk_of I.hok e
    have hz : vs.length ≤ sizeLine := by rw [← rel.length]; exact z
    have hl : (putK kvs k v).length ≤ sizeLine := by have := length_putK kvs k v; omega
    refine wpAny_setItem_pairs (hsz := hz) (kV_is ry) dd fun h' dd' hs => h _ ?_
    have he : ∃ q, h'.get? a = some q := let ⟨q, _, _, hq, _⟩ := dd'; ⟨q, hq⟩
    exact d_write I (by rw [e]; exact True.intro) hs he (dk_new hl hd (rel.put k rv) dd')
  · subst ey eH
    cases (show u = Value.ref b from ry)
    obtain ⟨z, hd, xs, rel, dd⟩ := dt_of I.hok e
    have hz : xs.length ≤ sizeLine := by rw [← Paired.length rel]; exact z
    have hl : (putK kvs k v).length ≤ sizeLine := by have := length_putK kvs k v; omega
    refine wpAny_setItem_heap (hsz := hz) (tupleKind_room_in1 hu) (key_of I.hok eb) dd fun h' dd' hs => h _ ?_
    obtain ⟨q, es, ep, hq, h2, h3, h4, _, h5⟩ := dd'
    refine d_write I (by rw [e]; exact True.intro) hs ⟨q, hq⟩ ⟨hl, hd, _, (rel.put k eb rv).keeps fun c ys ec => ?_, q, es, ep, hq, h2, h3, h4, h5⟩
    rw [upd_ne (ne_of ec e (fun z => nomatch z))]
    exact ec
end

section
variable {X : Cx} {pins : List (Addr × Obj)} {σ : St} {H : Hp} {s : Shared} {a : Addr} {kvs : List (Key × V)} {k : Key} {u : Value} {A : Around} {E : Value → Shared → Prop}
/-- del d[k] -/
theorem d_delItem {Q : Unit → Shared → Prop} (I : Inv X pins σ H s) (e : H a = some (.dK kvs)) (ry : RelV (kV k) u) (l : (valV kvs k).isSome = true) (h : ∀ s', Inv X pins σ (upd H a (.dK (dropK kvs k))) s' → Q () s') :
    wpAny (model X.prog X.w) A (delItem (.ref a) u) Q E s := by
  obtain ⟨z, hd, vs, rel, dd⟩ := dk_of I.hok e
  refine wpAny_delItem_slot dd.typeIs (by decide) PySem.F.slot_dict_delitem
    (call_meetsIn PySem.F.slot_dict_delitem dd.typeIs PySem.F.entry_dict_delitem (PySem.F.args_dict_delitem_2 _ _) (meets_dict_delitem_pairs (mixKind X.prog X.w) a (kV_is ry)) ⟨vs, dd, by rw [← rel.length]; exact z, by rw [← (rel.val k).isSome_eq]; exact l, fun h' dd' hs => h _ ?_⟩)
  have he : ∃ q, h'.get? a = some q := let ⟨q, _, _, hq, _⟩ := dd'; ⟨q, hq⟩
  exact d_write I (by rw [e]; exact True.intro) hs he (dk_new (Nat.le_trans (dropK_le kvs k) z) hd (rel.drop k) dd')
/-- d.pop(k[, x]), there -/
theorem d_pop {v : V} {more : List Value} {Q : Value → Shared → Prop} (I : Inv X pins σ H s) (e : H a = some (.dK kvs)) (ry : RelV (kV k) u) (l : valV kvs k = some v) (hm : more = [] ∨ ∃ x, more = [x])
    (h : ∀ w' s', Inv X pins σ (upd H a (.dK (dropK kvs k))) s' → RelV v w' → Q w' s') : wpAny (model X.prog X.w) A (call (.builtin "dict.pop") (.ref a :: u :: more)) Q E s := by
  obtain ⟨z, hd, vs, rel, dd⟩ := dk_of I.hok e
  obtain ⟨w', hw, rw'⟩ := RelO.some_of (v := v) (o := valueAt vs k) (by rw [← l]; exact rel.val k)
  have hp : (keyPart u).isSome = true := by
    cases k with
    | inl i => obtain ⟨t, q⟩ := (show ∃ t, u = Value.int i t from ry); subst q; rfl
    | inr x => obtain ⟨t, q⟩ := (show ∃ t, u = Value.str x t from ry); subst q; rfl
  have ha : argsOk "dict.pop" ⟨.ref a :: u :: more, []⟩ := by
    rcases hm with q | ⟨x, q⟩
    · subst q; exact PySem.F.args_dict_pop_2 _ _
    · subst q; exact PySem.F.args_dict_pop_3 _ _ _
  refine call_meetsIn PySem.F.slot_dict_pop dd.typeIs PySem.F.entry_dict_pop ha (meets_dict_pop_there (mixKind X.prog X.w) a (kV_is ry) more hm hp)
    ⟨vs, w', dd, by rw [← rel.length]; exact z, hw, fun h' dd' hs => h w' _ ?_ rw'⟩
  have he : ∃ q, h'.get? a = some q := let ⟨q, _, _, hq, _⟩ := dd'; ⟨q, hq⟩
  exact d_write I (by rw [e]; exact True.intro) hs he (dk_new (Nat.le_trans (dropK_le kvs k) z) hd (rel.drop k) dd')
/-- d.pop(k, x), not there -/
theorem d_popD {r : Value} {Q : Value → Shared → Prop} (I : Inv X pins σ H s) (e : H a = some (.dK kvs)) (ry : RelV (kV k) u) (l : valV kvs k = none) (h : ∀ s', Inv X pins σ H s' → Q r s') :
    wpAny (model X.prog X.w) A (call (.builtin "dict.pop") [.ref a, u, r]) Q E s := by
  obtain ⟨z, hd, vs, rel, dd⟩ := dk_of I.hok e
  have hn : valueAt vs k = none := RelO.none_of (by rw [← l]; exact rel.val k)
  have hp : (keyPart u).isSome = true := by
    cases k with
    | inl i => obtain ⟨t, q⟩ := (show ∃ t, u = Value.int i t from ry); subst q; rfl
    | inr x => obtain ⟨t, q⟩ := (show ∃ t, u = Value.str x t from ry); subst q; rfl
  exact call_meetsIn PySem.F.slot_dict_pop dd.typeIs PySem.F.entry_dict_pop (PySem.F.args_dict_pop_3 _ _ _) (meets_dict_pop_default (mixKind X.prog X.w) a (kV_is ry) hd hp r) ⟨vs, dd, hn, h _ (I.tok _)⟩
/-- d.clear() -/
theorem d_clear {Q : Value → Shared → Prop} (I : Inv X pins σ H s) (e : H a = some (.dK kvs)) (h : ∀ s', Inv X pins σ (upd H a (.dK [])) s' → Q .none s') : wpAny (model X.prog X.w) A (call (.builtin "dict.clear") [.ref a]) Q E s := by
  obtain ⟨z, hd, vs, rel, dd⟩ := dk_of I.hok e
  refine call_meetsIn PySem.F.slot_dict_clear dd.typeIs PySem.F.entry_dict_clear (PySem.F.args_dict_clear_1 _) (meets_dict_clear (mixKind X.prog X.w) a) ⟨vs, dd, by rw [← rel.length]; exact z, fun h' dd' hs => h _ ?_⟩
  have he : ∃ q, h'.get? a = some q := let ⟨q, _, _, hq, _⟩ := dd'; ⟨q, hq⟩
  exact d_write (t' := s.toks) I (by rw [e]; exact True.intro) hs he (dk_new (Nat.zero_le _) hd .nil dd')
/-- len(d) -/
theorem d_len {Q : Value → Shared → Prop} (I : Inv X pins σ H s) (e : Rd H a (.dK kvs)) (h : ∀ t s', Inv X pins σ H s' → Q (.int kvs.length t) s') : wpAny (model X.prog X.w) A (call (.builtin "len") [.ref a]) Q E s := by
  obtain ⟨z, hd, vs, rel, dd⟩ := dk_rd I.hok e
  refine call_len_dict hd dd (by rw [← rel.length]; rw [sizeLine_eq] at z; omega) ?_
  rw [← rel.length]
  exact h _ _ (I.tok _)
/-- if d -/
theorem d_truth {Q : Bool → Shared → Prop} (I : Inv X pins σ H s) (e : Rd H a (.dK kvs)) (h : ∀ s', Inv X pins σ H s' → Q (!kvs.isEmpty) s') : wpAny (model X.prog X.w) A (truthy (.ref a)) Q E s := by
  obtain ⟨z, hd, vs, rel, dd⟩ := dk_rd I.hok e
  refine wpAny_truthy_dict hd dd (by rw [← rel.length]; rw [sizeLine_eq] at z; omega) ?_
  have q : kvs.isEmpty = vs.isEmpty := by cases rel <;> rfl
  rw [← q]
  exact h _ (I.tok _)
end


/-! ### readings and rules -/
/-- the element of a subscription, not a slice -/
def NoSl (i : Expr) : Prop := ∀ ov iv, subscripted i false ov iv = operate [ov, iv] (getItem ov iv)
theorem subD_of {prog : Program} {w : World} {A : Around} {E : Value → Shared → Prop} {s : Shared} {env : Env} {value slice : Expr} {pos : Pos} {T id : String} {Q : Value → Shared → Prop}
    (hl : typeLookup (.type T) "__getitem__" = pure (some (.builtin id))) (hs : NoSl slice)
    (h : wpAny (model prog w) A (eval value env) (fun o s₁ => wpAny (model prog w) A (eval slice env) (fun i s₂ => s₂.TypeIs o T ∧ wpAny (model prog w) A (getItem o i) Q E s₂) E s₁) E s) :
    wpAny (model prog w) A (eval (.Subscript value slice pos) env) Q E s := by
  refine Subscript_ (wpAny_mono h (fun o s₁ h₁ => wpAny_mono h₁ (fun i s₂ h₂ => ?_) fun _ _ x => x) fun _ _ x => x)
  obtain ⟨hT, h₂⟩ := h₂
  unfold subscriptTail
  refine wpAny_bind ?_
  rw [getitemInPython_of_ne hT.not_modules]
  refine wpAny_bind (wpAny_specialOf hT hl ?_)
  have fin : wpAny (model prog w) A (subscripted slice false o i) (fun r s₃ => wpAny (model prog w) A (letTemporaryGo value o r >>= fun _ => pure r) Q E s₃) E s₂ := by
    rw [hs o i]
    exact wpAny_operating (wpAny_mono h₂ (fun r s₃ h₃ => wpAny_bind (wpAny_letTemporaryGo (wpAny_pure h₃))) fun _ _ x => x)
  first
    | exact wpAny_pure (wpAny_bind fin)
    | exact wpAny_bind (wpAny_pure (wpAny_bind fin))
    | exact wpAny_bind fin

theorem dict_typeIs {X : Cx} {pins : List (Addr × Obj)} {σ : St} {H : Hp} {s : Shared} {a : Addr} {y : V} {o : Option V} (I : Inv X pins σ H s) (g : DGet H a y o) : s.TypeIs (.ref a) "dict" := by
  rcases g with ⟨kvs, k, e, _, _⟩ | ⟨kvs, k, b, e, _, _, _⟩
  · obtain ⟨_, _, vs, _, dd⟩ := dk_rd I.hok e
    exact dd.typeIs
  · obtain ⟨_, _, xs, _, dd⟩ := dt_rd I.hok e
    exact dd.typeIs
theorem dict_noDict {X : Cx} {pins : List (Addr × Obj)} {σ : St} {H : Hp} {s : Shared} {a : Addr} {y : V} {o : Option V} (I : Inv X pins σ H s) (g : DGet H a y o) :
    ∀ b, Value.ref a = .ref b → ∃ ob, s.heap.get? b = some ob ∧ ob.dict = none := fun b q => by
  cases q
  rcases g with ⟨kvs, k, e, _, _⟩ | ⟨kvs, k, b, e, _, _, _⟩
  · obtain ⟨_, _, vs, _, ob, _, _, h1, h2, _⟩ := dk_rd I.hok e
    exact ⟨ob, h1, h2.2.1⟩
  · obtain ⟨_, _, xs, _, ob, _, _, h1, h2, _⟩ := dt_rd I.hok e
    exact ⟨ob, h1, h2.2.1⟩

/-- d[y] -/
def tDGet (td ty : TE) : TE := fun σ H Q => td σ H fun x H1 => ty σ H1 fun y H2 => ∃ a v, x = .ref a ∧ DGet H2 a y (some v) ∧ Q v H2
/-- y in d, y not in d -/
def tDIn (ty td : TE) : TE := fun σ H Q => ty σ H fun y H1 => td σ H1 fun x H2 => ∃ a o, x = .ref a ∧ DGet H2 a y o ∧ Q (.bl o.isSome) H2
def tDNotIn (ty td : TE) : TE := fun σ H Q => ty σ H fun y H1 => td σ H1 fun x H2 => ∃ a o, x = .ref a ∧ DGet H2 a y o ∧ Q (.bl (!o.isSome)) H2
/-- d[y] = v -/
def sDPut (td ty tv : TE) : TS := fun D σ H => tv σ H fun v H1 => td σ H1 fun x H2 => ty σ H2 fun y H3 => ∃ a H4, x = .ref a ∧ DPut H3 a y v H4 ∧ D.nx σ H4
/-- d[y] op= v -/
def sDAug (td ty tv : TE) (rd : V → V → Hp → VK → Prop) : TS := fun D σ H => td σ H fun x H1 => ty σ H1 fun y H2 => ∃ a v, x = .ref a ∧ DGet H2 a y (some v) ∧
  tv σ H2 fun y2 H3 => rd v y2 H3 fun z H4 => ∃ H5, DPut H4 a y z H5 ∧ D.nx σ H5
/-- del d[y] -/
def sDDel (td ty : TE) : TS := fun D σ H => td σ H fun x H1 => ty σ H1 fun y H2 => ∃ a kvs k, x = .ref a ∧ H2 a = some (.dK kvs) ∧ y = kV k ∧ (valV kvs k).isSome = true ∧ D.nx σ (upd H2 a (.dK (dropK kvs k)))

section
variable {X : Cx} {o i e value : Expr} {pos pos' tpos : Pos} {td ty tv : TE}
theorem pe_dget (hu : X.A.units + 1 < cLine) (ho : PE X o td) (hi : PE X i ty) (hs : NoSl i) : PE X (.Subscript o i pos) (tDGet td ty) := by
  intro pins s σ H Q I h
  refine subD_of PySem.F.slot_dict_getitem.lookup hs (thn (ho pins s σ H _ I h) fun u s1 ⟨x, H1, I1, rx, q1⟩ => thn (hi pins s1 σ H1 _ I1 q1) fun iv s2 ⟨y, H2, I2, ry, a, v, ex, g, q2⟩ => ?_)
  subst ex
  obtain rfl : u = Value.ref a := rx
  exact ⟨dict_typeIs I2 g, d_getItem hu I2 g ry fun w' s3 I3 rw' => ⟨v, H2, I3, rw', q2⟩⟩
theorem pc_din (hu : X.A.units + 1 < cLine) (hi : PE X i ty) (ho : PE X o td) : PC X .In i o (tDIn ty td) := by
  intro pins s σ H Q I h
  refine thn (hi pins s σ H _ I h) fun iv s1 ⟨y, H1, I1, ry, q1⟩ => thn (ho pins s1 σ H1 _ I1 q1) fun u s2 ⟨x, H2, I2, rx, a, ov, ex, g, q2⟩ => ?_
  subst ex
  obtain rfl : u = Value.ref a := rx
  exact d_in hu I2 g ry fun s3 I3 => ⟨.bl ov.isSome, H2, I3, rfl, q2⟩
theorem pc_dnotin (hu : X.A.units + 1 < cLine) (hi : PE X i ty) (ho : PE X o td) : PC X .NotIn i o (tDNotIn ty td) := by
  intro pins s σ H Q I h
  refine thn (hi pins s σ H _ I h) fun iv s1 ⟨y, H1, I1, ry, q1⟩ => thn (ho pins s1 σ H1 _ I1 q1) fun u s2 ⟨x, H2, I2, rx, a, ov, ex, g, q2⟩ => ?_
  subst ex
  obtain rfl : u = Value.ref a := rx
  exact d_notIn hu I2 g ry fun s3 I3 => ⟨.bl (!ov.isSome), H2, I3, rfl, q2⟩
theorem ps_dput (hu : X.A.units + 1 < cLine) (ho : PE X o td) (hi : PE X i ty) (hv : PE X value tv) (hs : swapsWith value (some (.Subscript o i pos')) pos.line X.env = pure false) :
    PS X (.Assign [.Subscript o i pos'] value pos) (sDPut td ty tv) := by
  intro pins s σ H D I h
  refine wpAny_Assign_Subscript (thn (hv pins s σ H _ I h) fun r s1 ⟨v, H1, I1, rv, q1⟩ => thn (ho pins s1 σ H1 _ I1 q1) fun u s2 ⟨x, H2, I2, rx, q2⟩ => thn (hi pins s2 σ H2 _ I2 q2) fun iv s3 ⟨y, H3, I3, ry, a, H4, ex, g, q3⟩ => ?_) hs
  subst ex
  obtain rfl : u = Value.ref a := rx
  exact d_setItem hu I3 g ry rv fun s4 I4 => ⟨σ, H4, I4, q3⟩
theorem ps_daug {op : Operator} {rd : V → V → Hp → VK → Prop} (hu : X.A.units + 1 < cLine) (ho : PE X o td) (hi : PE X i ty) (hv : PE X value tv) (hop : InOp X op rd)
    (ha : ∀ ov iv new, augStore i ov iv new = (do holding [new, ov, iv] (setItem ov iv new); release [new, ov, iv] []; pure .next)) : PS X (.AugAssign (.Subscript o i tpos) op value pos) (sDAug td ty tv rd) := by
  intro pins s σ H D I h
  refine wpAny_AugAssign_SubscriptAny (thn (ho pins s σ H _ I h) fun u s1 ⟨x, H1, I1, rx, q1⟩ => thn (hi pins s1 σ H1 _ I1 q1) fun iv s2 ⟨y, H2, I2, ry, a, v, ex, g, q2⟩ => ?_) ha
  subst ex
  obtain rfl : u = Value.ref a := rx
  refine d_getItem hu I2 g ry fun w' s3 I3 rw' => thn (hv pins s3 σ H2 _ I3 q2) fun w2 s4 ⟨y2, H3, I4, ry2, q3⟩ => thn (hop pins s4 σ H3 v y2 w' w2 _ I4 rw' ry2 q3) fun w3 s5 ⟨z, H4, I5, rz, H5, g5, q4⟩ => ?_
  exact d_setItem hu I5 g5 ry rz fun s6 I6 => ⟨σ, H5, I6, q4⟩
theorem ps_ddel (ho : PE X o td) (hi : PE X i ty) : PS X (.Delete [.Subscript o i tpos] pos) (sDDel td ty) := by
  intro pins s σ H D I h
  refine wpAny_Delete (wpAny_deleteEach_cons (wpAny_delete_Subscript (thn (ho pins s σ H _ I h) fun u s1 ⟨x, H1, I1, rx, q1⟩ => thn (hi pins s1 σ H1 _ I1 q1) fun iv s2 ⟨y, H2, I2, ry, a, kvs, k, ex, e, ey, l, q2⟩ => ?_)))
  subst ex ey
  obtain rfl : u = Value.ref a := rx
  exact d_delItem I2 e ry l fun s3 I3 => wpAny_deleteEach_nil ⟨σ, _, I3, q2⟩
end


/-! ### displays -/
theorem dk_empty {P : Program} {w : World} {H : Hp} (h : Heap) (hb : sysModules < h.objs.size) : ObjOk P w H (h.push { cls := .type "dict", data := .dict #[] }) h.objs.size (.dK []) :=
  ⟨Nat.zero_le _, beq_eq_false_iff_ne.mpr (Ne.symm (Nat.ne_of_lt hb)), [], .nil, Heap.DictOf.new h⟩
theorem dt_empty {P : Program} {w : World} {H : Hp} (h : Heap) (hb : sysModules < h.objs.size) : ObjOk P w H (h.push { cls := .type "dict", data := .dict #[] }) h.objs.size (.dT []) :=
  ⟨Nat.zero_le _, beq_eq_false_iff_ne.mpr (Ne.symm (Nat.ne_of_lt hb)), [], .nil, _, #[], 0, Heap.get?_push_size _ rfl, ⟨rfl, rfl, rfl⟩, rfl, rfl, List.nodup_nil⟩
/-- {}, to be a dict of the kind that is wanted -/
def tDNewK : TE := fun _ H Q => ∀ p, H p = none → Q (.ref p) (upd H p (.dK []))
def tDNewT : TE := fun _ H Q => ∀ p, H p = none → Q (.ref p) (upd H p (.dT []))
section
variable {X : Cx} {pos : Pos}
theorem pe_dnewK : PE X (.Dict [] [] pos) tDNewK := fun pins s σ H Q I h =>
  wpAny_Dict_empty ⟨.ref s.heap.objs.size, _, I.laid (a := s.heap.objs.size) (o := .dK []) (t' := s.toks) (fun _ _ q => Heap.get?_push_of_some _ q) (Nat.le_refl _) (dk_empty s.heap I.big), rfl, h _ (I.hok.fresh (Nat.le_refl _))⟩
theorem pe_dnewT : PE X (.Dict [] [] pos) tDNewT := fun pins s σ H Q I h =>
  wpAny_Dict_empty ⟨.ref s.heap.objs.size, _, I.laid (a := s.heap.objs.size) (o := .dT []) (t' := s.toks) (fun _ _ q => Heap.get?_push_of_some _ q) (Nat.le_refl _) (dt_empty s.heap I.big), rfl, h _ (I.hok.fresh (Nat.le_refl _))⟩
end

/-- the pairs of a display, from the left -/
def tPairs : List (TE × TE) → St → Hp → (List (V × V) → Hp → Prop) → Prop
  | [], _, H, Q => Q [] H
  | (tk, tv) :: r, σ, H, Q => tk σ H fun x H1 => tv σ H1 fun y H2 => tPairs r σ H2 fun ps H3 => Q ((x, y) :: ps) H3
abbrev VV : List (V × V) → List (Value × Value) → Prop := Paired fun p q => RelV p.1 q.1 ∧ RelV p.2 q.2
def PPs (X : Cx) (pos : Pos) (keys : List (Option Expr)) (values : List Expr) (trs : List (TE × TE)) : Prop :=
  ∀ (pins : List (Addr × Obj)) (s : Shared) (σ : St) (H : Hp) (Q : List (V × V) → Hp → Prop), Inv X pins σ H s → tPairs trs σ H Q →
    wpAny (model X.prog X.w) X.A (evalPairs (pairTrees keys values X.env pos)) (fun vs s' => ∃ ps H', Inv X pins σ H' s' ∧ VV ps vs ∧ Q ps H') X.xe s
theorem pps_nil {X : Cx} {pos : Pos} : PPs X pos [] [] [] := fun pins s σ H Q I h => pairTrees_nil_walk ⟨[], H, I, .nil, h⟩
theorem pps_cons {X : Cx} {pos : Pos} {k v : Expr} {ks : List (Option Expr)} {vs : List Expr} {tk tv : TE} {trs : List (TE × TE)} (hk : PE X k tk) (hv : PE X v tv) (hr : PPs X pos ks vs trs) :
    PPs X pos (some k :: ks) (v :: vs) ((tk, tv) :: trs) := fun pins s σ H Q I h =>
  pairTrees_cons_walk (thn (hk pins s σ H _ I h) fun u s1 ⟨x, H1, I1, rx, q1⟩ => thn (hv pins s1 σ H1 _ I1 q1) fun w2 s2 ⟨y, H2, I2, ry, q2⟩ =>
    thn (hr pins s2 σ H2 _ I2 q2) fun ws s3 ⟨ps, H3, I3, rel, q3⟩ => ⟨(x, y) :: ps, H3, I3, .cons ⟨rx, ry⟩ rel, q3⟩)

def mergeK (kvs more : List (Key × V)) : List (Key × V) := more.foldl (fun acc kv => putK acc kv.1 kv.2) kvs
theorem KV.merge : ∀ {more : List (Key × V)} {rs : List (Key × Value)} {kvs : List (Key × V)} {vs : List (Key × Value)}, KV more rs → KV kvs vs → KV (mergeK kvs more) (merged vs rs) := by
  intro more rs kvs vs r
  unfold KV at r
  induction r generalizing kvs vs with
  | nil => intro q; exact q
  | @cons p q ps qs h t ih =>
    intro r0
    have e : KV (putK kvs p.1 p.2) (stored vs q.1 q.2) := by
      have := r0.put p.1 h.2
      rw [← h.1]; exact this
    exact ih e
theorem length_mergeK : ∀ (more kvs : List (Key × V)), (mergeK kvs more).length ≤ kvs.length + more.length
  | [], kvs => by show kvs.length ≤ kvs.length + 0; omega
  | p :: r, kvs => by
    have h1 := length_mergeK r (putK kvs p.1 p.2)
    have h2 := length_putK kvs p.1 p.2
    show (mergeK (putK kvs p.1 p.2) r).length ≤ _
    rw [List.length_cons]; omega
theorem carries_of {P : Program} {w : World} : ∀ {kvs : List (Key × V)} {ws : List (Value × Value)}, VV (kvs.map fun kv => (kV kv.1, kv.2)) ws → ∃ rs, Carries (mixKind P w) ws rs ∧ KV kvs rs
  | [], _, r => by rw [List.map_nil] at r; cases r; exact ⟨[], True.intro, .nil⟩
  | p :: kvs, _, r => by
    rw [List.map_cons] at r
    cases r with
    | @cons a b as bs h t =>
      obtain ⟨rs, c, q⟩ := carries_of (P := P) (w := w) t
      obtain ⟨b1, b2⟩ := b
      exact ⟨(p.1, b2) :: rs, ⟨kV_is h.1, rfl, c⟩, .cons ⟨rfl, h.2⟩ q⟩
/-- {k: v, ..} with keys ints and texts; the new dict stands empty while the pairs are made -/
def tDisp (trs : List (TE × TE)) : TE := fun σ H Q => ∀ p, H p = none → tPairs trs σ (upd H p (.dK [])) fun ps H2 => H2 p = some (.dK []) ∧ ∃ kvs : List (Key × V), ps = kvs.map (fun kv => (kV kv.1, kv.2)) ∧ kvs.length ≤ 15 ∧ Q (.ref p) (upd H2 p (.dK (mergeK [] kvs)))
theorem pe_disp {X : Cx} {pos : Pos} {keys : List (Option Expr)} {values : List Expr} {trs : List (TE × TE)} (h : PPs X pos keys values trs) (hall : keys.all (·.isSome) = true) (hl : keys.length = values.length) (h0 : keys ≠ [])
    (h15 : keys.length ≤ 15) : PE X (.Dict keys values pos) (tDisp trs) := by
  intro pins s σ H Q I q
  have hn := I.hok.fresh (Nat.le_refl s.heap.objs.size)
  have I1 := I.laid (a := s.heap.objs.size) (o := .dK []) (h' := s.heap.push { cls := .type "dict", data := .dict #[] }) (t' := s.toks) (fun _ _ q => Heap.get?_push_of_some _ q) (Nat.le_refl _) (dk_empty s.heap I.big)
  refine wpAny_Dict_walk (knd := mixKind X.prog X.w) hall hl h0 h15 (thn (h pins _ σ _ _ I1 (q _ hn)) fun ws s2 ⟨ps, H2, I2, rel, e, kvs, ep, lk, q2⟩ => ?_)
  subst ep
  obtain ⟨rs, c, rk⟩ := carries_of (P := X.prog) (w := X.w) rel
  obtain ⟨z, hd, vs0, r0, dd⟩ := dk_of I2.hok e
  cases r0
  refine ⟨rs, c, dd, fun h' dd' hs => ⟨.ref s.heap.objs.size, _, ?_, rfl, q2⟩⟩
  have hz : (mergeK [] kvs).length ≤ sizeLine := by
    have h1 := length_mergeK kvs []
    rw [List.length_nil] at h1
    rw [sizeLine_eq]; omega
  have he : ∃ q, h'.get? s.heap.objs.size = some q := let ⟨q, _, _, hq, _⟩ := dd'; ⟨q, hq⟩
  exact d_write I2 (by rw [e]; exact True.intro) hs he (dk_new hz hd (rk.merge .nil) dd')


/-! ### methods -/
/-- a method call o.m(e) of a built-in, with one argument: what must be seen of the text -/
structure M1 (X : Cx) (o : Expr) (m : Str) (apos : Pos) (e : Expr) (cpos : Pos) : Prop where
  base : attributeBase o m X.env (eval o X.env) = eval o X.env
  few : ((backTo cpos (starEach [e] X.env)).all (fun x => !x.1) && (backToKw cpos (keywordEach [] X.env)).all (fun x => x.1.isSome)
    && decide (([e] : List Expr).length + ([] : List Keyword).length + (if ([] : List Keyword).isEmpty then 0 else 1) < 30)) = true
  line : (apos.endLine == cpos.line) = true
  trees : backTo cpos (starEach [e] X.env) = [(false, eval e X.env)]
structure M2 (X : Cx) (o : Expr) (m : Str) (apos : Pos) (e f : Expr) (cpos : Pos) : Prop where
  base : attributeBase o m X.env (eval o X.env) = eval o X.env
  few : ((backTo cpos (starEach [e, f] X.env)).all (fun x => !x.1) && (backToKw cpos (keywordEach [] X.env)).all (fun x => x.1.isSome)
    && decide (([e, f] : List Expr).length + ([] : List Keyword).length + (if ([] : List Keyword).isEmpty then 0 else 1) < 30)) = true
  line : (apos.endLine == cpos.line) = true
  trees : backTo cpos (starEach [e, f] X.env) = [(false, eval e X.env), (false, eval f X.env)]

/-- a is a dict, whatever its keys -/
def IsD (H : Hp) (a : Addr) : Prop := (∃ kvs, Rd H a (.dK kvs)) ∨ ∃ kvs, Rd H a (.dT kvs)
theorem isD_at {X : Cx} {pins : List (Addr × Obj)} {σ : St} {H : Hp} {s : Shared} {a : Addr} (I : Inv X pins σ H s) (d : IsD H a) :
    s.TypeIs (.ref a) "dict" ∧ (∀ b, Value.ref a = .ref b → ∃ ob, s.heap.get? b = some ob ∧ ob.dict = none) ∧ (a == sysModules) = false := by
  rcases d with ⟨kvs, e⟩ | ⟨kvs, e⟩
  · obtain ⟨_, hd, vs, _, dd⟩ := dk_rd I.hok e
    refine ⟨dd.typeIs, fun b q => ?_, hd⟩
    cases q
    obtain ⟨ob, _, _, h1, h2, _⟩ := dd
    exact ⟨ob, h1, h2.2.1⟩
  · obtain ⟨_, hd, xs, _, dd⟩ := dt_rd I.hok e
    refine ⟨dd.typeIs, fun b q => ?_, hd⟩
    cases q
    obtain ⟨ob, _, _, h1, h2, _⟩ := dd
    exact ⟨ob, h1, h2.2.1⟩

section
variable {X : Cx} {pins : List (Addr × Obj)} {σ : St} {H : Hp} {s : Shared} {a : Addr} {y d : V} {u r : Value} {o : Option V} {A : Around} {E : Value → Shared → Prop}
/-- d.get(y) -/
theorem d_get1 {Q : Value → Shared → Prop} (hu : A.units + 1 < cLine) (I : Inv X pins σ H s) (g : DGet H a y o) (ry : RelV y u) (h : ∀ w' s', Inv X pins σ H s' → RelV (o.getD .non) w' → Q w' s') :
    wpAny (model X.prog X.w) A (call (.builtin "dict.get") [.ref a, u]) Q E s := by
  rcases g with ⟨kvs, k, e, ey, l⟩ | ⟨kvs, k, b, e, ey, eb, l⟩
  · subst ey
    obtain ⟨z, hd, vs, rel, dd⟩ := dk_rd I.hok e
    refine call_meetsIn PySem.F.slot_dict_get dd.typeIs PySem.F.entry_dict_get (PySem.F.args_dict_get_2 _ _) (meets_dict_get (mixKind X.prog X.w) a (kV_is ry) hd) ⟨_, dd.mapOf, h _ _ (I.tok _) ?_⟩
    rw [l]
    exact (rel.val k).getD rfl
  · subst ey
    cases (show u = Value.ref b from ry)
    obtain ⟨z, hd, xs, rel, dd⟩ := dt_rd I.hok e
    refine call_meetsIn PySem.F.slot_dict_get dd.typeIs PySem.F.entry_dict_get (PySem.F.args_dict_get_2 _ _) (meetsH_dict_get (tupleKind (mixKind X.prog X.w)) a b hd) ⟨tupleKind_room_in1 hu, k, xs, key_of I.hok eb, dd, h _ _ (I.tok _) ?_⟩
    rw [l]
    exact (rel.val k).getD rfl
/-- d.get(y, x) -/
theorem d_get2 {Q : Value → Shared → Prop} (hu : A.units + 1 < cLine) (I : Inv X pins σ H s) (g : DGet H a y o) (ry : RelV y u) (rd : RelV d r) (h : ∀ w' s', Inv X pins σ H s' → RelV (o.getD d) w' → Q w' s') :
    wpAny (model X.prog X.w) A (call (.builtin "dict.get") [.ref a, u, r]) Q E s := by
  rcases g with ⟨kvs, k, e, ey, l⟩ | ⟨kvs, k, b, e, ey, eb, l⟩
  · subst ey
    obtain ⟨z, hd, vs, rel, dd⟩ := dk_rd I.hok e
    refine call_meetsIn PySem.F.slot_dict_get dd.typeIs PySem.F.entry_dict_get (PySem.F.args_dict_get_3 _ _ _) (meets_dict_get_default (mixKind X.prog X.w) a (kV_is ry) hd r) ⟨_, dd.mapOf, h _ _ (I.tok _) ?_⟩
    rw [l]
    exact (rel.val k).getD rd
  · subst ey
    cases (show u = Value.ref b from ry)
    obtain ⟨z, hd, xs, rel, dd⟩ := dt_rd I.hok e
    refine call_meetsIn PySem.F.slot_dict_get dd.typeIs PySem.F.entry_dict_get (PySem.F.args_dict_get_3 _ _ _) (meetsH_dict_get_default (tupleKind (mixKind X.prog X.w)) a b hd r) ⟨tupleKind_room_in1 hu, k, xs, key_of I.hok eb, dd, h _ _ (I.tok _) ?_⟩
    rw [l]
    exact (rel.val k).getD rd
end

def tDGet1 (td ty : TE) : TE := fun σ H Q => td σ H fun x H1 => ∃ a, x = .ref a ∧ IsD H1 a ∧ ty σ H1 fun y H2 => ∃ o, DGet H2 a y o ∧ Q (o.getD .non) H2
def tDGet2 (td ty tx : TE) : TE := fun σ H Q => td σ H fun x H1 => ∃ a, x = .ref a ∧ IsD H1 a ∧ ty σ H1 fun y H2 => tx σ H2 fun z H3 => ∃ o, DGet H3 a y o ∧ Q (o.getD z) H3
/-- d.pop(k): there; d.pop(k, x): there or not -/
def tDPop1 (td ty : TE) : TE := fun σ H Q => td σ H fun x H1 => ∃ a, x = .ref a ∧ IsD H1 a ∧ ty σ H1 fun y H2 => ∃ kvs k v, H2 a = some (.dK kvs) ∧ y = kV k ∧ valV kvs k = some v ∧ Q v (upd H2 a (.dK (dropK kvs k)))
def tDPop2 (td ty tx : TE) : TE := fun σ H Q => td σ H fun x H1 => ∃ a, x = .ref a ∧ IsD H1 a ∧ ty σ H1 fun y H2 => tx σ H2 fun z H3 => ∃ kvs k, H3 a = some (.dK kvs) ∧ y = kV k ∧
  (∀ v, valV kvs k = some v → Q v (upd H3 a (.dK (dropK kvs k)))) ∧ (valV kvs k = none → Q z H3)
section
variable {X : Cx} {o e f : Expr} {apos cpos : Pos} {td ty tx : TE}
theorem pe_dget1 (hu : X.A.units + 1 < cLine) (ho : PE X o td) (he : PE X e ty) (m : M1 X o "get" apos e cpos) : PE X (.Call (.Attribute o "get" apos) [e] [] cpos) (tDGet1 td ty) := by
  intro pins s σ H Q I h
  refine wpAny_Call_method m.base m.few m.line PySem.F.plainAttrs_dict PySem.F.slot_dict_get PySem.F.type_dict_get (thn (ho pins s σ H _ I h) fun u s1 ⟨x, H1, I1, rx, a, ex, d, q1⟩ => ?_)
  subst ex
  obtain rfl : u = Value.ref a := rx
  obtain ⟨t1, t2, _⟩ := isD_at I1 d
  refine ⟨t1, t2, ?_⟩
  rw [m.trees]
  refine Calls.callWith_builtin rfl (Calls.evalArgs_plain (Calls.spliced_cons (thn (he pins s1 σ H1 _ I1 q1) fun iv s2 ⟨y, H2, I2, ry, ov, g, q2⟩ => Calls.spliced_nil ?_)))
  exact d_get1 hu I2 g ry fun w' s3 I3 rw' => ⟨_, H2, I3, rw', q2⟩
theorem pe_dget2 (hu : X.A.units + 1 < cLine) (ho : PE X o td) (he : PE X e ty) (hf : PE X f tx) (m : M2 X o "get" apos e f cpos) : PE X (.Call (.Attribute o "get" apos) [e, f] [] cpos) (tDGet2 td ty tx) := by
  intro pins s σ H Q I h
  refine wpAny_Call_method m.base m.few m.line PySem.F.plainAttrs_dict PySem.F.slot_dict_get PySem.F.type_dict_get (thn (ho pins s σ H _ I h) fun u s1 ⟨x, H1, I1, rx, a, ex, d, q1⟩ => ?_)
  subst ex
  obtain rfl : u = Value.ref a := rx
  obtain ⟨t1, t2, _⟩ := isD_at I1 d
  refine ⟨t1, t2, ?_⟩
  rw [m.trees]
  refine Calls.callWith_builtin rfl (Calls.evalArgs_plain (Calls.spliced_cons (thn (he pins s1 σ H1 _ I1 q1) fun iv s2 ⟨y, H2, I2, ry, q2⟩ =>
    Calls.spliced_cons (thn (hf pins s2 σ H2 _ I2 q2) fun fv s3 ⟨z, H3, I3, rz, ov, g, q3⟩ => Calls.spliced_nil ?_))))
  exact d_get2 hu I3 g ry rz fun w' s4 I4 rw' => ⟨_, H3, I4, rw', q3⟩
theorem pe_dpop1 (ho : PE X o td) (he : PE X e ty) (m : M1 X o "pop" apos e cpos) : PE X (.Call (.Attribute o "pop" apos) [e] [] cpos) (tDPop1 td ty) := by
  intro pins s σ H Q I h
  refine wpAny_Call_method m.base m.few m.line PySem.F.plainAttrs_dict PySem.F.slot_dict_pop PySem.F.type_dict_pop (thn (ho pins s σ H _ I h) fun u s1 ⟨x, H1, I1, rx, a, ex, d, q1⟩ => ?_)
  subst ex
  obtain rfl : u = Value.ref a := rx
  obtain ⟨t1, t2, _⟩ := isD_at I1 d
  refine ⟨t1, t2, ?_⟩
  rw [m.trees]
  refine Calls.callWith_builtin rfl (Calls.evalArgs_plain (Calls.spliced_cons (thn (he pins s1 σ H1 _ I1 q1) fun iv s2 ⟨y, H2, I2, ry, kvs, k, v, ea, ey, l, q2⟩ => Calls.spliced_nil ?_)))
  subst ey
  exact d_pop I2 ea ry l (.inl rfl) fun w' s3 I3 rw' => ⟨v, _, I3, rw', q2⟩
theorem pe_dpop2 (ho : PE X o td) (he : PE X e ty) (hf : PE X f tx) (m : M2 X o "pop" apos e f cpos) : PE X (.Call (.Attribute o "pop" apos) [e, f] [] cpos) (tDPop2 td ty tx) := by
  intro pins s σ H Q I h
  refine wpAny_Call_method m.base m.few m.line PySem.F.plainAttrs_dict PySem.F.slot_dict_pop PySem.F.type_dict_pop (thn (ho pins s σ H _ I h) fun u s1 ⟨x, H1, I1, rx, a, ex, d, q1⟩ => ?_)
  subst ex
  obtain rfl : u = Value.ref a := rx
  obtain ⟨t1, t2, _⟩ := isD_at I1 d
  refine ⟨t1, t2, ?_⟩
  rw [m.trees]
  refine Calls.callWith_builtin rfl (Calls.evalArgs_plain (Calls.spliced_cons (thn (he pins s1 σ H1 _ I1 q1) fun iv s2 ⟨y, H2, I2, ry, q2⟩ =>
    Calls.spliced_cons (thn (hf pins s2 σ H2 _ I2 q2) fun fv s3 ⟨z, H3, I3, rz, kvs, k, ea, ey, q3, q4⟩ => Calls.spliced_nil ?_))))
  subst ey
  cases l : valV kvs k with
  | some v => exact d_pop I3 ea ry l (.inr ⟨fv, rfl⟩) fun w' s4 I4 rw' => ⟨v, _, I4, rw', q3 v l⟩
  | none => exact d_popD I3 ea ry l fun s4 I4 => ⟨z, H3, I4, rz, q4 l⟩
end

/-! ### dict(d): a copy -/
section
variable {X : Cx} {pins : List (Addr × Obj)} {σ : St} {H : Hp} {s : Shared} {a : Addr} {kvs : List (Key × V)} {A : Around} {E : Value → Shared → Prop}
theorem d_copyOf {Q : Value → Shared → Prop} (I : Inv X pins σ H s) (e : Rd H a (.dK kvs)) (h : ∀ p s', H p = none → Inv X pins σ (upd H p (.dK kvs)) s' → Q (.ref p) s') : wpAny (model X.prog X.w) A (call (.type "dict") [.ref a]) Q E s := by
  obtain ⟨z, hd, vs, rel, dd⟩ := dk_rd I.hok e
  refine kt_call_dict hd dd (by rw [← rel.length]; exact z) fun h' dd' hs => ?_
  refine h _ _ (I.hok.fresh (Nat.le_refl _)) (I.laid (a := s.heap.objs.size) (o := .dK kvs) (t' := s.toks) (fun b q hq => ?_) (Nat.le_refl _) (dk_new z (beq_eq_false_iff_ne.mpr (Ne.symm (Nat.ne_of_lt I.big))) rel dd'))
  exact (hs.2 b (Nat.ne_of_lt (Heap.lt_size hq))).trans (Heap.get?_push_of_some _ hq)
end


section
variable {X : Cx} {pins : List (Addr × Obj)} {σ : St} {H : Hp} {s : Shared} {a : Addr} {y : V} {u : Value} {A : Around} {E : Value → Shared → Prop}
/-- d[y], not there: a KeyError -/
theorem d_missing {Q : Value → Shared → Prop} (hu : A.units + 1 < cLine) (hh : A.handled = none) (I : Inv X pins σ H s) (g : DGet H a y none) (ry : RelV y u)
    (h : ∀ h' e t', Heap.NewExc s.heap h' e "KeyError" → E (.ref e) { s with heap := h', toks := t' }) : wpAny (model X.prog X.w) A (getItem (.ref a) u) Q E s := by
  rcases g with ⟨kvs, k, e, ey, l⟩ | ⟨kvs, k, b, e, ey, eb, l⟩
  · subst ey
    obtain ⟨z, hd, vs, rel, dd⟩ := dk_rd I.hok e
    have hn : valueAt vs k = none := RelO.none_of (by rw [l]; exact rel.val k)
    exact wpAny_getItem_missing_of (kV_is ry) hd hh dd.mapOf hn fun h' ex ne => h h' ex _ ne
  · subst ey
    cases (show u = Value.ref b from ry)
    obtain ⟨z, hd, xs, rel, dd⟩ := dt_rd I.hok e
    have hn : (atKey xs k).map (·.2) = none := RelO.none_of (by rw [l]; exact rel.val k)
    exact wpAny_getItem_missing_heap (tupleKind_room_in1 hu) (key_of I.hok eb) hd hh dd (Option.map_eq_none_iff.mp hn) fun h' ex ne => h h' ex _ ne
end
end L2

namespace Att
open PySem PySem.W PySem.Calls PyProof.Rows

/-! ### the script -/
theorem ints_of_wellAll {P : Params} {h : Heap} : ∀ (ns : List Int) (vs : List Value), WellAll P h vs (ns.map WData.int) → IntsAre vs ns := by
  intro ns
  induction ns with
  | nil =>
    intro vs w
    rw [List.map_nil] at w
    cases w
    exact .nil
  | cons n ns ih =>
    intro vs w
    rw [List.map_cons] at w
    cases w with
    | cons a b =>
      cases a
      exact .cons _ _ (ih _ b)

theorem script_of {l : OpenLaw} {n : Nat} (hn : l.most = some n) {P : Params} {h : Heap} {args : List WData} {vals : List Value}
    (hpre : l.row.toRowW.claim.pre args = true) (hwl : WellAll P h vals args) :
    ∃ a vs ns, vals = [Value.ref a] ∧ args = [WData.list (ns.map WData.int)] ∧ h.get? a = some { cls := .type "list", data := .seq vs.toArray } ∧ IntsAre vs ns ∧ ns.length ≤ n := by
  have hsh : WShape.hasAll [] args [.list .int] = true := (pre_splitW hpre).1
  have hc : l.pre.holds [] { args := args } = true := (pre_splitW hpre).2
  obtain ⟨d, r, rfl, h1, h2⟩ := hasAllW_cons hsh
  obtain rfl := hasAllW_nil h2
  obtain ⟨xs, rfl, h3⟩ := hasW_list h1
  obtain ⟨ns, rfl⟩ := items_int h3
  have hlen : ns.length ≤ n := by
    unfold OpenLaw.pre at hc
    have h4 : (WTm.not (.lt (.lit (.int (n : Int))) (.len (.arg 0)))).holds [] { args := [.list (ns.map .int)] } = true := by
      have h4 := (holds_andW hc).1
      rw [hn] at h4
      exact h4
    have h5 := condW_of h4 (w_not (w_lt w_lit (w_len_list (w_arg rfl))))
    rw [List.length_map] at h5
    refine Nat.le_of_not_lt fun q => ?_
    have q' : (n : Int) < ((ns.length : Nat) : Int) := by omega
    first
      | (rw [decide_eq_true q'] at h5; exact absurd h5 (by decide))
      | (simp at h5; omega)
  cases hwl with
  | cons w1 w2 =>
    cases w2
    cases w1 with
    | list ho hall => exact ⟨_, _, ns, rfl, rfl, ho, ints_of_wellAll ns _ hall, hlen⟩

theorem post_true (l : OpenLaw) (args : List WData) : l.row.toRowW.claim.post args (.bool true) args = true :=
  postW_of (r := l.row.toRowW) (X := (true == true))
    (show WShape.has [] (.bool true) .bool = true by first | rfl | decide | simp [WShape.has, WShape.arms, WShape.armsAll])
    (show (WTm.eq .res (.lit (.bool true))).value [] { args := args, res := some (.bool true), after := args } = some (.bool (true == true)) from w_eq_bool (w_res rfl) w_lit) rfl

/-! ### the attachment: holds_open's last premise (the goal 'hc' behind k_head) from a wpAny of the law's body -/
theorem attach {l : OpenLaw} {n : Nat} {q : Program} {loose : List Str} {XP : (Str → Option Value) → Heap → Prop} {YP : World → Heap → Prop} {d : DefRec} {x : Str}
    (hn : l.most = some n) (hdf : d.params.defaults = [])
    (hbind : ∀ pm cd doc v : Value, bindArgs (docDef d.name d.params d.body d.scope pm cd doc) ⟨[v], []⟩ = pure [(x, v)])
    (hx : d.scope.names.lookup x = some .local ∨ d.scope.names.lookup x = some .cell)
    (hk : d.scope.kind = .function) (hco : d.scope.isCoroutine = false) (hgen : d.scope.isGenerator = false)
    (body : ∀ (w : World) (s₀ s₁ s : Shared) (mg mb : Str → Option Value) (fa : Addr) (o : Obj) (pm cd doc : Value) (a : Addr) (vs : List Value) (ns : List Int),
      Ground q loose [] XP w s₀ mg mb s₁.heap → YP w s₁.heap →
      s₁.heap.get? fa = some o → o.data = .func (docDef d.name d.params d.body d.scope pm cd doc) → s₁.heap.CodeRec cd d.name → mg d.name = some (.ref fa) →
      s₁.heap.get? a = some { cls := .type "list", data := .seq vs.toArray } → IntsAre vs ns → ns.length ≤ n →
      s.gens = #[] → s.os = s₁.os →
      Fr s₁.heap s₁.heap.objs.size s.heap (bindL (envOfC d.name d.scope s₁.heap.objs.size fa cd).kindOf [(x, .ref a)] fun _ => none) →
      Cl s₁.heap.objs.size (cellsFrom (s₁.heap.objs.size + 1) d.scope.names []) s.heap (bindC (envOfC d.name d.scope s₁.heap.objs.size fa cd).kindOf [(x, .ref a)] fun _ => none) →
      wpAny (model l.prog w) (callerA.deeper (envOfC d.name d.scope s₁.heap.objs.size fa cd)) (execs d.body (envOfC d.name d.scope s₁.heap.objs.size fa cd))
        (fun f s' => f = .ret (.bool true) ∧ OldK s₁.heap s'.heap ∧ s'.os = s₁.os ∧ AllBare s'.gens) (fun _ _ => False) s) :
    WalkO q loose XP YP l.row.toRowW d [] (fun f vs => PySem.call f vs) := by
  intro w s₀ s₁ mg mb G Y fa o pm cd doc dV kV ho hd hcd hD hmg hg args vals as hpre hlay hrd hwl hlo
  obtain rfl : dV = .none := Dflts.none hD hdf
  obtain rfl : kV = .none := Dflts.noKw hD
  obtain ⟨a, vs, ns, rfl, rfl, hobj, hints, hlen⟩ := script_of hn hpre hwl
  refine enter_call ?_
  refine call_cells_ret (o := o) (by rw [depth_caller]; decide) ho (fd_plain hd) G.T.nolimit hcd (hbind pm cd doc (.ref a)) (fun y hy => ?_) (fun h₁ tk F X => ?_) hco hgen hk
  · obtain rfl : y = (x, Value.ref a) := List.mem_singleton.mp hy
    rcases hx with e | e
    · exact .inl e
    · exact .inr ⟨e, cellsFrom_some _ _ _ (.inl e)⟩
  · refine wpAny_mono (body w s₀ s₁ { s₁ with heap := h₁, toks := tk } mg mb fa o pm cd doc a vs ns G Y ho (fd_plain hd) hcd hmg hobj hints hlen hg rfl F X) (fun f s' hq => ?_) (fun _ _ hq => hq)
    obtain ⟨rfl, h2, h3, h4⟩ := hq
    exact ⟨.inl ⟨.bool true, .bool true, [], rfl, fun _ => rfl, .bool true, post_true l _, fun _ => ⟨List.Pairwise.nil, fun _ hm => (nomatch hm)⟩⟩, h2, h3, h4⟩

/-- the same from a codeAny of the CALL (for a layer whose function contracts speak of calls) -/
theorem attach_call {l : OpenLaw} {n : Nat} {q : Program} {loose : List Str} {XP : (Str → Option Value) → Heap → Prop} {YP : World → Heap → Prop} {d : DefRec}
    (hn : l.most = some n) (hdf : d.params.defaults = [])
    (call : ∀ (w : World) (s₀ s₁ : Shared) (mg mb : Str → Option Value) (fa : Addr) (o : Obj) (pm cd doc : Value) (a : Addr) (vs : List Value) (ns : List Int),
      Ground q loose [] XP w s₀ mg mb s₁.heap → YP w s₁.heap →
      s₁.heap.get? fa = some o → o.data = .func (docDef d.name d.params d.body d.scope pm cd doc) → s₁.heap.CodeRec cd d.name → mg d.name = some (.ref fa) →
      s₁.heap.get? a = some { cls := .type "list", data := .seq vs.toArray } → IntsAre vs ns → ns.length ≤ n → s₁.gens = #[] →
      codeAny (model l.prog w) callerA (.call (.ref fa) ⟨[.ref a], []⟩) (fun r s' => r = .ok (.ret (.bool true)) ∧ OldK s₁.heap s'.heap ∧ s'.os = s₁.os ∧ AllBare s'.gens) s₁) :
    WalkO q loose XP YP l.row.toRowW d [] (fun f vs => PySem.call f vs) := by
  intro w s₀ s₁ mg mb G Y fa o pm cd doc dV kV ho hd hcd hD hmg hg args vals as hpre hlay hrd hwl hlo
  obtain rfl : dV = .none := Dflts.none hD hdf
  obtain rfl : kV = .none := Dflts.noKw hD
  obtain ⟨a, vs, ns, rfl, rfl, hobj, hints, hlen⟩ := script_of hn hpre hwl
  refine enter_call (codeAny_mono (call w s₀ s₁ mg mb fa o pm cd doc a vs ns G Y ho (fd_plain hd) hcd hmg hobj hints hlen hg) fun r s' hq => ?_)
  obtain ⟨rfl, h2, h3, h4⟩ := hq
  exact ⟨.inl ⟨.bool true, .bool true, [], rfl, fun _ => rfl, .bool true, post_true l _, fun _ => ⟨List.Pairwise.nil, fun _ hm => (nomatch hm)⟩⟩, h2, h3, h4⟩

/-- the same where the top left finished generators (o_head chose holds_openN): nothing may have changed at all and no generator may be left -/
theorem attachN {l : OpenLaw} {n : Nat} {q : Program} {loose : List Str} {XP : (Str → Option Value) → Heap → Prop} {YP : World → Heap → Prop} {d : DefRec} {x : Str}
    (hn : l.most = some n) (hdf : d.params.defaults = [])
    (hbind : ∀ pm cd doc v : Value, bindArgs (docDef d.name d.params d.body d.scope pm cd doc) ⟨[v], []⟩ = pure [(x, v)])
    (hx : d.scope.names.lookup x = some .local ∨ d.scope.names.lookup x = some .cell)
    (hk : d.scope.kind = .function) (hco : d.scope.isCoroutine = false) (hgen : d.scope.isGenerator = false)
    (body : ∀ (w : World) (s₀ s₁ s : Shared) (mg mb : Str → Option Value) (fa : Addr) (o : Obj) (pm cd doc : Value) (a : Addr) (vs : List Value) (ns : List Int),
      Ground q loose [] XP w s₀ mg mb s₁.heap → YP w s₁.heap →
      s₁.heap.get? fa = some o → o.data = .func (docDef d.name d.params d.body d.scope pm cd doc) → s₁.heap.CodeRec cd d.name → mg d.name = some (.ref fa) →
      s₁.heap.get? a = some { cls := .type "list", data := .seq vs.toArray } → IntsAre vs ns → ns.length ≤ n →
      s.gens = #[] → s.os = s₁.os →
      Fr s₁.heap s₁.heap.objs.size s.heap (bindL (envOfC d.name d.scope s₁.heap.objs.size fa cd).kindOf [(x, .ref a)] fun _ => none) →
      Cl s₁.heap.objs.size (cellsFrom (s₁.heap.objs.size + 1) d.scope.names []) s.heap (bindC (envOfC d.name d.scope s₁.heap.objs.size fa cd).kindOf [(x, .ref a)] fun _ => none) →
      wpAny (model l.prog w) (callerA.deeper (envOfC d.name d.scope s₁.heap.objs.size fa cd)) (execs d.body (envOfC d.name d.scope s₁.heap.objs.size fa cd))
        (fun f s' => f = .ret (.bool true) ∧ (∀ b o, s₁.heap.get? b = some o → s'.heap.get? b = some o) ∧ s'.os = s₁.os ∧ s'.gens = #[]) (fun _ _ => False) s) :
    WalkN q loose XP YP l.row.toRowW d [] (fun f vs => PySem.call f vs) := by
  intro w s₀ s₁ mg mb G Y fa o pm cd doc dV kV ho hd hcd hD hmg hg args vals as hpre hlay hrd hwl hlo
  obtain rfl : dV = .none := Dflts.none hD hdf
  obtain rfl : kV = .none := Dflts.noKw hD
  obtain ⟨a, vs, ns, rfl, rfl, hobj, hints, hlen⟩ := script_of hn hpre hwl
  refine enter_callW ?_
  refine call_cells_ret (o := o) (by rw [depth_caller]; decide) ho (fd_plain hd) G.T.nolimit hcd (hbind pm cd doc (.ref a)) (fun y hy => ?_) (fun h₁ tk F X => ?_) hco hgen hk
  · obtain rfl : y = (x, Value.ref a) := List.mem_singleton.mp hy
    rcases hx with e | e
    · exact .inl e
    · exact .inr ⟨e, cellsFrom_some _ _ _ (.inl e)⟩
  · refine wpAny_mono (body w s₀ s₁ { s₁ with heap := h₁, toks := tk } mg mb fa o pm cd doc a vs ns G Y ho (fd_plain hd) hcd hmg hobj hints hlen hg rfl F X) (fun f s' hq => ?_) (fun _ _ hq => hq)
    obtain ⟨rfl, h2, h3, h4⟩ := hq
    exact ⟨.inl ⟨.bool true, .bool true, [], rfl, fun _ => rfl, .bool true, post_true l _, fun _ => ⟨List.Pairwise.nil, fun _ hm => (nomatch hm)⟩⟩, h2, h3, h4⟩

/-! ### rules over ANY heap (no ledger) from facts about the written part K: the library's own take a ledger (News) for what they write -/
section
variable {prog : Program} {w : World} {A : Around} {E : Value → Shared → Prop} {s : Shared} {K : Frag}

/-- a def of the module, or a method (qual 'C.m'), entered: the frame is the next address; cells behind it -/
theorem call_fn {R : Result → Shared → Prop} {name qual : Str} {params : Arguments} {body : List Stmt} {scope : Scope} {dV kV doc pm cdv ct oc : Value} {an od : Option Addr} {osl : Array (Option Value)} {f : Addr} {args : Args} {binds : List (Str × Value)}
    (X : K.In s.heap) (hlim : s.heap.NoLimit) (ho : K.lookup f = some ⟨oc, od, .func (fnOf name qual params body scope dV kV doc pm an cdv ct), osl⟩) (hcd : codeIn K cdv qual = true) (hroom : A.depth < recursionLimit)
    (hbind : BindsTo s (fnOf name qual params body scope dV kV doc pm an cdv ct) args binds)
    (hkind : (binds.all fun y => scope.names.lookup y.1 == some .local || scope.names.lookup y.1 == some .cell) = true)
    (h : ∀ s₁, InCallC s s.heap.objs.size (bindL (envOfC qual scope s.heap.objs.size f cdv).kindOf binds fun _ => none) (cellsFrom (s.heap.objs.size + 1) scope.names [])
        (bindC (envOfC qual scope s.heap.objs.size f cdv).kindOf binds fun _ => none) s₁ →
      wpAny (model prog w) (A.deeper (envOfC qual scope s.heap.objs.size f cdv)) (execs body (envOfC qual scope s.heap.objs.size f cdv))
        (fun fl s' => R (.ok (.ret (match fl with | .ret v => v | _ => .none))) s')
        (fun e s' => wpAny (model prog w) (A.deeper (envOfC qual scope s.heap.objs.size f cdv)) (leaving (envOfC qual scope s.heap.objs.size f cdv) e) (fun _ s'' => R (.error e) s'') (fun e' s'' => R (.error e') s'') s') s₁)
    (hco : scope.isCoroutine = false) (hgen : scope.isGenerator = false) (hk : scope.kind = .function) : codeAny (model prog w) A (.call (.ref f) args) R s := by
  refine codeAny_call_function hroom (X _ _ ho) rfl hco hgen rfl (codeRec_of X hcd) (hbind _ _ _ _ ?_)
  refine wpAny_newFunctionEnv_cells hk (kindsX hkind _) fun env he s₁ x => ?_
  subst he
  exact ⟨hlim.keeps x.toInCall.keep, codeAny_func (h s₁ x)⟩

/-- C(..): dict at size, instance at size + 1, then __init__ -/
theorem make_obj {R : Result → Shared → Prop} {C fI : Addr} {rest : List Value} {kw : List (Str × Value)}
    (X : K.In s.heap) (hm : makesIn K C = true) (hi : findIn K (.ref C) "__init__" = some (some (.ref fI))) (hf : isFn K (.ref fI) = true)
    (h : codeAny (model prog w) (A.under (.builtin "type.__call__" ⟨.ref C :: rest, kw⟩)) (.call (.ref fI) ⟨.ref (s.heap.objs.size + 1) :: rest, kw⟩) (InitBack (s.heap.objs.size + 1) R)
      { s with heap := (s.heap.push emptyDict).push (instObj C s.heap.objs.size) }) : codeAny (model prog w) A (.call (.ref C) ⟨rest, kw⟩) R s := by
  obtain ⟨hh, g, d, t, os⟩ := s
  exact make_core (makes_of X hm) (looks_findIn X hi) (fun self => bind_fn X self (beq_iff_eq.mp hf)) (.inl rfl) h

/-- x.name where the instance's dict holds the name and the class does not -/
theorem get_field {x C : Addr} {ox : Obj} {es : List DictEntry} {n : Nat} {name : Str} {expr : Bool} {v : Value} {Q : Value → Shared → Prop}
    (X : K.In s.heap) (I : PySem.W.InstAt s.heap x ox C (some (dictOf es n))) (hg : plainGet K C name = true) (hh : hasDictIn K C = true) (ha : findIn K (.ref C) name = some none)
    (hl : getL name es = some (some v)) (hv : handedIn v = true) (h : Q v { s with toks := s.toks + 1 }) : wpAny (model prog w) A (getAttr (.ref x) name expr) Q E s :=
  get_value X I (plainGet_of hg).1 (findObj_own hh ha rfl hl) hv h

/-- x.m(..): the method found in the class -/
theorem get_method {x C f : Addr} {ox : Obj} {es : List DictEntry} {n : Nat} {name : Str} {pl : Sem Bool} {Q : Value × List Value → Shared → Prop}
    (X : K.In s.heap) (I : PySem.W.InstAt s.heap x ox C (some (dictOf es n))) (hg : plainGet K C name = true) (hf : findIn K (.ref C) name = some (some (.ref f))) (ht : isFn K (.ref f) = true)
    (hl : getL name es = some none) (h : Q (.ref f, [.ref x]) s) : wpAny (model prog w) A (getMethod (.ref x) name pl) Q E s :=
  method_fn X I (plainGet_of hg).1 (plainGet_of hg).2 hf (beq_iff_eq.mp ht) (by show (lookIn name (dictOf es n)).map _ = _; rw [lookIn_dict, hl]; rfl) h

/-! the whole heap as the ledger: makes every rule that writes through a ledger a rule over any heap -/
def noObjs (h : Heap) : Heap := { h with objs := #[] }
theorem noObjs_get (h : Heap) (b : Addr) : (noObjs h).get? b = none := by
  cases e : (noObjs h).get? b with
  | none => rfl
  | some o => exact absurd (Heap.lt_size e) (Nat.not_lt_zero _)
def ledger (h : Heap) (L d : Addr) : List (Addr × Obj) := (List.range h.objs.size).filterMap fun a => if a = L ∨ a = d then none else (h.get? a).map fun o => (a, o)
theorem mem_ledger {h : Heap} {L d a : Addr} {o : Obj} : (a, o) ∈ ledger h L d ↔ a ≠ L ∧ a ≠ d ∧ h.get? a = some o := by
  unfold ledger
  rw [List.mem_filterMap]
  constructor
  · rintro ⟨b, _, e⟩
    split at e
    · cases e
    · rename_i hb
      obtain ⟨o', ho, e'⟩ := Option.map_eq_some_iff.mp e
      cases e'
      exact ⟨fun q => hb (.inl q), fun q => hb (.inr q), ho⟩
  · rintro ⟨n1, n2, ho⟩
    refine ⟨a, List.mem_range.mpr (Heap.lt_size ho), ?_⟩
    rw [if_neg (show ¬ (a = L ∨ a = d) from fun q => q.elim n1 n2), ho] <;> rfl
theorem news_ledger {h : Heap} {L d : Addr} {od : Obj} (hne : d ≠ L) (ho : h.get? d = some od) : News (noObjs h) L h ([] ++ (d, od) :: ledger h L d) := by
  rintro ⟨a, o⟩ hp
  rcases List.mem_cons.mp hp with e | hp
  · cases e
    exact ⟨ho, hne, noObjs_get _ _⟩
  · obtain ⟨n1, n2, e⟩ := mem_ledger.mp hp
    exact ⟨e, n1, noObjs_get _ _⟩
theorem fr_all {h : Heap} {L : Addr} {m : Str → Option Value} (n : h.Ns L m) : Fr (noObjs h) L h m :=
  ⟨n, fun b o e => (by rw [noObjs_get] at e; cases e), Nat.zero_le _⟩
/-- Upd of the head entry (for append_K, setItem_K ..) -/
theorem upd_ledger {h : Heap} {L d : Addr} {o o' : Obj} : Upd d o o' ((d, o) :: ledger h L d) ((d, o') :: ledger h L d) :=
  .head fun ⟨_, _⟩ hp => (mem_ledger.mp hp).2.1

/-- x.name = v over any heap: L is any namespace of the heap (the frame's, say): its map stays, its object is not told; all else but the dict stays -/
theorem set_field {x C dx L : Addr} {ox : Obj} {m : Str → Option Value} {es es' : List DictEntry} {n n' : Nat} {name : Str} {v : Value} {Q : Unit → Shared → Prop}
    (X : K.In s.heap) (I : PySem.W.InstAt s.heap x ox C (some (dictOf es n))) (hd : ox.dict = some dx) (hL : s.heap.Ns L m) (hne : dx ≠ L)
    (hs : findIn K (.ref C) "__setattr__" = some (some (.builtin "object.__setattr__"))) (hp : plainOver K C = true) (ht : takerIn K C name = some none) (hh : hasDictIn K C = true) (hl : (getL name es).isSome = true)
    (e : (putL name (PyData.keyHash w.params name) (.str name (s.toks + 1)) v es, putN name es n) = (es', n')) (hz : es'.length ≤ 1000)
    (h : ∀ h' : Heap, h'.Ns L m → h'.get? dx = some (dictOf es' n') → (∀ b o, b ≠ dx → b ≠ L → s.heap.get? b = some o → h'.get? b = some o) → Q () { s with heap := h', toks := s.toks + 2 }) :
    wpAny (model prog w) A (setAttr (.ref x) name v) Q E s := by
  obtain ⟨e1, e2⟩ := Prod.mk.inj e
  have hdx : s.heap.get? dx = some (dictOf es n) := by
    have := I.dict
    rw [hd] at this
    exact this
  refine set_plain X I hs (osa_dict (s := { s with toks := s.toks + 1 }) (h₀ := noObjs s.heap) (L := L) (m := m) (od := dictOf es n) (od' := dictOf es' n') (es := es') (n := n') (pre := []) (post := ledger s.heap L dx)
    (fr_all hL) (news_ledger hne hdx) X I hd hp ht hh hl (fun _ q => nomatch q) (fun ⟨_, _⟩ q => (mem_ledger.mp q).2.1) (by rw [putName_dict, e1, e2]) rfl hz fun h' F' N' => ?_)
  exact h h' F'.ns (N'.get (List.Mem.head _)) fun b o n1 n2 ho => N'.get (List.Mem.tail _ (mem_ledger.mpr ⟨n2, n1, ho⟩))
end
end Att

namespace L2
open PySem PySem.Spec PyProof.Rows

theorem vals_ints : ∀ {vs : List Value} {ns : List Int}, IntsAre vs ns → Vals (ns.map V.int) vs
  | _, _, .nil => .nil
  | _, _, .cons n t h => .cons ⟨t, rfl⟩ (vals_ints h)

/-- nothing is tracked but the script, known to the object (or it is an object of the module) -/
def Only (H : Hp) : Prop := ∀ b, H b = none ∨ ∃ o xs, H b = some (.frz o (.lst xs))

/-- THE HEAD: the law's promise, at the heap behind the top. F, the promise of the law's def, may use that base is part of the heap (so K.In base, base.Ns mainGlobals mg stand in Mod) -/
theorem law_call {P : Program} {w : World} {K : PySem.W.Frag} {mg mb : Str → Option Value} {CX : CXT} {k : Nat} {fa a : Addr} {fd : FuncData} {x : Str} {sp : Sp} {s₁ : Shared} {vs : List Value} {ns : List Int}
    (KX : K.In s₁.heap) (hns : s₁.heap.Ns mainGlobals mg) (hb : s₁.heap.Ns builtinsNs mb) (hbb : ∀ x : Str, x ≠ "__name__" → mb x = bootBuiltins x) (hlim : s₁.heap.NoLimit) (hg : s₁.gens = #[])
    (ha : s₁.heap.get? a = some { cls := .type "list", data := .seq vs.toArray }) (hi : IntsAre vs ns) (hl : ns.length ≤ sizeLine) (hr : Room k callerA)
    (F : ∀ base : Heap, K.In base → base.Ns mainGlobals mg → FnOk P w K mg base CX k fa fd [x] sp) (hbind : ∀ (s : Shared) (u : Value), BindsTo s fd ⟨[u], []⟩ [(x, u)])
    (hsp : ∀ H : Hp, Only H → SqL K H a (ns.map V.int) → sp [.ref a] H (fun v _ => v = .bl true) fun _ _ _ => False)
    (hCX : ∀ H e s', CX [] H s₁ (fun _ _ _ => False) e s' → False) :
    codeAny (model P w) callerA (.call (.ref fa) ⟨[.ref a], []⟩) (fun r s' => r = .ok (.ret (.bool true)) ∧ OldK s₁.heap s'.heap ∧ s'.os = s₁.os ∧ AllBare s'.gens) s₁ := by
  have rv := vals_ints hi
  have lenV := hi.length
  -- from an abstract heap in which nothing but the script may be tracked
  have core : ∀ H : Hp, Only H → SqL K H a (ns.map V.int) → HOk P w H s₁.heap → (∀ b, H b ≠ none → b = a) → (H a ≠ none → K.lookup a = none) →
      codeAny (model P w) callerA (.call (.ref fa) ⟨[.ref a], []⟩) (fun r s' => r = .ok (.ret (.bool true)) ∧ OldK s₁.heap s'.heap ∧ s'.os = s₁.os ∧ AllBare s'.gens) s₁ := by
    intro H hO hS hok hA hK
    have base_of : ∀ {b : Addr} {o : Obj}, s₁.heap.get? b = some o → H b = none → (hidT s₁.heap H).get? b = some o := fun e n => hidT_get e n
    have noA : ∀ {b : Addr} {o : Obj} {es : Array DictEntry} {ep : Nat}, s₁.heap.get? b = some o → o.data = .dict es ep → H b = none := fun {b o es ep} e d => by
      cases q : H b with
      | none => rfl
      | some u =>
        have e' : b = a := hA b (by rw [q]; simp)
        subst e'
        rw [ha] at e; cases e
        have d' : Data.seq vs.toArray _ = Data.dict es ep := d
        cases d'
    have nsK : ∀ {b : Addr} {m : Str → Option Value}, s₁.heap.Ns b m → (hidT s₁.heap H).Ns b m := fun {b m} ⟨o, es, ep, e, d, r⟩ => ⟨o, es, ep, base_of e (noA e d), d, r⟩
    have hKb : K.In (hidT s₁.heap H) := fun b o e => base_of (KX b o e) (by
      cases q : H b with
      | none => rfl
      | some u =>
        have e' : b = a := hA b (by rw [q]; simp)
        subst e'
        rw [hK (by rw [q]; simp)] at e; cases e)
    have hM : Mod K mg (hidT s₁.heap H) := ⟨hKb, nsK hns, ⟨mb, nsK hb, hbb⟩, let ⟨mc, h1, h2⟩ := hlim; ⟨mc, nsK h1, h2⟩⟩
    have e0 : Env0 P w K mg (hidT s₁.heap H) callerA [] s₁ H := ⟨rfl, hM, fun b o e => of_hidT e, Nat.le_of_eq (hidT_size _ _), trivial, fun b hb => absurd (show b ∈ ([] : List Addr) from hb) (by simp), hok, .of_eq hg⟩
    refine codeAny_mono ((F _ hKb (nsK hns)).run callerA [] s₁ H ⟨[.ref a], []⟩ [.ref a] [.ref a] _ _ hr e0 (hbind s₁ (.ref a)) (.cons rfl .nil) (hsp H hO hS)) fun r s' h => ?_
    cases r with
    | error e => exact (hCX H e s' h).elim
    | ok fl =>
      cases fl with
      | next => exact False.elim h
      | brk => exact False.elim h
      | cont => exact False.elim h
      | ret u =>
        obtain ⟨v, H', os, bare, un, hok', r', q⟩ := h
        have q' : v = .bl true := q
        subst q'
        obtain rfl : u = Value.bool true := r'
        refine ⟨rfl, OldK.of_keep fun b o e => ?_, os, bare⟩
        cases q : H b with
        | none => exact un.keep b o e q (by intro z; exact absurd (show b ∈ ([] : List Addr) from z) (by simp)) (by simp)
        | some u =>
          rcases hO b with z | ⟨ob, xs, z⟩
          · rw [q] at z; cases z
          · have z2 := un.frzs b ob _ z
            obtain ⟨e1, _⟩ := hok b _ z
            obtain ⟨e2, _⟩ := hok' b _ z2
            rw [e] at e1; cases e1
            exact e2
  cases hk : K.lookup a with
  | some o =>
    -- the script is one of the module's own objects
    have e := KX a o hk
    rw [ha] at e
    cases e
    refine core (fun _ => none) (fun _ => .inl rfl) (.inr ⟨_, vs.toArray, _, hk, rfl, rfl, rfl, by rw [List.size_toArray, lenV]; exact hl, by simpa using rv⟩) (fun b u z => by have z' : (none : Option HO) = some u := z; cases z') (fun b z => absurd rfl z) fun z => absurd rfl z
  | none =>
    refine core (fun b => if b = a then some (.frz { cls := .type "list", data := .seq vs.toArray } (.lst (ns.map V.int))) else none) (fun b => ?_) (.inl (.inr ⟨{ cls := .type "list", data := .seq vs.toArray }, if_pos rfl⟩)) (fun b u z => ?_) (fun b z => ?_) fun _ => hk
    · by_cases hb : b = a
      · exact .inr ⟨_, _, if_pos hb⟩
      · exact .inl (if_neg hb)
    · by_cases hb : b = a
      · have z' := (if_pos hb).symm.trans z
        cases z'
        subst hb
        exact ⟨ha, by rw [List.length_map]; exact hl, vs, _, rv, ha⟩
      · have z' := (if_neg hb).symm.trans z
        cases z'
    · by_cases hb : b = a
      · exact hb
      · exact absurd (if_neg hb) z
end L2

namespace L2
open PySem PySem.Spec PyProof.Rows

abbrev KOf {K : PySem.W.Frag} {h : Heap} (_ : K.In h) : PySem.W.Frag := K

/-- the goal that k_head leaves (case hc), from the law's promise. F gives the function object fd (K's own) once, then the promise over every base -/
theorem walk_of {l : PySem.W.OpenLaw} {n k : Nat} {q : Program} {loose : List Str} {XP : (Str → Option Value) → Heap → Prop} {YP : World → Heap → Prop} {d : DefRec} {K : Params → PySem.W.Frag} {CX : World → CXT} {sp : World → Sp} {x : Str}
    (hn : l.most = some n) (hn2 : n ≤ sizeLine) (hdf : d.params.defaults = []) (hr : Room k callerA)
    (hY : ∀ (w : World) (h : Heap), YP w h → (K w.params).In h)
    (F : ∀ (w : World) (mg : Str → Option Value) (fa : Addr) (h : Heap), (K w.params).In h → h.Ns mainGlobals mg → mg d.name = some (.ref fa) →
      ∃ fd : FuncData, (∀ (s : Shared) (u : Value), BindsTo s fd ⟨[u], []⟩ [(x, u)]) ∧
        ∀ base : Heap, (K w.params).In base → base.Ns mainGlobals mg → FnOk l.prog w (K w.params) mg base (CX w) k fa fd [x] (sp w))
    (hsp : ∀ (w : World) (H : Hp) (a : Addr) (ns : List Int), ns.length ≤ n → Only H → SqL (K w.params) H a (ns.map V.int) → sp w [.ref a] H (fun v _ => v = .bl true) fun _ _ _ => False)
    (hCX : ∀ (w : World) (H : Hp) (s : Shared) (e : Value) (s' : Shared), CX w [] H s (fun _ _ _ => False) e s' → False) :
    PySem.W.WalkO q loose XP YP l.row.toRowW d [] (fun f vs => PySem.call f vs) := by
  refine Att.attach_call hn hdf fun w s₀ s₁ mg mb fa o pm cd doc a vs ns G Y ho hd hcd hmg hobj hints hlen hg => ?_
  have KX := hY w _ Y
  obtain ⟨fd, hb, hF⟩ := F w mg fa _ KX G.T.g hmg
  exact law_call KX G.T.g G.T.b G.T.builtins G.T.nolimit hg hobj hints (Nat.le_trans hlen hn2) hr hF hb (fun H hO hS => hsp w H a ns hlen hO hS) fun H e s' => hCX w H s₁ e s'
/-- the same where the promise hangs on the written part alone: (sp := My.sp_law), no hole under a binder -/
theorem walk_ofK {l : PySem.W.OpenLaw} {n k : Nat} {q : Program} {loose : List Str} {XP : (Str → Option Value) → Heap → Prop} {YP : World → Heap → Prop} {d : DefRec} {K : Params → PySem.W.Frag} {CX : CXT} {sp : PySem.W.Frag → Sp} {x : Str}
    (hn : l.most = some n) (hn2 : n ≤ sizeLine) (hdf : d.params.defaults = []) (hr : Room k callerA)
    (hY : ∀ (w : World) (h : Heap), YP w h → (K w.params).In h)
    (F : ∀ (w : World) (mg : Str → Option Value) (fa : Addr) (h : Heap), (K w.params).In h → h.Ns mainGlobals mg → mg d.name = some (.ref fa) →
      ∃ fd : FuncData, (∀ (s : Shared) (u : Value), BindsTo s fd ⟨[u], []⟩ [(x, u)]) ∧
        ∀ base : Heap, (K w.params).In base → base.Ns mainGlobals mg → FnOk l.prog w (K w.params) mg base CX k fa fd [x] (sp (K w.params)))
    (hsp : ∀ (K : PySem.W.Frag) (H : Hp) (a : Addr) (ns : List Int), ns.length ≤ n → Only H → SqL K H a (ns.map V.int) → sp K [.ref a] H (fun v _ => v = .bl true) fun _ _ _ => False)
    (hCX : ∀ (H : Hp) (s : Shared) (e : Value) (s' : Shared), CX [] H s (fun _ _ _ => False) e s' → False) :
    PySem.W.WalkO q loose XP YP l.row.toRowW d [] (fun f vs => PySem.call f vs) :=
  walk_of (K := K) (CX := fun _ => CX) (sp := fun w => sp (K w.params)) hn hn2 hdf hr hY F (fun w H a ns h1 h2 h3 => hsp (K w.params) H a ns h1 h2 h3) fun _ H s e s' => hCX H s e s'
end L2

/- THE LAST THEOREM (shape; LID, My.* are yours):
   My.Adr: a structure of the addresses that your layer names (classes, functions); My.Txt K t: a structure (Prop) of the equations over K;
   My.txt_mk : {K} {implicit addresses ..} (e1 : nsIn K mainGlobals "law" = some (some (.ref f))) (e2 : K.lookup f = some ⟨oc, od, .func (fnOf "law" "law" params body scope dV kV doc pm an cdv ct), sl⟩) (e3 : codeIn K cdv "law" = true) .. : ∃ t, My.Txt K t

set_option maxRecDepth 100000 in
set_option maxHeartbeats 0 in
theorem PySem.Challenge.cw_LID_holds : PySem.Challenge.rw_LID.Holds := by
  w_on; o_law; k_head; (case hw => w_witness2)
  k_fill
  refine L2.walk_of (l := PySem.Challenge.rw_LID) (n := 63) (k := 40) (x := "script") (CX := fun w => ..) (sp := fun _ => My.sp_law) rfl (by decide) rfl ⟨rfl, by decide, by decide⟩ (fun w h Y => PySem.W.kIn_of Y) ?F ?S ?C
  case F =>
    intro w mg fa h KX G hmg
    have T : ∃ t, My.Txt (L2.KOf KX) t := by
      dsimp only [L2.KOf]                          -- K must stand as «<heap const> w.params» for k_is
      refine' My.txt_mk ?e1 ?e2 ?e3 ..
      (case e1 => PySem.W.k_is)                    -- in the order: a name -> its address -> its object -> its parts
      (case e2 => PySem.W.k_is)
      ..
    obtain ⟨t, T⟩ := T
    have e0 := hmg.symm.trans (PySem.W.mg_of KX G T.law)
    cases e0                                       -- fa is the law's own address
    exact ⟨_, fun s u => .of_eq rfl, fun base kb nb => My.law_fn T kb nb⟩     -- if «.of_eq rfl» comes too early: refine' ⟨_, ?b, fun base kb nb => My.law_fn T kb nb⟩; exact fun s u => .of_eq rfl
  case S => exact fun w H a ns hl hO hS => ..
  case C => exact ..
(the tactic k_is has no namespace: write k_is) -/

/-! SHORT WORDS over the layer: a def of the text, its body, what a loop and a test want. -/
namespace L2
open PySem PySem.Spec PyProof.Rows

/-! ### the text by places -/
/-- the j-th statement of a class's body -/
def inClass (s : Stmt) (j : Nat) : Stmt := match s with
  | .ClassDef _ _ _ body _ _ _ _ _ _ _ => body.getD j (.Pass ⟨0, 0, 0, 0⟩)
  | _ => .Pass ⟨0, 0, 0, 0⟩
def defArgs (s : Stmt) : Arguments := match s with
  | .FunctionDef _ a _ _ _ _ _ _ _ _ => a
  | _ => { posonlyargs := [], args := [], vararg := none, kwonlyargs := [], kw_defaults := [], kwarg := none, defaults := [] }
def defBody (s : Stmt) : List Stmt := match s with
  | .FunctionDef _ _ b _ _ _ _ _ _ _ => b
  | _ => []
def defScope (s : Stmt) : Scope := match s with
  | .FunctionDef _ _ _ _ _ _ sc _ _ _ => sc
  | _ => { kind := .function, names := [], isGenerator := false, isCoroutine := false }

/-! ### no exception leaves a def -/
abbrev CX0 : CXT := fun _ _ _ _ _ _ => False
abbrev E0 : XK := fun _ _ _ => False
theorem pass0 {X : Cx} : Passes CX0 X E0 := fun _ _ _ _ _ _ _ h => h.elim

/-! ### a def (or method) of the text as it stands behind the top -/
structure Fun (K : PySem.W.Frag) (x qual : Str) (st : Stmt) (f : Addr) (fd : FuncData) : Prop where
  ex : ∃ (oc : Value) (od : Option Addr) (kV doc pm : Value) (an : Option Addr) (cdv ct : Value) (osl : Array (Option Value)),
    fd = PySem.W.fnOf x qual (defArgs st) (defBody st) (defScope st) .none kV doc pm an cdv ct ∧ K.lookup f = some ⟨oc, od, .func fd, osl⟩ ∧ PySem.W.codeIn K cdv qual = true
  kp : PySem.W.keepIn K (.ref f) = true
section
variable {P : Program} {w : World} {K : PySem.W.Frag} {mg : Str → Option Value} {base : Heap}
/-- THE RULE for a def: its body as a term of rules, and the reading of that term -/
theorem Fun.ok {x qual : Str} {st : Stmt} {f : Addr} {fd : FuncData} {N ps : List Str} {k : Nat} {sp : Sp} (F : Fun K x qual st f fd) (S : FnScope N ps (defScope st)) (len : ∀ vs H Q E, sp vs H Q E → vs.length = ps.length)
    (hbody : ∀ (cdv : Value) (A : Around) (outer : List Env) (s : Shared) (H : Hp) (vs : List V) (Q : VK) (E : XK), Room k (A.deeper (envOfC qual (defScope st) s.heap.objs.size f cdv)) → sp vs H Q E →
      ∃ t, PSs (cxOf CX0 P w K mg base N qual (defScope st) f cdv A outer s H E).nox (defBody st) t ∧ t { nx := fun _ H' => Q .non H', rt := Q } (start N vs) H) : FnOk P w K mg base CX0 (k + 1) f fd ps sp := by
  obtain ⟨oc, od, kV, doc, pm, an, cdv, ct, osl, rfl, lk, hcd⟩ := F.ex
  refine fn_of lk hcd S len fun A outer s H vs Q E hr hsp => ?_
  obtain ⟨t, h, q⟩ := hbody cdv A outer s H vs Q E hr hsp
  exact ⟨t, h.nox, q⟩
/-- how its arguments bind (no defaults): h is «fun _ _ _ _ _ _ us hl => match us, hl with | [_, _], _ => rfl», one _ a parameter -/
theorem Fun.binds {x qual : Str} {st : Stmt} {f : Addr} {fd : FuncData} {ps : List Str} (F : Fun K x qual st f fd)
    (h : ∀ (kV doc pm : Value) (an : Option Addr) (cdv ct : Value) (us : List Value), us.length = ps.length → bindArgs (PySem.W.fnOf x qual (defArgs st) (defBody st) (defScope st) .none kV doc pm an cdv ct) ⟨us, []⟩ = pure (ps.zip us)) : Binds K fd ps [] := by
  obtain ⟨oc, od, kV, doc, pm, an, cdv, ct, osl, rfl, lk, hcd⟩ := F.ex
  exact .all (h kV doc pm an cdv ct)
theorem fun_mk {x qual : Str} {st : Stmt} {f : Addr} {oc : Value} {od an : Option Addr} {osl : Array (Option Value)} {kV doc pm cdv ct : Value} (l : K.lookup f = some ⟨oc, od, .func (PySem.W.fnOf x qual (defArgs st) (defBody st) (defScope st) .none kV doc pm an cdv ct), osl⟩)
    (c : PySem.W.codeIn K cdv qual = true) (k : PySem.W.keepIn K (.ref f) = true) : Fun K x qual st f (PySem.W.fnOf x qual (defArgs st) (defBody st) (defScope st) .none kV doc pm an cdv ct) := ⟨⟨oc, od, kV, doc, pm, an, cdv, ct, osl, rfl, l, c⟩, k⟩
end
theorem hu_of {A : Around} {k : Nat} (hr : Room k A) : A.units + 1 < cLine := Nat.lt_of_le_of_lt (Nat.add_le_add_left (by decide : 1 ≤ 64) _) hr.units
theorem small1000 {n : Nat} (h : n ≤ 1000) : n < sizeLine := Nat.lt_of_le_of_lt h (by decide)

/-! ### expressions in short: the name that stands in the i-th slot -/
section
variable {X : Cx}
theorem pv (i : Nat) {x : Str} {pos : Pos} (hN : X.N[i]? = some x := by rfl) (hv : Vis X.env.scope x := by first | exact Or.inl rfl | exact Or.inr (Or.inl rfl) | exact Or.inr (Or.inr rfl)) (hd : (x == ("__debug__" : Str)) = false := by decide)
    (hcd : (x == ("__classdict__" : Str)) = false := by decide) : PE X (.Name x pos) (tVar i) := pe_var hN hv hd hcd
/-- len of a dict -/
theorem call_lenD : CallR X (.builtin "len") (fun xs H Q => ∃ a kvs, xs = [V.ref a] ∧ H a = some (.dK kvs) ∧ Q (.int kvs.length) H) := by
  intro pins s σ H xs us Q I r h
  obtain ⟨a, kvs, rfl, ha, q⟩ := h
  obtain ⟨u, rfl, ru⟩ := vals1 r
  cases ru
  exact d_len I (.inl ha) fun t s' I' => ⟨.int kvs.length, H, I', ⟨t, rfl⟩, q⟩
end

/-! ### tests -/
theorem iteF {A B : Prop} (h : B) : if false = true then A else B := by
  rw [if_neg Bool.false_ne_true]
  exact h
theorem iteT {A B : Prop} (h : A) : if true = true then A else B := by
  rw [if_pos rfl]
  exact h
theorem ite2 {c A B : Prop} [Decidable c] (h1 : c → A) (h2 : ¬ c → B) : if c then A else B := by
  by_cases h : c
  · rw [if_pos h]
    exact h1 h
  · rw [if_neg h]
    exact h2 h
theorem iteNS {c A B : Prop} [Decidable c] (hc : c) (h : B) : if (!decide c) = true then A else B := by
  rw [decide_eq_true hc]
  exact iteF h

/-! ### heaps -/
/-- all that was tracked is as it was -/
def Same (H H' : Hp) : Prop := ∀ b o, H b = some o → H' b = some o
theorem Same.refl (H : Hp) : Same H H := fun _ _ h => h
theorem Same.trans {H H1 H2 : Hp} (a : Same H H1) (b : Same H1 H2) : Same H H2 := fun c o h => b c o (a c o h)
theorem Same.free {H H' : Hp} (e : Same H H') {l : Addr} (h : H' l = Option.none) : H l = Option.none := by
  cases q : H l with
  | none => rfl
  | some o =>
    rw [e l o q] at h
    cases h
theorem Same.seq {K : PySem.W.Frag} {H H' : Hp} {a : Addr} {xs : List V} (e : Same H H') (h : SqL K H a xs) : SqL K H' a xs := by
  rcases h with (h | ⟨o, h⟩) | h
  · exact .inl (.inl (e _ _ h))
  · exact .inl (.inr ⟨o, e _ _ h⟩)
  · exact .inr h

/-! ### a dict's pairs: keys that differ -/
section
variable {κ : Type} [DecidableEq κ]
theorem valV_not {kvs : List (κ × V)} {k : κ} (h : valV kvs k = none) : ¬ k ∈ kvs.map (·.1) := by
  intro m
  obtain ⟨p, hp, e⟩ := List.mem_map.mp m
  have q : (kvs.any fun kv => decide (kv.1 = k)) = true := List.any_eq_true.mpr ⟨p, hp, decide_eq_true e⟩
  rw [valV_any, h] at q
  exact absurd q (by simp)
theorem valV_in {kvs : List (κ × V)} {k : κ} {v : V} (h : valV kvs k = some v) : k ∈ kvs.map (·.1) := by
  have q : (kvs.any fun kv => decide (kv.1 = k)) = true := by
    rw [valV_any, h]
    all_goals rfl
  obtain ⟨p, hp, e⟩ := List.any_eq_true.mp q
  exact List.mem_map.mpr ⟨p, hp, of_decide_eq_true e⟩
theorem nd_snoc : ∀ {l : List κ} {k : κ}, l.Nodup → ¬ k ∈ l → (l ++ [k]).Nodup
  | [], k, _, _ => by simp
  | a :: r, k, h, hk => by
    obtain ⟨h1, h2⟩ := List.nodup_cons.mp h
    show (a :: (r ++ [k])).Nodup
    refine List.nodup_cons.mpr ⟨fun m => ?_, nd_snoc h2 fun m => hk (List.mem_cons.mpr (Or.inr m))⟩
    rcases List.mem_append.mp m with q | q
    · exact h1 q
    · exact hk (List.mem_cons.mpr (Or.inl (List.mem_singleton.mp q).symm))
theorem nd_putK {kvs : List (κ × V)} {k : κ} (v : V) (hn : (kvs.map (·.1)).Nodup) (h : valV kvs k = none) : ((putK kvs k v).map (·.1)).Nodup := by
  rw [putK_new v h, List.map_append]
  exact nd_snoc hn (valV_not h)
theorem dropK_pos {p : κ × V} {r : List (κ × V)} {k : κ} (e : p.1 = k) : dropK (p :: r) k = dropK r k := by
  unfold dropK
  rw [List.filter_cons, if_neg (by simp [e])]
theorem dropK_neg {p : κ × V} {r : List (κ × V)} {k : κ} (e : ¬ p.1 = k) : dropK (p :: r) k = p :: dropK r k := by
  unfold dropK
  rw [List.filter_cons, if_pos (by simp [e])]
theorem dropK_no : ∀ {kvs : List (κ × V)} {k : κ}, ¬ k ∈ kvs.map (·.1) → dropK kvs k = kvs
  | [], _, _ => rfl
  | p :: r, k, h => by
    have h' : ¬ k ∈ r.map (·.1) := fun m => by
      obtain ⟨q, hq, e⟩ := List.mem_map.mp m
      exact h (List.mem_map.mpr ⟨q, List.mem_cons.mpr (Or.inr hq), e⟩)
    rw [dropK_neg fun e => h (List.mem_map.mpr ⟨p, List.mem_cons.mpr (Or.inl rfl), e⟩), dropK_no h']
theorem dropK_mem {kvs : List (κ × V)} {k : κ} {p : κ × V} (h : p ∈ dropK kvs k) : p ∈ kvs := (List.mem_filter.mp h).1
theorem nd_dropK : ∀ {kvs : List (κ × V)} {k : κ}, (kvs.map (·.1)).Nodup → ((dropK kvs k).map (·.1)).Nodup
  | [], _, _ => List.nodup_nil
  | p :: r, k, h => by
    have h : (p.1 :: r.map (·.1)).Nodup := h
    obtain ⟨h1, h2⟩ := List.nodup_cons.mp h
    by_cases e : p.1 = k
    · rw [dropK_pos e]
      exact nd_dropK h2
    · rw [dropK_neg e]
      show (p.1 :: (dropK r k).map (·.1)).Nodup
      refine List.nodup_cons.mpr ⟨fun m => h1 ?_, nd_dropK h2⟩
      obtain ⟨q, hq, eq⟩ := List.mem_map.mp m
      exact List.mem_map.mpr ⟨q, dropK_mem hq, eq⟩
theorem dropK_len : ∀ {kvs : List (κ × V)} {k : κ}, (kvs.map (·.1)).Nodup → k ∈ kvs.map (·.1) → (dropK kvs k).length + 1 = kvs.length
  | [], _, _, m => by simp at m
  | p :: r, k, h, m => by
    have h : (p.1 :: r.map (·.1)).Nodup := h
    have m : k = p.1 ∨ k ∈ r.map (·.1) := List.mem_cons.mp m
    obtain ⟨h1, h2⟩ := List.nodup_cons.mp h
    by_cases e : p.1 = k
    · subst e
      rw [dropK_pos rfl, dropK_no h1]
      all_goals rfl
    · have m' : k ∈ r.map (·.1) := m.resolve_left fun z => e z.symm
      have q := dropK_len h2 m'
      rw [dropK_neg e, List.length_cons, List.length_cons]
      omega
end
end L2

set_option Elab.async false
set_option linter.all false
set_option maxRecDepth 100000
set_option maxHeartbeats 4000000
namespace L2
open PySem PySem.Spec PyProof.Rows

/-! ### list comprehensions over one source, without a test and without names from around -/
theorem compLoop_go {prog : Program} {w : World} {A : Around} {R : Result → Shared → Prop} {s : Shared} {elt target iter : Expr} {scope : Scope} {pos : Pos} {it acc : Value} {env : Env} (I : Nat → Shared → Prop)
    (turn : ∀ n s, I n s → wpAny (model prog w) A (pyNext it) (fun r s₁ => match r with
      | none => R (.ok .next) s₁
      | some v => wpAny (model prog w) A (letOwnedTupleGo target it v) (fun _ s₁' => wpAny (model prog w) A (assign target env v) (fun _ s₂ => wpAny (model prog w) A (eval elt env) (fun x s₃ =>
          wpAny (model prog w) A (call (.builtin "list.append") [acc, x]) (fun _ s₄ => ∃ m, m < n ∧ I m s₄) (fun _ _ => False) s₃)
          (fun _ _ => False) s₂) (fun _ _ => False) s₁') (fun _ _ => False) s₁) (fun _ _ => False) s)
    (n : Nat) (h : I n s) : codeAny (model prog w) A (.compLoop (.ListComp elt [⟨target, iter, [], 0⟩] scope pos) 0 it acc env) R s := by
  refine codeAny_loop rfl I (fun n s hI => ?_) n h
  show wpAny _ _ ((compTurn (.ListComp elt [⟨target, iter, [], 0⟩] scope pos) 0 it acc env).onRaise (fun x => do noteFrame x env; theTreesLotGoes x)) _ _ s
  refine wpAny_noted ?_
  rw [compTurn_list1]
  refine wpAny_bind (wpAny_standAt (wpAny_bind (wpAny_mono (turn n s hI) (fun r s₁ h₁ => ?_) fun _ _ h' => h'.elim)))
  cases r with
  | none => exact wpAny_pure h₁
  | some v =>
    refine wpAny_bind (wpAny_mono h₁ (fun _ s₁' h₁' => ?_) fun _ _ h' => h'.elim)
    exact wpAny_bind (wpAny_mono h₁' (fun _ s₂ h₂ => wpAny_bind (wpAny_bind (wpAny_mono h₂ (fun x s₃ h₃ => wpAny_bind (wpAny_mono h₃
      (fun _ s₄ h₄ => wpAny_pure (wpAny_pure ⟨rfl, h₄⟩)) fun _ _ h' => h'.elim)) fun _ _ h' => h'.elim))) fun _ _ h' => h'.elim)

/-- the context of a comprehension's block -/
abbrev cxComp (X : Cx) (x : Str) (scope : Scope) (s : Shared) (H : Hp) (fp : List Addr) (C : Addr) : Cx where
  prog := X.prog
  w := X.w
  K := X.K
  mg := X.mg
  base := X.base
  A := X.A
  N := [x]
  s₀ := s
  H₀ := H
  env := compEnv scope C X.env
  outer := X.stack
  stack := X.stack
  ex := fp
  fn := fun _ => true
  calm := true
  pn := []
  xe := fun _ _ => False

structure CompScope (x : Str) (scope : Scope) : Prop where
  nofree : ∀ y ∈ scope.names, y.2 ≠ .free
  nocell : ∀ y ∈ scope.names, y.2 ≠ .cell
  kind : scope.kind = .function
  names : ∀ y ∈ scope.names, y.2 = .local → scope.names.lookup y.1 = some .local
  hx : scope.names.lookup x = some .local

def tComp (wi : TI) (te : TE) : TE := fun σ H Q => wi σ H fun J H1 => ∀ l, H1 l = none → ∃ W : Nat → Nat → List V → Hp → Prop, (∃ m, W 0 m [] (upd H1 l (.lst []))) ∧ ∀ i m ys H2, W i m ys H2 →
  (J.stop i H2 ∧ Q (.ref l) H2) ∨ (J.go i H2 ∧ ∀ x H3, J.yld i H2 x H3 → te [some x] H3 fun v H4 => H4 l = some (.lst ys) ∧ ys.length < sizeLine ∧ ∃ m', m' < m ∧ W (i + 1) m' (ys ++ [v]) (upd H4 l (.lst (ys ++ [v]))))

theorem lookup_ne {names : List (Str × NameKind)} {k : NameKind} (h : ∀ y ∈ names, y.2 ≠ k) (x : Str) : names.lookup x ≠ some k := fun e => h _ (PySem.mem_of_lookup e) rfl

theorem relabel_eq {scope : Scope} {env : Env} (h : ∀ y ∈ scope.names, y.2 ≠ .free) : relabel scope env = scope := by
  unfold relabel
  rw [map_eq_self (l := scope.names) (fun x hx => by
    obtain ⟨n, k⟩ := x
    have : (k == NameKind.free) = false := by simpa using h _ hx
    simp [this])]

section
variable {X : Cx}
theorem comp_block {elt iter : Expr} {x : Str} {px : Pos} {scope : Scope} {pos : Pos} {pins : List (Addr × Obj)} {σ : St} {H : Hp} {s : Shared} {it : Addr} {fp : List Addr} {tn : Nat → Heap → Prop} {J : It} {te : TE} {Q : VK} {E : Value → Shared → Prop}
    {RR : Value → Addr → Result → Shared → Prop}
    (hc : X.calm = true) (sc : CompScope x scope) (I : Inv X pins σ H s) (T : Turn X.prog X.w X.K (.Name x px) J fp it tn) (st : tn 0 s.heap) (hf : ∀ b ∈ fp, FpOk X pins H b)
    (he : ∀ (s : Shared) (H : Hp) (fp : List Addr) (C : Addr), PE (cxComp X x scope s H fp C) elt te)
    (h : ∀ l, H l = none → ∃ W : Nat → Nat → List V → Hp → Prop, (∃ m, W 0 m [] (upd H l (.lst []))) ∧ ∀ i m ys H2, W i m ys H2 →
      (J.stop i H2 ∧ Q (.ref l) H2) ∨ (J.go i H2 ∧ ∀ x H3, J.yld i H2 x H3 → te [some x] H3 fun v H4 => H4 l = some (.lst ys) ∧ ys.length < sizeLine ∧ ∃ m', m' < m ∧ W (i + 1) m' (ys ++ [v]) (upd H4 l (.lst (ys ++ [v])))))
    (hRR : ∀ D C s' H' m, Inv X pins σ H' s' → s'.heap.Ns C m → C ≠ X.env.locals → H' C = none → X.s₀.heap.objs.size ≤ C → (∀ x c, X.env.cells.lookup x = some c → c ≠ C) → (∀ p ∈ X.pn ++ pins, p.1 ≠ C) → Q (.ref D) H' → RR (.ref D) C (.ok .next) s') :
    wpAny (model X.prog X.w) X.A (newList []) (fun acc s₃ => wpAny (model X.prog X.w) X.A (newFunctionEnv scope X.env.globals [] [] X.env.qual none .none (some X.env)) (fun cenv s₄ =>
      codeAny (model X.prog X.w) X.A (.compStart (.ListComp elt [⟨.Name x px, iter, [], 0⟩] scope pos) 0 (.ref it) acc { cenv with scope := relabel scope X.env }) (RR acc cenv.locals) s₄) E s₃) E s := by
  refine wpAny_newObj_type ?_
  have I3 : Inv X pins σ (upd H s.heap.objs.size (.lst [])) { s with heap := s.heap.push { cls := .type "list", data := .seq ([] : List Value).toArray } } := I.lnew (ys := []) (its := []) (t' := s.toks) .nil (Nat.zero_le _)
  have st3 : tn 0 (s.heap.push { cls := .type "list", data := .seq ([] : List Value).toArray }) := T.keep _ _ _ st fun b hb o e => Heap.get?_push_of_some _ e
  have fpl : ∀ b ∈ fp, b < s.heap.objs.size := fun b hb => by
    obtain ⟨o, e, _⟩ := T.obj _ _ st b hb
    exact Heap.lt_size e
  obtain ⟨W, ⟨m0, w0⟩, turn⟩ := h s.heap.objs.size I.fresh
  have hf3 : ∀ b ∈ fp, FpOk X pins (upd H s.heap.objs.size (.lst [])) b := fun b hb => ⟨by rw [upd_ne (Nat.ne_of_lt (fpl b hb))]; exact (hf b hb).1, (hf b hb).2⟩
  generalize hD : s.heap.objs.size = D at *
  generalize hH3 : upd H D (HO.lst []) = H3 at *
  generalize hs3 : ({ s with heap := s.heap.push { cls := .type "list", data := .seq ([] : List Value).toArray } } : Shared) = s3 at *
  have hsz3 : s3.heap.objs.size = D + 1 := by rw [← hs3, ← hD]; exact Heap.size_push ..
  have st3' : tn 0 s3.heap := by rw [← hs3]; exact st3
  refine wpAny_newFunctionEnv (s := s3) sc.nocell (by intro y hy; simp at hy) (fun h1 hns hsb => ?_) sc.kind
  generalize hC : s3.heap.objs.size = C at *
  have kept : ∀ b o, s3.heap.get? b = some o → h1.get? b = some o := fun b o e => hsb.extBut b o (by rw [← hC]; exact Nat.ne_of_lt (Heap.lt_size e)) (Heap.get?_push_of_some _ e)
  have rel : relabel scope X.env = scope := relabel_eq sc.nofree
  show codeAny (model X.prog X.w) X.A (.compStart (.ListComp elt [⟨.Name x px, iter, [], 0⟩] scope pos) 0 (.ref it) (.ref D) { compEnv scope C X.env with scope := relabel scope X.env }) (RR (.ref D) C) _
  rw [rel]
  show codeAny (model X.prog X.w) X.A (.compStart (.ListComp elt [⟨.Name x px, iter, [], 0⟩] scope pos) 0 (.ref it) (.ref D) (compEnv scope C X.env)) (RR (.ref D) C) { s3 with heap := h1, toks := s3.toks + 0 }
  have fpC : ∀ b ∈ fp, b ≠ C := fun b hb => Nat.ne_of_lt (Nat.lt_of_lt_of_le (fpl b hb) (by rw [hsz3]; exact Nat.le_succ D))
  have kind : ∀ y, Env.kindOf (compEnv scope C X.env) y = scope.names.lookup y := fun _ => rfl
  have ok : (cxComp X x scope s3 H3 fp C).Ok := {
    mod := I.ok.mod, kind := sc.kind, glob := I.ok.glob, blt := I.ok.blt, above := Nat.le_of_eq hC
    inj := fun y z c e _ => nomatch e
    has := fun y hy => by
      rcases hy with hy | hy
      · exact absurd hy (lookup_ne sc.nocell y)
      · exact absurd hy (lookup_ne sc.nofree y)
    cab := fun y c _ e => nomatch e
    hd := fun _ => I.ok.hd hc
    frames := I.ok.frames
    stk := .inl rfl
    exf := fun b hb => ⟨fpC b hb, fun y c e => nomatch e⟩
    bs := I3.bs
    bsz := Nat.le_trans I.ok.bsz I3.sz
    noex := fun b o e hb => by
      obtain ⟨_, _, _, h4, _⟩ := hf3 b hb
      rcases h4 with z | z
      · exact I.ok.noex b o e z
      · exact absurd (Nat.lt_of_lt_of_le (Heap.lt_size (I.ok.bs b o e).1) z) (Nat.lt_irrefl _)
    exfs := fun b hb z => by
      obtain ⟨_, h1, h2, _⟩ := hf3 b hb
      rcases List.mem_cons.mp (I3.stkSub b z) with q | q
      · exact h1 q
      · exact h2 q
    funs := I3.stack
    frf := I3.stkFree }
  have I4 : Inv (cxComp X x scope s3 H3 fp C) [] [none] H3 { s3 with heap := h1, toks := s3.toks + 0 } := {
    ok := ok, os := rfl, bare := I3.bare, base := Un.kept kept
    loc := ⟨_, hns, fun i y v _ e2 _ => by
      cases i with
      | zero => cases e2
      | succ i => cases e2⟩
    cell := fun y c e => nomatch e
    free := I3.hok.fresh (Nat.le_of_eq hC)
    freeC := fun y c e => nomatch e
    pin := fun p hp => absurd (show p ∈ ([] : List (Addr × Obj)) from hp) (by simp)
    hok := I3.hok.kept kept
    len := rfl }
  have st4 : tn 0 h1 := T.keep _ _ _ st3' fun b hb o e => kept b o e
  have stat : ∀ {H' : Hp}, (∀ b ∈ fp, H' b = none) → ∀ b ∈ fp, FpOk (cxComp X x scope s3 H3 fp C) [] H' b := fun hn b hb => ⟨hn b hb, fpC b hb, ok.exfs b hb, .inl hb, (fun y c e => by cases (show (none : Option Addr) = some c from e)), fun p hp => absurd (show p ∈ ([] : List (Addr × Obj)) from hp) (by simp)⟩
  have loop : codeAny (model X.prog X.w) X.A (.compLoop (.ListComp elt [⟨.Name x px, iter, [], 0⟩] scope pos) 0 (.ref it) (.ref D) (compEnv scope C X.env)) (RR (.ref D) C) { s3 with heap := h1, toks := s3.toks + 0 } := by
    refine compLoop_go (fun n s' => ∃ i ys σ' H', Inv (cxComp X x scope s3 H3 fp C) [] σ' H' s' ∧ tn i s'.heap ∧ (∀ b ∈ fp, H' b = none) ∧ W i n ys H' ∧ σ'.length = 1) ?_ m0 ⟨0, [], [none], H3, I4, st4, fun b hb => (hf3 b hb).1, w0, rfl⟩
    rintro n s5 ⟨i, ys, σ5, H5, I5, st5, fr5, w5, l5⟩
    rcases turn i n ys H5 w5 with ⟨stop, qn⟩ | ⟨go, step⟩
    · refine thn (T.done (cxComp X x scope s3 H3 fp C) rfl rfl rfl rfl i [] s5 σ5 H5 _ I5 (stat fr5) st5 stop) fun r s6 ⟨hr, I6⟩ => ?_
      subst hr
      obtain ⟨m6, n6, _⟩ := I6.loc
      refine hRR D C s6 H5 m6 (I3.call' I6.os I6.base I6.hok I6.bare fun b hb => ?_) n6 (Nat.ne_of_gt (by have := I3.lt; rw [hC] at this; exact this)) I6.free (by have := I3.sz; rw [hC] at this; exact this) (fun y c e z => ?_) (fun p hp z => ?_) qn
      · obtain ⟨_, h1, _, h4, h5, h6⟩ := hf3 b hb
        exact ⟨h4, h1, h5, h6⟩
      · obtain ⟨v, q⟩ := I3.cell y c e
        have := q.lt
        rw [hC, z] at this
        exact Nat.lt_irrefl _ this
      · have := Heap.lt_size (I3.pin p hp).1
        rw [hC, z] at this
        exact Nat.lt_irrefl _ this
    · refine thn (T.item (cxComp X x scope s3 H3 fp C) rfl rfl rfl rfl i [] s5 σ5 H5 _ I5 (stat fr5) st5 go) fun r s6 ⟨u, hr, h6⟩ => ?_
      subst hr
      refine thn h6 fun _ s7 ⟨v, H7, I7, r7, y7, st7, fr7⟩ => ?_
      have I7' := I7.pinned (stat fr7) (T.obj _ _ st7)
      refine wpAny_assign_Name (store_ok (X := cxComp X x scope s3 H3 fp C) (i := 0) I7' (by simp) rfl (.inl sc.hx) r7 (fun s8 I8 => ?_) (.inl rfl))
      have e8 : σ5.set 0 (some v) = [some v] := by
        match σ5, l5 with
        | [_], _ => rfl
      rw [e8] at I8
      refine thn (he s3 H3 fp C _ s8 [some v] H7 _ I8 (step v H7 y7)) fun yv s9 ⟨y, H9, I9, r9, q9⟩ => ?_
      obtain ⟨hl9, hz9, m', hm', w9⟩ := q9
      obtain ⟨z9, its, k9, rv9, ll9, e9⟩ := I9.lstM hl9
      refine call_meets F.slot_list_append ⟨_, e9, rfl⟩ F.entry_list_append (F.args_list_append_2 _ _) (PySem.list_append D its.toArray k9 yv (by rw [List.size_toArray]; omega)) ⟨e9, ?_⟩
      have I10 := I9.lset (t' := s9.toks) (its' := its ++ [yv]) (f := (·.push yv)) hl9 e9 (by simp) (rv9.append (.cons r9 .nil)) (by rw [List.length_append, List.length_singleton]; omega)
      refine ⟨m', hm', i + 1, ys ++ [y], [some v], _, I10.unpinned (pins := []), T.keep _ _ _ st7 fun b hb o e => (I10.pin (b, o) (List.mem_append_right _ (List.mem_append_right _ (mem_pinsAt hb e)))).1, fun b hb => ?_, w9, rfl⟩
      obtain ⟨o, e, d⟩ := T.obj _ _ st7 b hb
      exact (I10.pin (b, o) (List.mem_append_right _ (List.mem_append_right _ (mem_pinsAt hb e)))).2.1
  exact codeAny_compStart_list loop (T.self _ 0 _ _ _ st4 loop)

theorem pe_comp {elt iter : Expr} {x : Str} {px : Pos} {scope : Scope} {pos : Pos} {wi : TI} {te : TE} (hc : X.calm = true) (sc : CompScope x scope) (hi : PI X (.Name x px) iter wi)
    (he : ∀ (s : Shared) (H : Hp) (fp : List Addr) (C : Addr), PE (cxComp X x scope s H fp C) elt te) (hs : ∀ x, foldedSetIterable iter X.env x = pure x := by intro _; rfl) :
    PE X (.ListComp elt [⟨.Name x px, iter, [], 0⟩] scope pos) (tComp wi te) := by
  intro pins s σ H Q I h
  rw [eval_ListComp]
  refine wpAny_comprehension_free (use := none) rfl hs (closureFor_none sc.nofree) sc.kind sc.names (thn (hi pins s σ H _ I h) fun v s1 h1 => thn h1 fun itv s2 h2 => ?_)
  obtain ⟨it, fp, tn, J, H2, e, I2, T, st2, f2, q2⟩ := h2
  subst e
  refine comp_block (RR := fun acc C => compPost (model X.prog X.w) X.A X.xe none (EP X pins σ Q) acc C) hc sc I2 T st2 f2 he q2 ?_
  intro D C s' H' m I' n' c1 c2 c3 c4 c5 q'
  exact ⟨m, n', fun h' hs' => ⟨.ref D, H', I'.turned (t' := s'.toks) (it := C) (fun b o hb e => (hs'.2 b hb).trans e) c2 c1 (.inr c3) c4 c5, rfl, q'⟩⟩

def tSetComp (i : Nat) (te : TE) : TS := fun D σ H => te σ H fun v H1 => D.nx (σ.set i (some v)) H1
theorem ps_setcomp {elt iter : Expr} {x y : Str} {i : Nat} {px py spos : Pos} {scope : Scope} {pos : Pos} {wi : TI} {te : TE} (hc : X.calm = true) (hN : X.N.Nodup) (hy : X.N[i]? = some y) (hl : Loc X.env.scope y) (sc : CompScope x scope) (hi : PI X (.Name x px) iter wi)
    (he : ∀ (s : Shared) (H : Hp) (fp : List Addr) (C : Addr), PE (cxComp X x scope s H fp C) elt te)
    (hsw : swapsWith (.ListComp elt [⟨.Name x px, iter, [], 0⟩] scope pos) (some (.Name y py)) spos.line X.env = pure true := by rfl) (hs : ∀ x, foldedSetIterable iter X.env x = pure x := by intro _; rfl)
    (hf : X.fn y = true ∨ X.env.scope.names.lookup y = some .local := by first | exact .inl rfl | exact .inr rfl | assumption) :
    PS X (.Assign [.Name y py] (.ListComp elt [⟨.Name x px, iter, [], 0⟩] scope pos) spos) (tSetComp i (tComp wi te)) := by
  intro pins s σ H D I h
  rw [exec_Assign_Name_used _ _ _ _ hsw]
  refine wpAny_bind (wpAny_standAt (wpAny_bind ?_))
  show wpAny _ X.A (do let _ ← comprehension (.ListComp elt [⟨.Name x px, iter, [], 0⟩] scope pos) scope X.env _ (newList []) false (eval iter X.env) (some (assign (.Name y py) X.env))) _ _ s
  refine wpAny_bind (wpAny_mono (wpAny_comprehension_free (use := some (assign (.Name y py) X.env)) (Q := fun _ s' => SP X pins D .next s') (E := X.xe) rfl hs (closureFor_none sc.nofree) sc.kind sc.names
    (thn (hi pins s σ H _ I h) fun v s1 h1 => thn h1 fun itv s2 h2 => ?_)) (fun _ s' hq => wpAny_pure (wpAny_pure hq)) fun _ _ e => e)
  obtain ⟨it, fp, tn, J, H2, e, I2, T, st2, f2, q2⟩ := h2
  subst e
  refine comp_block (Q := fun v H1 => D.nx (σ.set i (some v)) H1) (RR := fun acc C => compPost (model X.prog X.w) X.A X.xe (some (assign (.Name y py) X.env)) (fun _ s' => SP X pins D .next s') acc C) hc sc I2 T st2 f2 he q2 ?_
  intro l C s' H' m I' n' c1 c2 c3 c4 c5 q'
  show wpAny _ X.A (assign (.Name y py) X.env (.ref l)) _ _ _
  refine wpAny_assign_Name (store_ok2 I' hN hy hl (v := .ref l) rfl (fun s'' I'' k => ?_) hf)
  obtain ⟨a, sb, ha⟩ := k
  have hne : C ≠ a := by
    rcases ha with ha | ha
    · rw [ha]; exact c1
    · exact fun z => c4 _ _ ha z.symm
  refine ⟨m, n'.sameBut sb hne, fun h' hs' => ?_⟩
  exact ⟨_, H', I''.turned (t' := s''.toks) (it := C) (fun b o hb e => (hs'.2 b hb).trans e) c2 c1 (.inr c3) c4 c5, q'⟩

/-- over a list that the element leaves as it is -/
theorem comp_list {K : PySem.W.Frag} {a : Addr} {xs : List V} {te : TE} {R : Hp → Prop} {H : Hp} {l : Addr} (Pv : Nat → List V → Hp → Prop) (h0 : Pv 0 [] (upd H l (.lst []))) (hl : ∀ i ys H, i ≤ xs.length → Pv i ys H → SqL K H a xs)
    (hs : ∀ i x ys H, xs[i]? = some x → Pv i ys H → te [some x] H fun v H4 => H4 l = some (.lst ys) ∧ ys.length < sizeLine ∧ ∃ m', m' < xs.length - i ∧ m' = xs.length - (i + 1) ∧ i + 1 ≤ xs.length ∧ Pv (i + 1) (ys ++ [v]) (upd H4 l (.lst (ys ++ [v])))) (hd : ∀ ys H, Pv xs.length ys H → R H) :
    ∃ W : Nat → Nat → List V → Hp → Prop, (∃ m, W 0 m [] (upd H l (.lst []))) ∧ ∀ i m ys H2, W i m ys H2 →
      ((Itl K a).stop i H2 ∧ R H2) ∨ ((Itl K a).go i H2 ∧ ∀ x H3, (Itl K a).yld i H2 x H3 → te [some x] H3 fun v H4 => H4 l = some (.lst ys) ∧ ys.length < sizeLine ∧ ∃ m', m' < m ∧ W (i + 1) m' (ys ++ [v]) (upd H4 l (.lst (ys ++ [v])))) := by
  refine ⟨fun i m ys H => m = xs.length - i ∧ i ≤ xs.length ∧ Pv i ys H, ⟨xs.length, by simp, Nat.zero_le _, h0⟩, ?_⟩
  rintro i m ys H ⟨rfl, hi, p⟩
  have q := hl i ys H hi p
  by_cases hlt : i < xs.length
  · refine .inr ⟨⟨xs, xs[i], q, by simp [hlt]⟩, fun x H' y => ?_⟩
    obtain ⟨e, y⟩ := y
    subst e
    exact hs i x ys _ (y xs q) p
  · have e : i = xs.length := by omega
    subst e
    exact .inl ⟨⟨xs, q, Nat.le_refl _⟩, hd ys H p⟩
end
end L2

set_option Elab.async false
set_option linter.all false
set_option maxRecDepth 100000
set_option maxHeartbeats 4000000
namespace L2
open PySem PySem.Spec PyProof.Rows
/-! ### for i, x in enumerate(xs) -/
/-- two untracked records have turned, a new tuple lies at the end -/
theorem Inv.turned2 {X : Cx} {pins : List (Addr × Obj)} {σ : St} {H : Hp} {s : Shared} {h' : Heap} {t' : Nat} {e it : Addr} {xs : List V} (I : Inv X pins σ H s) (k : ∀ b o, b ≠ e → b ≠ it → s.heap.get? b = some o → h'.get? b = some o)
    (there : ∀ b ∈ [e, it], ∃ o, h'.get? b = some o) (fe : FpOk X pins H e) (fi : FpOk X pins H it) (new : ObjOk X.prog X.w (upd H s.heap.objs.size (.tup xs)) h' s.heap.objs.size (.tup xs)) :
    Inv X pins σ (upd H s.heap.objs.size (.tup xs)) { s with heap := h', toks := t' } := by
  have hn := I.fresh
  have nit : ∀ b u, H b = some u → b ≠ e ∧ b ≠ it := fun b u q => ⟨(fun z => by rw [z, fe.1] at q; cases q), (fun z => by rw [z, fi.1] at q; cases q)⟩
  have hm : ∀ {b : Addr}, b ∉ [e, it] → b ≠ e ∧ b ≠ it := fun {b} hb => ⟨fun z => hb (by simp [z]), fun z => hb (by simp [z])⟩
  refine I.step (g' := s.gens) (d' := s.drawn) (ch := [e, it]) (fun b hb => ?_) (fun b o _ _ hc q _ => k b o (hm hc).1 (hm hc).2 q) (fun b o _ _ hc q _ => ⟨o.slots, k b o (hm hc).1 (hm hc).2 q⟩) (fun b o _ q n => ?_)
    (fun b o hc q => ⟨o, k b o (hm hc).1 (hm hc).2 q⟩) (fun b xs q => by rw [upd_ne (ne_of_none q hn)]; exact q) (fun b o u q => by rw [upd_ne (ne_of_none q hn)]; exact q) (fun b ps q => ⟨#[], by rw [upd_ne (ne_of_none q hn), q]; simp⟩) (fun m hm' => ?_) (fun b u q => ?_) I.bare
  · rcases List.mem_cons.mp hb with z | z
    · subst z; exact ⟨fe.2.2.2.1, fe.2.1, fe.2.2.2.2.1, fe.2.2.2.2.2⟩
    · have z : b = it := by simpa using z
      subst z; exact ⟨fi.2.2.2.1, fi.2.1, fi.2.2.2.2.1, fi.2.2.2.2.2⟩
  · rw [upd_ne (Nat.ne_of_lt (Heap.lt_size q))]; exact n
  · obtain ⟨o, es, ep, ho, r⟩ := hm'
    exact ⟨o, es, ep, k _ o (Ne.symm fe.2.1) (Ne.symm fi.2.1) ho, r⟩
  · by_cases hb : b = s.heap.objs.size
    · subst hb; rw [upd_same] at q; cases q; exact new
    · rw [upd_ne hb] at q
      refine (I.hok b u q).stay (fun c v hc z => ?_) (fun c z => by rw [upd_ne (ne_of_none z hn)]; exact z) fun c xs z => by rw [upd_ne (ne_of_none z hn)]; exact z
      rcases hc with y | y
      · subst y; exact k c v (nit c u q).1 (nit c u q).2 z
      · exact k c v (nit c _ y).1 (nit c _ y).2 z

def Ite (K : PySem.W.Frag) (a : Addr) : It :=
  ⟨fun i H => ∃ xs x, SqL K H a xs ∧ xs[i]? = some x, fun i H x H' => ∃ p y, x = .ref p ∧ H p = none ∧ H' = upd H p (.tup [.int i, y]) ∧ ∀ xs, SqL K H a xs → xs[i]? = some y, fun i H => ∃ xs, SqL K H a xs ∧ xs.length ≤ i⟩
theorem turn_enum {P : Program} {w : World} {K : PySem.W.Frag} {elts : List Expr} {x1} {pos : Pos} (a e it : Addr) (hei : e ≠ it) : Turn P w K (.Tuple elts x1 pos) (Ite K a) [e, it] e (fun i h => (∃ old, IsEnum h e it i old) ∧ h.IsListIter it a i) where
  mem := by simp
  obj := fun i h st b hb => by
    rcases List.mem_cons.mp hb with z | z
    · subst z
      obtain ⟨old, q⟩ := st.1
      exact ⟨_, q, fun v y => by cases y⟩
    · have z : b = it := by simpa using z
      subst z
      obtain ⟨o, q, c, d⟩ := st.2
      exact ⟨o, q, fun v z => by rw [d] at z; cases z⟩
  keep := fun i h h' st k => ⟨let ⟨old, q⟩ := st.1; ⟨old, k e (by simp) _ q⟩, st.2.at fun o q => k it (by simp) o q⟩
  item := by
    intro X hP hw hK hc i pins s σ H E I hf st hg
    subst hP hw hK
    obtain ⟨xs, x, hq, hx⟩ := hg
    obtain ⟨its, rv, p, hz⟩ := I.list hq
    obtain ⟨u, hu, ru⟩ := rv.get hx
    obtain ⟨⟨old, he⟩, hit⟩ := st
    have fe := hf e (by simp)
    have fi := hf it (by simp)
    refine wpAny_pyNext_enum_item he hit p.isList (x := u) (by simpa using hu) hei fun h' ho hit' hT hsz hk => ?_
    refine ⟨_, rfl, ?_⟩
    have new : ObjOk X.prog X.w (upd H s.heap.objs.size (.tup [.int i, x])) h' s.heap.objs.size (.tup [.int i, x]) := ⟨by show 2 ≤ sizeLine; decide, [.int i s.toks, u], .cons ⟨_, rfl⟩ (.cons ru .nil), _, hT, rfl, _, rfl⟩
    obtain ⟨oi, ei, _⟩ := id hit'
    have I1 : Inv X pins σ (upd H s.heap.objs.size (.tup [.int i, x])) { s with heap := h', toks := s.toks + 1 } := I.turned2 hk (fun b hb => by
      rcases List.mem_cons.mp hb with z | z
      · subst z; exact ⟨_, ho⟩
      · have z : b = it := by simpa using z
        subst z; exact ⟨_, ei⟩) fe fi new
    have ne1 : e ≠ s.heap.objs.size := Nat.ne_of_lt (Heap.lt_size he)
    have ne2 : it ≠ s.heap.objs.size := by obtain ⟨o2, e2, _⟩ := hit; exact Nat.ne_of_lt (Heap.lt_size e2)
    refine wpAny_letOwnedTupleGo_enum (s := { s with heap := h', toks := s.toks + 1 }) ho fun h2 he2 hs2 => ?_
    have he2' : IsEnum h2 e it (((i + 1 : Nat)) : Int) u := by simpa using he2
    refine ⟨.ref s.heap.objs.size, _, I1.turned (t' := s.toks + 1) (it := e) (fun b o hb q => (hs2.2 b hb).trans q) (by rw [upd_ne ne1]; exact fe.1) fe.2.1 fe.2.2.2.1 fe.2.2.2.2.1 fe.2.2.2.2.2, rfl, ⟨_, x, rfl, I.fresh, rfl, fun ys hy => by rw [I.list_inj hy hq]; exact hx⟩, ⟨⟨u, he2'⟩, hit'.at fun o q => (hs2.2 it hei.symm).trans q⟩, fun b hb => ?_⟩
    rcases List.mem_cons.mp hb with z | z
    · subst z; rw [upd_ne ne1]; exact fe.1
    · have z : b = it := by simpa using z
      subst z; rw [upd_ne ne2]; exact fi.1
  done := by
    intro X hP hw hK hc i pins s σ H E I hf st hg
    subst hP hw hK
    obtain ⟨xs, hq, hx⟩ := hg
    obtain ⟨its, rv, p, hz⟩ := I.list hq
    obtain ⟨⟨old, he⟩, hit⟩ := st
    obtain ⟨f0, f1, f2, f3, f4, f5⟩ := hf it (by simp)
    have hl := rv.length
    exact wpAny_pyNext_enum_end (I.ok.hd hc) he hit p.isList (by simp; omega) fun h' eb => ⟨rfl, I.turned (t' := s.toks) (fun b o hb e => eb b o hb e) f0 f1 f3 f4 f5⟩
  self := fun _ _ _ _ _ st h => let ⟨old, he⟩ := st.1; wpAny_pyIter_enum he h

section
variable {X : Cx}
def iEnum (K : PySem.W.Frag) (ta : TA) : TI := fun σ H R => ta σ H fun vs H1 => ∃ a, vs = [.ref a] ∧ (∃ xs, SqL K H1 a xs) ∧ R (Ite K a) H1
theorem pi_enum {a : Expr} {ta : TA} {p pos : Pos} {elts : List Expr} {x1} {tp : Pos} (hg : Gl X "enumerate") (hm : X.mg "enumerate" = none) (ha : PA X [a] ta) (hs : starEach [a] X.env = [(false, eval a X.env)] := by rfl) : PI X (.Tuple elts x1 tp) (.Call (.Name "enumerate" p) [a] [] pos) (iEnum X.K ta) := by
  intro pins s σ H R I h
  refine Call_ (ld_blt I hg hm boot_enumerate (PyProof.Rows.callWith_type1 (thn (ha pos pins s σ H _ I h) fun us s1 ⟨vs, H1, I1, r1, q1⟩ => ?_) hs rfl))
  obtain ⟨l, e, ⟨xs, hq⟩, q⟩ := q1
  subst e
  cases r1 with
  | cons r rr =>
    cases rr
    cases r
    obtain ⟨its, rv, p, hz⟩ := I1.list hq
    refine call_enumerate_list p.isList fun h' he hit hsz hk => ?_
    refine wpAny_pyIter_enum (s := { s1 with heap := h' }) he ?_
    have I2 : Inv X pins σ H1 { s1 with heap := h' } := I1.kept (t' := s1.toks) hk
    have n0 : H1 s1.heap.objs.size = none := I1.fresh
    have n1 : H1 (s1.heap.objs.size + 1) = none := I1.hok.fresh (Nat.le_succ _)
    refine ⟨s1.heap.objs.size + 1, [s1.heap.objs.size + 1, s1.heap.objs.size], _, _, H1, rfl, I2, turn_enum l _ _ (Nat.succ_ne_self _), ⟨⟨_, he⟩, hit⟩, fun b hb => ?_, q⟩
    rcases List.mem_cons.mp hb with z | z
    · subst z; exact I1.fpOk (Nat.le_succ _) n1
    · have z : b = s1.heap.objs.size := by simpa using z
      subst z; exact I1.fpOk (Nat.le_refl _) n0
end
theorem for_enum {K : PySem.W.Frag} {a : Addr} {xs : List V} {g : TG} {tb : TS} {D : Ends} {σ : St} {H : Hp} (Pv : Nat → St → Hp → Prop) (h0 : Pv 0 σ H) (hl : ∀ i σ H, i ≤ xs.length → Pv i σ H → SqL K H a xs)
    (hs : ∀ (i : Nat) x σ H p, xs[i]? = some x → Pv i σ H → H p = none → g (.ref p) σ (upd H p (.tup [.int i, x])) fun σ2 H2 => tb { D with nx := Pv (i + 1), ct := Pv (i + 1), bk := D.nx } σ2 H2) (hd : ∀ σ H, Pv xs.length σ H → D.nx σ H) :
    ∃ W : Nat → Nat → St → Hp → Prop, (∃ m, W 0 m σ H) ∧ ∀ i m σ H, W i m σ H →
      ((Ite K a).stop i H ∧ D.nx σ H) ∨ ((Ite K a).go i H ∧ ∃ N : St → Hp → Prop, (∀ σ' H', N σ' H' → ∃ m', m' < m ∧ W (i + 1) m' σ' H') ∧ ∀ x H', (Ite K a).yld i H x H' → g x σ H' fun σ2 H2 => tb { D with nx := N, ct := N, bk := D.nx } σ2 H2) := by
  refine ⟨fun i m σ H => m = xs.length - i ∧ i ≤ xs.length ∧ Pv i σ H, ⟨xs.length, by simp, Nat.zero_le _, h0⟩, ?_⟩
  rintro i m σ H ⟨rfl, hi, p⟩
  have q := hl i σ H hi p
  by_cases hlt : i < xs.length
  · refine .inr ⟨⟨xs, xs[i], q, by simp [hlt]⟩, Pv (i + 1), fun σ' H' p' => ⟨xs.length - (i + 1), by omega, rfl, hlt, p'⟩, fun x H' y => ?_⟩
    obtain ⟨p', y', rfl, hn, rfl, y⟩ := y
    exact hs i y' σ _ p' (y xs q) p hn
  · have e : i = xs.length := by omega
    subst e
    exact .inl ⟨⟨xs, q, Nat.le_refl _⟩, hd σ H p⟩
end L2

set_option Elab.async false
set_option linter.all false
set_option maxRecDepth 100000
set_option maxHeartbeats 4000000
namespace L2
open PySem PySem.Spec PyProof.Rows
section
variable {X : Cx}
/-! ### methods of texts -/
def rS0 (f : Str → V) : V → List V → Hp → VK → Prop := fun x vs H Q => ∃ z, x = .str z ∧ vs = [] ∧ Q (f z) H
def rS1 (C : Str → Str → Prop) (f : Str → Str → V) : V → List V → Hp → VK → Prop := fun x vs H Q => ∃ z y, x = .str z ∧ vs = [.str y] ∧ C z y ∧ Q (f z y) H
theorem mt_isascii : MtM X "str.isascii" (rS0 fun z => .bl (Txt.isascii z)) := by
  intro pins s σ H x vs v us Q I rx rv h
  obtain ⟨z, rfl, rfl, q⟩ := h
  obtain ⟨t, rfl⟩ := rx
  cases rv
  exact SC.isascii ⟨.bl _, H, I, rfl, q⟩
theorem mt_isalpha : MtM X "str.isalpha" (rS0 fun z => .bl (Txt.isalpha z)) := by
  intro pins s σ H x vs v us Q I rx rv h
  obtain ⟨z, rfl, rfl, q⟩ := h
  obtain ⟨t, rfl⟩ := rx
  cases rv
  exact SC.isalpha ⟨.bl _, H, I, rfl, q⟩
theorem mt_islower : MtM X "str.islower" (rS0 fun z => .bl (Txt.islower z)) := by
  intro pins s σ H x vs v us Q I rx rv h
  obtain ⟨z, rfl, rfl, q⟩ := h
  obtain ⟨t, rfl⟩ := rx
  cases rv
  exact SC.islower ⟨.bl _, H, I, rfl, q⟩
theorem mt_isdigit : MtM X "str.isdigit" (rS0 fun z => .bl (Txt.isdigit z)) := by
  intro pins s σ H x vs v us Q I rx rv h
  obtain ⟨z, rfl, rfl, q⟩ := h
  obtain ⟨t, rfl⟩ := rx
  cases rv
  exact SC.isdigit ⟨.bl _, H, I, rfl, q⟩
theorem mt_lower : MtM X "str.lower" (fun x vs H Q => ∃ z, x = .str z ∧ vs = [] ∧ Builtin.Str.tooLong (Txt.lower z).length = false ∧ Q (.str (Txt.lower z)) H) := by
  intro pins s σ H x vs v us Q I rx rv h
  obtain ⟨z, rfl, rfl, hz, q⟩ := h
  obtain ⟨t, rfl⟩ := rx
  cases rv
  exact SC.lower hz ⟨.str _, H, I.tok _, ⟨_, rfl⟩, q⟩
theorem mt_startswith : MtM X "str.startswith" (rS1 (fun _ _ => True) fun z y => .bl (Txt.startswith z y)) := by
  intro pins s σ H x vs v us Q I rx rv h
  obtain ⟨z, y, rfl, rfl, _, q⟩ := h
  obtain ⟨t, rfl⟩ := rx
  obtain ⟨u, rfl, tu, rfl⟩ := rv.one
  exact SC.startswith ⟨.bl _, H, I, rfl, q⟩
theorem mt_endswith : MtM X "str.endswith" (rS1 (fun _ _ => True) fun z y => .bl (Txt.endswith z y)) := by
  intro pins s σ H x vs v us Q I rx rv h
  obtain ⟨z, y, rfl, rfl, _, q⟩ := h
  obtain ⟨t, rfl⟩ := rx
  obtain ⟨u, rfl, tu, rfl⟩ := rv.one
  exact SC.endswith ⟨.bl _, H, I, rfl, q⟩
theorem mt_count : MtM X "str.count" (rS1 (fun _ _ => True) fun z y => .int (Txt.count z y)) := by
  intro pins s σ H x vs v us Q I rx rv h
  obtain ⟨z, y, rfl, rfl, _, q⟩ := h
  obtain ⟨t, rfl⟩ := rx
  obtain ⟨u, rfl, tu, rfl⟩ := rv.one
  exact SC.count ⟨.int _, H, I.tok _, ⟨_, rfl⟩, q⟩
theorem mt_removeprefix : MtM X "str.removeprefix" (rS1 (fun z _ => z.length ≤ sizeLine) fun z y => .str (Txt.removeprefix z y)) := by
  intro pins s σ H x vs v us Q I rx rv h
  obtain ⟨z, y, rfl, rfl, hz, q⟩ := h
  obtain ⟨t, rfl⟩ := rx
  obtain ⟨u, rfl, tu, rfl⟩ := rv.one
  exact SC.removeprefix (fun t' k => ⟨.str _, H, I.tok _, ⟨_, rfl⟩, q⟩) hz
theorem vals_strs : ∀ (l : List (Str × Tok)), Vals ((l.map (·.1)).map V.str) (strValues l)
  | [] => .nil
  | (x, t) :: r => .cons ⟨t, rfl⟩ (vals_strs r)
def rSplit : V → List V → Hp → VK → Prop := fun x vs H Q => ∃ z y, x = .str z ∧ vs = [.str y] ∧ (y.length == 0) = false ∧ z.length ≤ sizeLine ∧ (Txt.split z y).length ≤ sizeLine ∧ ∀ p, H p = none → Q (.ref p) (upd H p (.lst ((Txt.split z y).map V.str)))
theorem mt_split : MtM X "str.split" rSplit := by
  intro pins s σ H x vs v us Q I rx rv h
  obtain ⟨z, y, rfl, rfl, hy, hz, hn, q⟩ := h
  obtain ⟨t, rfl⟩ := rx
  obtain ⟨u, rfl, tu, rfl⟩ := rv.one
  have itself : Txt.split z y = [z] → EP X pins σ Q (.ref s.heap.objs.size) { s with heap := s.heap.push { cls := .type "list", data := .seq [Value.str z t].toArray } } := fun e => by
    refine ⟨.ref s.heap.objs.size, _, I.lnew (t' := s.toks) (ys := [.str z]) (.cons ⟨_, rfl⟩ .nil) (by show 1 ≤ sizeLine; decide), rfl, ?_⟩
    have := q s.heap.objs.size I.fresh
    rw [e] at this
    exact this
  cases h1 : (decide (z.length < y.length) || decide (PySem.Builtin.Str.strKind z < PySem.Builtin.Str.strKind y))
  · cases hf : (Builtin.Str.occurrences z y 0 z.length (z.length + 1)).isEmpty
    · have e : Txt.split z y = Builtin.Str.partsBetween z (Builtin.Str.occurrences z y 0 z.length (z.length + 1)) y.length := by
        unfold Txt.split
        rw [if_neg (by rw [h1]; exact Bool.false_ne_true), if_neg (by rw [hf]; exact Bool.false_ne_true)]
      refine call_meets F.slot_str_split (typeIs_str _ _ _) F.entry_str_split (F.args_str_split_2 _ _) (meets_str_split_sep z y t tu h1 hy hf hz (by rw [← e]; exact hn)) ?_
      rw [strsFrom_eq, ← e]
      have ev : ((numbered s.toks (Txt.split z y)).map (·.1)).map V.str = (Txt.split z y).map V.str := by rw [numbered_texts]
      have rv := vals_strs (numbered s.toks (Txt.split z y))
      rw [ev] at rv
      exact ⟨.ref s.heap.objs.size, _, I.lnew (t' := s.toks + (Txt.split z y).length) (ys := (Txt.split z y).map V.str) rv (by rw [List.length_map]; exact hn), rfl, q _ I.fresh⟩
    · refine call_meets F.slot_str_split (typeIs_str _ _ _) F.entry_str_split (F.args_str_split_2 _ _) (meets_str_split_not_found z y t tu h1 hy hf) ?_
      exact itself (by unfold Txt.split; rw [if_neg (by rw [h1]; exact Bool.false_ne_true), if_pos hf])
  · refine call_meets F.slot_str_split (typeIs_str _ _ _) F.entry_str_split (F.args_str_split_2 _ _) (meets_str_split_cannot_occur z y t tu h1) ?_
    exact itself (by unfold Txt.split; rw [if_pos h1])
theorem strsAre_of : ∀ {ys : List Str} {us : List Value}, Vals (ys.map V.str) us → StrsAre us ys := by
  intro ys
  induction ys with
  | nil => intro us r; cases r; exact .nil
  | cons y r ih =>
    intro us h
    cases h with
    | cons a b =>
      obtain ⟨t, rfl⟩ := a
      exact .cons y t (ih b)
def rJoin (K : PySem.W.Frag) : V → List V → Hp → VK → Prop := fun x vs H Q => ∃ z a ys, x = .str z ∧ vs = [.ref a] ∧ SqL K H a (ys.map V.str) ∧ (ys.map (·.length)).sum + ys.length * z.length ≤ 16777216 ∧ Q (.str (Txt.join z ys)) H
theorem mt_join : MtM X "str.join" (rJoin X.K) := by
  intro pins s σ H x vs v us Q I rx rv h
  obtain ⟨z, a, ys, rfl, rfl, hs, hw, q⟩ := h
  obtain ⟨t, rfl⟩ := rx
  obtain ⟨u, rfl, ru⟩ := rv.one
  cases ru
  obtain ⟨its, r, p, hz⟩ := I.list hs
  exact join_list p.isList (by rw [List.toList_toArray]; exact strsAre_of r) hw fun t' k => ⟨.str _, H, I.tok _, ⟨_, rfl⟩, q⟩

/-! ### slices of texts -/
def rSlS : V → Option Int → Option Int → Hp → VK → Prop := fun x lo hi H Q => ∃ z, x = .str z ∧ z.length ≤ sizeLine ∧ Q (.str (Txt.slice z lo hi)) H
theorem part_of {v : Value} {o : Option Int} (p : IsPart v o) : (v = .none ∧ o = none) ∨ ∃ i t, v = .int i t ∧ o = some i := by
  cases p with
  | none => exact .inl ⟨rfl, rfl⟩
  | int i t => exact .inr ⟨i, t, rfl, rfl⟩
theorem sl_str : SlR X rSlS := by
  intro pins s σ H x v vl vu lo hi sl Q I rx hs pl pu h
  obtain ⟨z, rfl, hz, q⟩ := h
  obtain ⟨t, rfl⟩ := rx
  refine ⟨"str", _, F.slot_str_getitem.lookup, typeIs_str _ _ _, ?_⟩
  have fin : ∀ t' k, EP X pins σ Q (.str (Txt.slice z lo hi) t') { s with toks := k } := fun t' k => ⟨.str _, H, I.tok _, ⟨_, rfl⟩, q⟩
  rcases part_of pl with ⟨rfl, rfl⟩ | ⟨i, ti, rfl, rfl⟩
  · rcases part_of pu with ⟨rfl, rfl⟩ | ⟨j, tj, rfl, rfl⟩
    · exact wpAny_getItem_str_slice (l := none) (u := none) (st := none) hs rfl (post_val_or_str ⟨Nat.le_trans (Txt.slice_le z _ _) hz, fin⟩)
    · exact wpAny_getItem_str_slice (l := none) (u := some (j, tj)) (st := none) hs rfl (post_val_or_str ⟨Nat.le_trans (Txt.slice_le z _ _) hz, fin⟩)
  · rcases part_of pu with ⟨rfl, rfl⟩ | ⟨j, tj, rfl, rfl⟩
    · exact wpAny_getItem_str_slice (l := some (i, ti)) (u := none) (st := none) hs rfl (post_val_or_str ⟨Nat.le_trans (Txt.slice_le z _ _) hz, fin⟩)
    · exact wpAny_getItem_str_slice (l := some (i, ti)) (u := some (j, tj)) (st := none) hs rfl (post_val_or_str ⟨Nat.le_trans (Txt.slice_le z _ _) hz, fin⟩)

/-! ### str(x), f-strings -/
inductive FmtR : V → Str → Prop where
  | int (i : Int) (h : i.natAbs.log2 < 1920) : FmtR (.int i) (toString i)
  | str (z : Str) (h : z.length ≤ sizeLine) : FmtR (.str z) z
  | bl (b : Bool) : FmtR (.bl b) (if b then "True" else "False")
  | non : FmtR .non "None"
theorem call_str_any : CallR X (.type "str") (fun xs H Q => ∃ x y, xs = [x] ∧ FmtR x y ∧ Q (.str y) H) := by
  intro pins s σ H xs us Q I r h
  obtain ⟨x, y, rfl, e, q⟩ := h
  obtain ⟨u, rfl, ru⟩ := vals1 r
  cases e with
  | int i hi =>
    obtain ⟨t, rfl⟩ := ru
    exact P.str_of_int hi ⟨.str _, H, I.tok _, ⟨_, rfl⟩, q⟩
  | str z hz =>
    obtain ⟨t, rfl⟩ := ru
    exact P.str_of_str ⟨.str _, H, I, ⟨_, rfl⟩, q⟩
  | bl b =>
    cases ru
    exact P.str_of_bool ⟨.str _, H, I.tok _, ⟨_, rfl⟩, q⟩
  | non =>
    cases ru
    exact P.str_of_none ⟨.str _, H, I.tok _, ⟨_, rfl⟩, q⟩
def tFmt (t : TE) : TE := fun σ H Q => t σ H fun x H1 => ∃ y, FmtR x y ∧ Q (.str y) H1
theorem pe_fmt {value : Expr} {pos : Pos} {t : TE} (h : PE X value t) : PE X (.FormattedValue value (-1) none pos) (tFmt t) := by
  intro pins s σ H Q I hq
  refine wpAny_FormattedValue_plain (thn (h pins s σ H _ I hq) fun v s1 ⟨x, H1, I1, r1, y, e, q⟩ => ?_)
  cases e with
  | int i hi =>
    obtain ⟨t, rfl⟩ := r1
    exact wpAny_formatField_int hi ⟨.str _, H1, I1.tok _, ⟨_, rfl⟩, q⟩
  | str z hz =>
    obtain ⟨t, rfl⟩ := r1
    exact PyProof.Rows.formatField_str (fun t' k => ⟨.str _, H1, I1.tok _, ⟨_, rfl⟩, q⟩) hz
  | bl b =>
    cases r1
    exact wpAny_formatField_bool ⟨.str _, H1, I1.tok _, ⟨_, rfl⟩, q⟩
  | non =>
    cases r1
    exact wpAny_formatField_none ⟨.str _, H1, I1.tok _, ⟨_, rfl⟩, q⟩
inductive PEs (X : Cx) : List Expr → List TE → Prop where
  | nil : PEs X [] []
  | cons {e : Expr} {es : List Expr} {t : TE} {ts : List TE} : PE X e t → PEs X es ts → PEs X (e :: es) (t :: ts)
def tJoin : List TE → Str → TE
  | [], acc => fun _ H Q => acc.length ≤ sizeLine ∧ Q (.str acc) H
  | t :: ts, acc => fun σ H Q => t σ H fun x H1 => ∃ y, x = .str y ∧ (acc ++ y).length ≤ sizeLine ∧ tJoin ts (acc ++ y) σ H1 Q
theorem joins_of {es : List Expr} {ts : List TE} (h : PEs X es ts) : ∀ (acc : Str) (pins : List (Addr × Obj)) (s : Shared) (σ : St) (H : Hp) (Q : VK), Inv X pins σ H s → tJoin ts acc σ H Q →
    Joins (model X.prog X.w) X.A X.xe (evalEach es X.env) acc (fun out s₁ => out.length ≤ sizeLine ∧ EP X pins σ Q (.str out s₁.toks) { s₁ with toks := s₁.toks + 1 }) s := by
  induction h with
  | nil => exact fun acc pins s σ H Q I q => ⟨q.1, .str _, H, I.tok _, ⟨_, rfl⟩, q.2⟩
  | cons he _ ih =>
    intro acc pins s σ H Q I q
    show wpAny _ _ _ _ _ _
    refine thn (he pins s σ H _ I q) fun v s1 ⟨x, H1, I1, r1, y, e, hz, q1⟩ => ?_
    subst e
    obtain ⟨t, rfl⟩ := r1
    exact ⟨y, t, rfl, hz, ih _ pins s1 σ H1 Q I1 q1⟩
theorem pe_fstr {v₁ v₂ : Expr} {rest : List Expr} {pos : Pos} {ts : List TE} (h : PEs X (v₁ :: v₂ :: rest) ts) : PE X (.JoinedStr (v₁ :: v₂ :: rest) pos) (tJoin ts Str.empty) := fun pins s σ H Q I hq =>
  wpAny_JoinedStr (joins_of h Str.empty pins s σ H Q I hq)
theorem pe_fstr1 {v : Expr} {pos : Pos} {t : TE} (h : PE X v t) : PE X (.JoinedStr [v] pos) t := fun pins s σ H Q I hq => wpAny_JoinedStr_one (h pins s σ H Q I hq)

/-! ### int(text) -/
theorem call_int_text : CallR X (.type "int") (fun xs H Q => ∃ z n, xs = [.str z] ∧ PySem.intText? z = some n ∧ z.length ≤ 640 ∧ Q (.int n) H) := by
  intro pins s σ H xs us Q I r h
  obtain ⟨z, n, rfl, e, hz, q⟩ := h
  obtain ⟨u, rfl, ru⟩ := vals1 r
  obtain ⟨t, rfl⟩ := ru
  exact PySem.W.KIN.call_text e hz ⟨.int _, H, I.tok _, ⟨_, rfl⟩, q⟩

/-! ### isinstance, is True -/
theorem call_isinst : CallR X (.builtin "isinstance") (fun xs H Q => ∃ x T t b, xs = [x, .ty T] ∧ TyOf X.K H x t ∧ PySem.W.kitOne X.K t (.type T) = some b ∧ Q (.bl b) H) := by
  intro pins s σ H xs us Q I r h
  obtain ⟨x, T, t, b, rfl, ty, e, q⟩ := h
  obtain ⟨u, u2, rfl, ru, r2⟩ := vals2 r
  cases r2
  exact isinst_ok I ru ty e fun tk => ⟨.bl b, H, I.tok tk, rfl, q⟩
theorem op_isB : OpR X (compareOp .Is) (fun x y H Q => ∃ b, y = .bl b ∧ Q (.bl (decide (x = .bl b))) H) := by
  intro pins s σ H x y v u Q I rx ry h
  obtain ⟨b, rfl, q⟩ := h
  cases ry
  cases x with
  | non => cases rx; exact PySem.wpAny_is_plain rfl (fin_bl I q (by cases b <;> rfl))
  | bl c => cases rx; exact PySem.wpAny_is_plain rfl (fin_bl I q (by cases b <;> cases c <;> rfl))
  | int i => obtain ⟨t, rfl⟩ := rx; exact PySem.wpAny_is_plain rfl (fin_bl I q rfl)
  | str z => obtain ⟨t, rfl⟩ := rx; exact PySem.wpAny_is_plain rfl (fin_bl I q rfl)
  | byt z => obtain ⟨t, rfl⟩ := rx; exact PySem.wpAny_is_plain rfl (fin_bl I q rfl)
  | flt z => obtain ⟨t, rfl⟩ := rx; exact PySem.wpAny_is_plain rfl (fin_bl I q rfl)
  | ref a => cases rx; exact PySem.wpAny_is_plain rfl (fin_bl I q rfl)
  | ty n => cases rx; exact PySem.wpAny_is_plain rfl (fin_bl I q rfl)
end
end L2

set_option Elab.async false
set_option linter.all false
set_option maxRecDepth 100000
set_option maxHeartbeats 4000000
namespace L2
open PySem PySem.Spec PyProof.Rows
/-! ### a dict of the text's top, its keys texts -/
def KTab (P : Params) (K : PySem.W.Frag) (d : Addr) (tab : List (Str × V)) : Prop :=
  ∃ es n, K.lookup d = some ⟨.type "dict", none, .dict es n, #[]⟩ ∧ PySem.W.KeysLit P es.toList ∧ (d == sysModules) = false ∧ Paired (fun (p : Str × V) (e : DictEntry) => (∃ t, e.key = .str p.1 t) ∧ RelV p.2 e.val) tab es.toList
theorem ktab_find {x : Str} : ∀ {tab : List (Str × V)} {es : List DictEntry}, Paired (fun (p : Str × V) (e : DictEntry) => (∃ t, e.key = .str p.1 t) ∧ RelV p.2 e.val) tab es →
    RelO (tab.lookup x) ((es.find? fun e => Value.isStrOf x e.key).map (·.val))
  | _, _, .nil => trivial
  | (k, v) :: tab, e :: es, .cons ⟨⟨t, hk⟩, hv⟩ r => by
    have ih := ktab_find (x := x) r
    by_cases hx : x = k
    · subst hx
      have h1 : ((x, v) :: tab).lookup x = some v := by simp [List.lookup]
      have h2 : (e :: es).find? (fun e => Value.isStrOf x e.key) = some e := by
        rw [List.find?_cons, hk]
        simp [Value.isStrOf]
      rw [h1, h2]
      exact hv
    · have h1 : ((k, v) :: tab).lookup x = tab.lookup x := by
        rw [List.lookup_cons]
        have : (x == k) = false := by simpa using hx
        rw [this]
      have h2 : (e :: es).find? (fun e => Value.isStrOf x e.key) = es.find? (fun e => Value.isStrOf x e.key) := by
        rw [List.find?_cons, hk]
        have : Value.isStrOf x (Value.str k t) = false := by simpa [Value.isStrOf] using fun z => hx z.symm
        rw [this]
      rw [h1, h2]
      exact ih
section
variable {X : Cx}
theorem ktab_map {P : Params} {K : PySem.W.Frag} {prog : Program} {w : World} {h : Heap} {d : Addr} {tab : List (Str × V)} (hP : P = w.params) (t : KTab P K d tab) (kin : K.In h) :
    ∃ f, h.MapOf (strKind prog w) d f ∧ (d == sysModules) = false ∧ ∀ x, RelO (tab.lookup x) (f x) := by
  subst hP
  obtain ⟨es, n, hl, hk, hd, hp⟩ := t
  refine ⟨_, PySem.W.mapOf_K (prog := prog) kin hl hk, hd, fun x => ?_⟩
  have q := ktab_find (x := x) hp
  show RelO _ (findBy Value.isStrOf es x)
  unfold findBy
  rw [← Array.find?_toList]
  exact q
def tKGet (tab : List (Str × V)) (ty : TE) : TE := fun σ H Q => ty σ H fun y H1 => ∃ x v, y = .str x ∧ tab.lookup x = some v ∧ Q v H1
theorem pe_kget {nm : Str} {i : Expr} {p pos : Pos} {d : Addr} {tab : List (Str × V)} {ty : TE} (T : KTab X.w.params X.K d tab) (hg : Gl X nm) (hm : X.mg nm = some (.ref d)) (hi : PE X i ty) (hs : NoSl i) (hd : (nm == ("__debug__" : Str)) = false := by decide) :
    PE X (.Subscript (.Name nm p) i pos) (tKGet tab ty) := by
  intro pins s σ H Q I h
  refine subD_of PySem.F.slot_dict_getitem.lookup hs (ld_glob I hg hm (thn (hi pins s σ H _ I h) fun iv s2 ⟨y, H2, I2, ry, x, v, ex, l, q⟩ => ?_) hd)
  subst ex
  obtain ⟨t, rfl⟩ := ry
  obtain ⟨f, mo, _, hf⟩ := ktab_map (prog := X.prog) (w := X.w) rfl T I2.kIn
  have hf := hf x
  rw [l] at hf
  obtain ⟨w', e', rw'⟩ := RelO.some_of hf
  exact ⟨mo.typeIs, wpAny_getItem_of (strKind_is X.prog X.w x t) mo e' ⟨v, H2, I2.tok _, rw', q⟩⟩
def tKIn (tab : List (Str × V)) (ty : TE) : TE := fun σ H Q => ty σ H fun y H1 => ∃ x, y = .str x ∧ Q (.bl (tab.lookup x).isSome) H1
theorem pc_kin {nm : Str} {i : Expr} {p : Pos} {d : Addr} {tab : List (Str × V)} {ty : TE} (T : KTab X.w.params X.K d tab) (hg : Gl X nm) (hm : X.mg nm = some (.ref d)) (hi : PE X i ty) (hd : (nm == ("__debug__" : Str)) = false := by decide) :
    PC X .In i (.Name nm p) (tKIn tab ty) := by
  intro pins s σ H Q I h
  refine thn (hi pins s σ H _ I h) fun iv s1 ⟨y, H1, I1, ry, x, ex, q⟩ => ld_glob I1 hg hm ?_ hd
  subst ex
  obtain ⟨t, rfl⟩ := ry
  obtain ⟨f, mo, lo, hf⟩ := ktab_map (prog := X.prog) (w := X.w) rfl T I1.kIn
  refine wpAny_in_of (strKind_is X.prog X.w x t) lo mo ⟨.bl _, H1, I1.tok _, rfl, ?_⟩
  rw [← RelO.isSome_eq (hf x)]
  exact q

/-! ### a call of what a local name holds -/
def tCallV (X : Cx) (i : Nat) (t : TA) : TE := fun σ H Q => ∃ (f : Addr) (fd : FuncData) (ps : List Str) (sp : Sp) (k : Nat), σ[i]? = some (some (.ref f)) ∧ PySem.W.keepIn X.K (.ref f) = true ∧ FnOk X.prog X.w X.K X.mg X.base CX0 k f fd ps sp ∧ Room k X.A ∧ Binds X.K fd ps [] ∧
  t σ H fun vs H1 => sp vs H1 Q E0
theorem pe_callV {i : Nat} {x : Str} {p pos : Pos} {e : Expr} {es : List Expr} {t : TA} (hv : PE X (.Name x p) (tVar i)) (ha : PA X (e :: es) t)
    (he : starEach (e :: es) X.env = (false, eval e X.env) :: starEach es X.env := by rfl) (hpl : (backTo pos (starEach es X.env)).any (·.1) = false := by rfl) :
    PE X (.Call (.Name x p) (e :: es) [] pos) (tCallV X i t) := by
  intro pins s σ H Q I h
  obtain ⟨f, fd, ps, sp, k, hσ, hk, F, hr, hb, h⟩ := h
  refine wpAny_Call_Name_kw (thn (hv pins s σ H (fun v H1 => v = .ref f ∧ H1 = H) I ⟨.ref f, hσ, rfl, rfl⟩) fun u s1 ⟨v, H1, I1, r1, e1, e2⟩ => ?_)
  subst e1
  subst e2
  cases r1
  refine PySem.W.callWith_K (h₀ := X.base) I1.ok.mod.kin hk (thn (ha pos pins s1 σ _ _ I1 h) fun us s2 ⟨vs, H2, I2, r, q⟩ => ⟨I2.kIn, ?_⟩) he hpl
  exact run_fn F hr hb .nil pass0 I2 r (by rw [List.append_nil]; exact q)

/-! ### lists compared; None in a list of tuples -/
def rEqE (K : PySem.W.Frag) : R2 := fun x y H Q => ∃ p q xs, x = .ref p ∧ y = .ref q ∧ SqL K H p xs ∧ SqL K H q [] ∧ Q (.bl (decide (xs = []))) H
theorem op_eqE (hu : X.A.units < cLine) : OpR X (compareOp .Eq) (rEqE X.K) := by
  intro pins s σ H x y v u Q I rx ry h
  obtain ⟨p, q, xs, rfl, rfl, h1, h2, hq⟩ := h
  cases rx
  cases ry
  obtain ⟨its, r, pl, _⟩ := I.list h1
  obtain ⟨its2, r2, pl2, _⟩ := I.list h2
  cases r2
  cases r with
  | nil =>
    refine SeqAt.eq_listAt (e := fun _ => true) pl.isList pl2.isList rfl hu (fun j h1 _ => absurd h1 (by simp)) ⟨.bl _, H, I, rfl, ?_⟩
    simpa using hq
  | cons a b =>
    refine SeqAt.eq_list_lengthsAt pl.isList pl2.isList (by simp) hu ⟨.bl _, H, I, rfl, ?_⟩
    simpa using hq
/-- two lists of the very same things -/
def rNeS (K : PySem.W.Frag) : R2 := fun x y H Q => ∃ (p q : Addr) (as : List Addr), x = .ref p ∧ y = .ref q ∧ SqL K H p (as.map V.ref) ∧ SqL K H q (as.map V.ref) ∧ Q (.bl false) H
theorem vals_refs : ∀ {as : List Addr} {us : List Value}, Vals (as.map V.ref) us → us = as.map Value.ref := by
  intro as
  induction as with
  | nil => intro us r; cases r; rfl
  | cons a r ih =>
    intro us h
    cases h with
    | cons x y => cases x; rw [ih y]; rfl
theorem op_neS (hu : X.A.units < cLine) : OpR X (compareOp .NotEq) (rNeS X.K) := by
  intro pins s σ H x y v u Q I rx ry h
  obtain ⟨p, q, as, rfl, rfl, h1, h2, hq⟩ := h
  cases rx
  cases ry
  obtain ⟨its, r, pl, _⟩ := I.list h1
  obtain ⟨its2, r2, pl2, _⟩ := I.list h2
  have e1 := vals_refs r
  have e2 := vals_refs r2
  subst e1
  subst e2
  refine SeqAt.RcNeAt.lists (e := fun _ => true) pl.isList pl2.isList rfl hu (fun j h1 _ => SeqAt.EqAt.same _) X.prog X.w X.xe _ ⟨.bl _, H, I, rfl, ?_⟩
  rw [List.all_eq_true.mpr fun _ _ => rfl]
  exact hq
def rInN (K : PySem.W.Frag) : R2 := fun x y H Q => ∃ p xs, x = .non ∧ y = .ref p ∧ SqL K H p xs ∧ (∀ z ∈ xs, z = .non ∨ ∃ a ys, z = .ref a ∧ H a = some (.tup ys)) ∧ Q (.bl (xs.any fun z => decide (z = .non))) H
theorem any_none : ∀ {xs : List V} {us : List Value}, Vals xs us → (us.any fun u => u == Value.none) = xs.any fun z => decide (z = .non)
  | _, _, .nil => rfl
  | _, _, .cons r t => by rw [List.any_cons, List.any_cons, RelV.none_iff r, any_none t]
theorem mem_vals : ∀ {xs : List V} {us : List Value} {u : Value}, Vals xs us → u ∈ us → ∃ x ∈ xs, RelV x u
  | _, _, _, .nil, h => by cases h
  | _, _, u, .cons (b := b) r t, h => by
    rcases List.mem_cons.mp h with z | z
    · subst z; exact ⟨_, List.mem_cons_self .., r⟩
    · obtain ⟨x, hx, rx⟩ := mem_vals t z
      exact ⟨x, List.mem_cons_of_mem _ hx, rx⟩
theorem op_inN (hu : X.A.units + 1 < cLine) : OpR X (compareOp .In) (rInN X.K) := by
  intro pins s σ H x y v u Q I rx ry h
  obtain ⟨p, xs, rfl, rfl, h1, ht, hq⟩ := h
  cases rx
  cases ry
  obtain ⟨its, r, pl, _⟩ := I.list h1
  refine SeqAt.in_listAt (fun u => u == Value.none) pl.isList (fun w hw => ?_) ⟨.bl _, H, I, rfl, ?_⟩
  · obtain ⟨z, hz, rz⟩ := mem_vals r (show w ∈ its by simpa using hw)
    rcases ht z hz with e | ⟨a, ys, e, ha⟩
    · subst e; cases rz; exact SeqAt.EqAt.same _
    · subst e
      cases rz
      obtain ⟨_, tv, rt, tp⟩ := (show ObjOk X.prog X.w H s.heap a (.tup ys) from I.hok a _ ha)
      exact SeqAt.EqAt.tuple_none (show s.heap.IsTuple a _ from tp) (by show X.A.units + 1 < cLine; exact hu)
  · rw [show its.toArray.any (fun u => u == Value.none) = its.any (fun u => u == Value.none) by simp, any_none r]
    exact hq

/-! ### d.setdefault(k, v), k an int or a text -/
def tSetDef (td ty tx : TE) : TE := fun σ H Q => td σ H fun x H1 => ∃ a, x = .ref a ∧ IsD H1 a ∧ ty σ H1 fun y H2 => tx σ H2 fun z H3 => ∃ kvs k, H3 a = some (.dK kvs) ∧ y = kV k ∧ kvs.length < sizeLine ∧
  match valV kvs k with
  | some v => Q v H3
  | none => Q z (upd H3 a (.dK (putK kvs k z)))
theorem pe_setdef {o e f : Expr} {apos cpos : Pos} {td ty tx : TE} (ho : PE X o td) (he : PE X e ty) (hf : PE X f tx) (m : M2 X o "setdefault" apos e f cpos) : PE X (.Call (.Attribute o "setdefault" apos) [e, f] [] cpos) (tSetDef td ty tx) := by
  intro pins s σ H Q I h
  refine wpAny_Call_method m.base m.few m.line PySem.F.plainAttrs_dict PySem.F.slot_dict_setdefault PySem.F.type_dict_setdefault (thn (ho pins s σ H _ I h) fun u s1 ⟨x, H1, I1, rx, a, ex, d, q1⟩ => ?_)
  subst ex
  obtain rfl : u = Value.ref a := rx
  obtain ⟨t1, t2, _⟩ := isD_at I1 d
  refine ⟨t1, t2, ?_⟩
  rw [m.trees]
  refine Calls.callWith_builtin rfl (Calls.evalArgs_plain (Calls.spliced_cons (thn (he pins s1 σ H1 _ I1 q1) fun iv s2 ⟨y, H2, I2, ry, q2⟩ =>
    Calls.spliced_cons (thn (hf pins s2 σ H2 _ I2 q2) fun fv s3 ⟨z, H3, I3, rz, kvs, k, ea, ek, hz, q3⟩ => Calls.spliced_nil ?_))))
  subst ek
  obtain ⟨hl, lo, vs, rel, dd⟩ := dk_of I3.hok ea
  have lenr := rel.length
  have hargs : argsOk "dict.setdefault" ⟨[.ref a, iv, fv], []⟩ := PySem.F.args_dict_setdefault_3 _ _ _
  show wpAny (model X.prog X.w) X.A (call (.builtin "dict.setdefault") [.ref a, iv, fv]) _ _ _
  refine call_meetsIn PySem.F.slot_dict_setdefault dd.typeIs PySem.F.entry_dict_setdefault hargs (kt_meets_setdefault (mixKind X.prog X.w) a (kV_is ry) lo fv) ⟨vs, dd, by omega, fun v hv => ?_, fun hn h' dd' sb => ?_⟩
  · cases l : valV kvs k with
    | none =>
      have := rel.val k
      rw [l, hv] at this
      exact this.elim
    | some w' =>
      have r := rel.val k
      rw [l, hv] at r
      rw [l] at q3
      exact ⟨w', H3, I3.tok _, r, q3⟩
  · cases l : valV kvs k with
    | some w' =>
      have r := rel.val k
      rw [l, hn] at r
      exact r.elim
    | none =>
      rw [l] at q3
      refine ⟨z, _, d_write I3 (ob := .dK (putK kvs k z)) (by rw [ea]; exact trivial) sb ?_ (dk_new (Nat.le_trans (length_putK kvs k z) hz) lo (rel.put k rz) dd'), rz, q3⟩
      obtain ⟨ob, _, _, e, _⟩ := dd'
      exact ⟨ob, e⟩
end
end L2

set_option Elab.async false
set_option linter.all false
set_option maxRecDepth 100000
set_option maxHeartbeats 4000000
namespace My
open PySem PySem.Spec PyProof.Rows L2
def top (i : Nat) : Stmt := PySem.Challenge.pw_codemill_k02_written.main.body.getD i (.Pass ⟨0, 0, 0, 0⟩)
/-! ### a def of the text, as its callers see it -/
def FN (P : Program) (w : World) (K : PySem.W.Frag) (mg : Str → Option Value) (base : Heap) (k : Nat) (name : Str) (ps : List Str) (sp : Sp) : Prop :=
  ∃ f fd, mg name = some (.ref f) ∧ PySem.W.keepIn K (.ref f) = true ∧ Binds K fd ps [] ∧ FnOk P w K mg base CX0 k f fd ps sp
def HasDef (K : PySem.W.Frag) (mg : Str → Option Value) (name : Str) (st : Stmt) : Prop := ∃ f fd, Fun K name name st f fd ∧ mg name = some (.ref f)
section
variable {P : Program} {w : World} {K : PySem.W.Frag} {mg : Str → Option Value} {base : Heap}
theorem FN.mono {j k : Nat} {name : Str} {ps : List Str} {sp : Sp} (F : FN P w K mg base j name ps sp) (h : j ≤ k) : FN P w K mg base k name ps sp := by
  obtain ⟨f, fd, a, b, c, d⟩ := F
  exact ⟨f, fd, a, b, c, d.mono h⟩
theorem FN.imp {k : Nat} {name : Str} {ps : List Str} {sp sp' : Sp} (F : FN P w K mg base k name ps sp) (h : ∀ vs H Q E, sp' vs H Q E → sp vs H Q E) : FN P w K mg base k name ps sp' := by
  obtain ⟨f, fd, a, b, c, d⟩ := F
  exact ⟨f, fd, a, b, c, d.imp h⟩
theorem FN.of {name : Str} {st : Stmt} {N ps : List Str} {sp : Sp} {k : Nat} (D : HasDef K mg name st) (S : FnScope N ps (defScope st))
    (hb : ∀ (kV doc pm : Value) (an : Option Addr) (cdv ct : Value) (us : List Value), us.length = ps.length → bindArgs (PySem.W.fnOf name name (defArgs st) (defBody st) (defScope st) .none kV doc pm an cdv ct) ⟨us, []⟩ = pure (ps.zip us))
    (len : ∀ vs H Q E, sp vs H Q E → vs.length = ps.length)
    (hbody : ∀ (f : Addr) (cdv : Value) (A : Around) (outer : List Env) (s : Shared) (H : Hp) (vs : List V) (Q : VK) (E : XK), Room k (A.deeper (envOfC name (defScope st) s.heap.objs.size f cdv)) → sp vs H Q E →
      ∃ t, PSs (cxOf CX0 P w K mg base N name (defScope st) f cdv A outer s H E).nox (defBody st) t ∧ t { nx := fun _ H' => Q .non H', rt := Q } (start N vs) H) : FN P w K mg base (k + 1) name ps sp := by
  obtain ⟨f, fd, F, m⟩ := D
  exact ⟨f, fd, m, F.kp, F.binds hb, F.ok S len (hbody f)⟩
end
section
variable {X : Cx} {k : Nat} {name : Str} {ps : List Str} {sp : Sp} {p pos : Pos} {e : Expr} {es : List Expr} {t : TA}
theorem pe_fn (F : FN X.prog X.w X.K X.mg X.base k name ps sp) (hr : Room k X.A) (hg : Gl X name) (ha : PA X (e :: es) t) (hdb : (name == ("__debug__" : Str)) = false := by decide)
    (he : starEach (e :: es) X.env = (false, eval e X.env) :: starEach es X.env := by rfl) (hpl : (backTo pos (starEach es X.env)).any (·.1) = false := by rfl) :
    PE X (.Call (.Name name p) (e :: es) [] pos) (tCall sp [] E0 t) := by
  obtain ⟨f, fd, a, b, c, d⟩ := F
  exact pe_call d hr hg a b c .nil pass0 ha hdb he hpl
end
/-! ### scalars -/
inductive Scal : V → Prop where
  | non : Scal .non
  | bl (b : Bool) : Scal (.bl b)
  | int (i : Int) : Scal (.int i)
  | str (s : Str) (h : s.length ≤ sizeLine) : Scal (.str s)
def isNum : V → Bool
  | .int _ => true
  | _ => false
def isB : V → Bool
  | .bl _ => true
  | _ => false
def isS : V → Bool
  | .str _ => true
  | _ => false
def within (x : V) (lo hi : Int) : Bool := match x with
  | .int i => decide (lo ≤ i) && decide (i ≤ hi)
  | _ => false
def letters (x : V) (most : Int) : Bool := match x with
  | .str s => decide ((1 : Int) ≤ (s.length : Int)) && decide ((s.length : Int) ≤ most) && Txt.isascii s && Txt.isalpha s
  | _ => false
def low : V → Bool
  | .str s => Txt.islower s
  | _ => false
def nameV (x : V) : Bool := letters x 4 && low x
def kindV (x : V) : Bool := letters x 8
def markV (x : V) : Bool := within x 0 99
def valueV (x : V) (most : Int) : Bool := decide (x = .non) || isB x || within x (-most) most || kindV x
def pushedV (x : V) : Bool := valueV x 1000000000
def copiedV (x : V) : Bool := within x 1 9
def swappedV (x : V) : Bool := within x 2 9
def noneV (x : V) : Bool := decide (x = .non)
def sortTab : List (Str × Str) := [("push", "value"), ("load", "name"), ("quick", "name"), ("store", "name"), ("clear", "name"), ("copy", "copied"), ("swap", "swapped"), ("jump", "mark"), ("iftrue", "mark"), ("iffalse", "mark"), ("ortrue", "mark"), ("orfalse", "mark"), ("try", "mark"), ("label", "mark"), ("add", "none"), ("sub", "none"), ("mul", "none"), ("div", "none"), ("rest", "none"), ("less", "none"), ("same", "none"), ("neg", "none"), ("not", "none"), ("drop", "none"), ("tell", "none"), ("return", "none"), ("raise", "none"), ("endtry", "none")]
def sortOf (op : Str) : Option Str := sortTab.lookup op
def fitsV (sort : Str) (x : V) : Bool :=
  if sort = "value" then pushedV x else if sort = "name" then nameV x else if sort = "copied" then copiedV x else if sort = "swapped" then swappedV x else if sort = "mark" then markV x else noneV x
def argFits (op : Str) (x : V) : Bool := match sortOf op with
  | some s => fitsV s x
  | none => false
def rowV (op : Str) (arg line : V) : Bool := (sortOf op).isSome && argFits op arg && within line 0 9999
/-- the top's names that the program reads -/
structure Glo (mg : Str → Option Value) : Prop where
  isinstance : mg "isinstance" = none
  int : mg "int" = none
  bool : mg "bool" = none
  str : mg "str" = none
  tuple : mg "tuple" = none
  list : mg "list" = none
  len : mg "len" = none
  range : mg "range" = none
  enumerate : mg "enumerate" = none
  rows : ∃ u, mg "MOST_ROWS" = some u ∧ RelV (.int 150) u
  line : ∃ u, mg "MOST_LINE" = some u ∧ RelV (.int 9999) u
  mark : ∃ u, mg "MOST_MARK" = some u ∧ RelV (.int 99) u
  pushed : ∃ u, mg "MOST_PUSHED" = some u ∧ RelV (.int 1000000000) u
  name : ∃ u, mg "LONGEST_NAME" = some u ∧ RelV (.int 4) u
  kind : ∃ u, mg "LONGEST_KIND" = some u ∧ RelV (.int 8) u
  figures : ∃ u, mg "MOST_FIGURES" = some u ∧ RelV (.int 10) u
theorem boot_isinstance : bootBuiltins "isinstance" = some (.builtin "isinstance") := by decide +kernel
theorem boot_int : bootBuiltins "int" = some (.type "int") := by decide +kernel
theorem boot_bool : bootBuiltins "bool" = some (.type "bool") := by decide +kernel
theorem boot_str : bootBuiltins "str" = some (.type "str") := by decide +kernel
theorem boot_tuple : bootBuiltins "tuple" = some (.type "tuple") := by decide +kernel
theorem boot_list : bootBuiltins "list" = some (.type "list") := by decide +kernel
theorem boot_len : bootBuiltins "len" = some (.builtin "len") := by decide +kernel
theorem inst_int {K : PySem.W.Frag} {H : Hp} {x : V} (h : Scal x) : ∃ t, TyOf K H x t ∧ PySem.W.kitOne K t (.type "int") = some (isNum x || isB x) := by
  cases h with
  | non => exact ⟨_, .non, rfl⟩
  | bl b => exact ⟨_, .bl b, rfl⟩
  | int i => exact ⟨_, .int i, rfl⟩
  | str s _ => exact ⟨_, .str s, rfl⟩
theorem inst_bool {K : PySem.W.Frag} {H : Hp} {x : V} (h : Scal x) : ∃ t, TyOf K H x t ∧ PySem.W.kitOne K t (.type "bool") = some (isB x) := by
  cases h with
  | non => exact ⟨_, .non, rfl⟩
  | bl b => exact ⟨_, .bl b, rfl⟩
  | int i => exact ⟨_, .int i, rfl⟩
  | str s _ => exact ⟨_, .str s, rfl⟩
theorem inst_str {K : PySem.W.Frag} {H : Hp} {x : V} (h : Scal x) : ∃ t, TyOf K H x t ∧ PySem.W.kitOne K t (.type "str") = some (isS x) := by
  cases h with
  | non => exact ⟨_, .non, rfl⟩
  | bl b => exact ⟨_, .bl b, rfl⟩
  | int i => exact ⟨_, .int i, rfl⟩
  | str s _ => exact ⟨_, .str s, rfl⟩
theorem inst_tuple {K : PySem.W.Frag} {H : Hp} {x : V} (h : Scal x) : ∃ t, TyOf K H x t ∧ PySem.W.kitOne K t (.type "tuple") = some false := by
  cases h with
  | non => exact ⟨_, .non, rfl⟩
  | bl b => exact ⟨_, .bl b, rfl⟩
  | int i => exact ⟨_, .int i, rfl⟩
  | str s _ => exact ⟨_, .str s, rfl⟩
theorem inst_list {K : PySem.W.Frag} {H : Hp} {x : V} (h : Scal x) : ∃ t, TyOf K H x t ∧ PySem.W.kitOne K t (.type "list") = some false := by
  cases h with
  | non => exact ⟨_, .non, rfl⟩
  | bl b => exact ⟨_, .bl b, rfl⟩
  | int i => exact ⟨_, .int i, rfl⟩
  | str s _ => exact ⟨_, .str s, rfl⟩
section
variable {X : Cx}
theorem pe_ty (T : String) {x : Str} {pos : Pos} (hg : Gl X x) (hm : X.mg x = none) (hv : bootBuiltins x = some (.type T)) (hn : x ≠ "__name__" := by decide) (hd : (x == ("__debug__" : Str)) = false := by decide) : PE X (.Name x pos) (tC (.ty T)) := pe_bltn hg hm hv rfl hn hd
theorem pe_const {x : Str} {v : V} {pos : Pos} (hg : Gl X x) (hm : ∃ u, X.mg x = some u ∧ RelV v u) (hd : (x == ("__debug__" : Str)) = false := by decide) : PE X (.Name x pos) (tC v) := by
  obtain ⟨u, h1, h2⟩ := hm
  exact pe_glob hg h1 h2 hd
end
end My

set_option Elab.async false
set_option linter.all false
set_option maxRecDepth 100000
set_option maxHeartbeats 4000000
namespace My
open PySem PySem.Spec PyProof.Rows L2
section
variable {P : Program} {w : World} {K : PySem.W.Frag} {mg : Str → Option Value} {base : Heap}
def sp1 (f : V → Bool) : Sp := fun vs H Q _ => ∃ x, vs = [x] ∧ Scal x ∧ Q (.bl (f x)) H
theorem sp1_len {f : V → Bool} (vs : List V) (H : Hp) (Q : VK) (E : XK) (h : sp1 f vs H Q E) : vs.length = 1 := by
  obtain ⟨x, rfl, _⟩ := h
  rfl
theorem sc12 : FnScope ["thing"] ["thing"] (defScope (top 12)) := ⟨rfl, rfl, rfl, by decide +kernel, rfl, by decide +kernel, by decide +kernel⟩
theorem fn_is_number (D : HasDef K mg "is_number" (top 12)) (G : Glo mg) : FN P w K mg base 1 "is_number" ["thing"] (sp1 isNum) := by
  refine FN.of D sc12 (fun _ _ _ _ _ _ us hl => match us, hl with | [_], _ => rfl) sp1_len (fun f cdv A outer s H vs Q E hr h => ?_)
  obtain ⟨x, rfl, hx, q⟩ := h
  refine ⟨_, pss_one (ps_ret (pe_and (pe_callB call_isinst rfl G.isinstance boot_isinstance (pa_cons (pv 0) (pa_cons (pe_ty "int" rfl G.int boot_int) pa_nil)))
    (pe_one (pe_not (pe_callB call_isinst rfl G.isinstance boot_isinstance (pa_cons (pv 0) (pa_cons (pe_ty "bool" rfl G.bool boot_bool) pa_nil))))))), ?_⟩
  obtain ⟨t1, ty1, k1⟩ := inst_int (K := K) (H := H) hx
  obtain ⟨t2, ty2, k2⟩ := inst_bool (K := K) (H := H) hx
  refine ⟨_, rfl, _, "int", t1, _, rfl, ty1, k1, _, rfl, ?_⟩
  cases hx with
  | non => exact q
  | bl b => exact ⟨_, rfl, _, "bool", t2, _, rfl, ty2, k2, _, rfl, q⟩
  | int i => exact ⟨_, rfl, _, "bool", t2, _, rfl, ty2, k2, _, rfl, q⟩
  | str s _ => exact q

def spWithin : Sp := fun vs H Q _ => ∃ x lo hi, vs = [x, .int lo, .int hi] ∧ Scal x ∧ Q (.bl (within x lo hi)) H
theorem sc13 : FnScope ["thing", "low", "high"] ["thing", "low", "high"] (defScope (top 13)) := ⟨rfl, rfl, rfl, by decide +kernel, rfl, by decide +kernel, by decide +kernel⟩
theorem fn_within (D : HasDef K mg "is_number_within" (top 13)) (G : Glo mg) (F1 : FN P w K mg base 1 "is_number" ["thing"] (sp1 isNum)) : FN P w K mg base 2 "is_number_within" ["thing", "low", "high"] spWithin := by
  refine FN.of D sc13 (fun _ _ _ _ _ _ us hl => match us, hl with | [_, _, _], _ => rfl) (fun vs H Q E h => by obtain ⟨x, lo, hi, rfl, _⟩ := h; rfl) (fun f cdv A outer s H vs Q E hr h => ?_)
  obtain ⟨x, lo, hi, rfl, hx, q⟩ := h
  refine ⟨_, pss_one (ps_ret (pe_and (pe_fn F1 hr rfl (pa_cons (pv 0) pa_nil)) (pe_one (pe_chain op_le op_le (pv 1) (pv 0) (pv 2))))), ?_⟩
  refine ⟨_, rfl, x, rfl, hx, _, rfl, ?_⟩
  cases hx with
  | non => exact q
  | bl b => exact q
  | str s _ => exact q
  | int i =>
    refine ⟨_, rfl, _, rfl, _, _, rfl, rfl, _, rfl, ?_⟩
    have q' : Q (.bl (decide (lo ≤ i) && decide (i ≤ hi))) H := q
    refine ite2 (fun c => ?_) (fun c => ?_)
    · rw [c, Bool.true_and] at q'
      exact ⟨_, rfl, _, _, rfl, rfl, q'⟩
    · rw [Bool.eq_false_iff.mpr c, Bool.false_and] at q'
      exact q'
def spLetters : Sp := fun vs H Q _ => ∃ x most, vs = [x, .int most] ∧ Scal x ∧ Q (.bl (letters x most)) H
theorem sc14 : FnScope ["thing", "most"] ["thing", "most"] (defScope (top 14)) := ⟨rfl, rfl, rfl, by decide +kernel, rfl, by decide +kernel, by decide +kernel⟩
theorem fn_letters (D : HasDef K mg "is_letters" (top 14)) (G : Glo mg) : FN P w K mg base 1 "is_letters" ["thing", "most"] spLetters := by
  refine FN.of D sc14 (fun _ _ _ _ _ _ us hl => match us, hl with | [_, _], _ => rfl) (fun vs H Q E h => by obtain ⟨x, most, rfl, _⟩ := h; rfl) (fun f cdv A outer s H vs Q E hr h => ?_)
  obtain ⟨x, most, rfl, hx, q⟩ := h
  refine ⟨_, pss_one (ps_ret (pe_and (pe_callB call_isinst rfl G.isinstance boot_isinstance (pa_cons (pv 0) (pa_cons (pe_ty "str" rfl G.str boot_str) pa_nil)))
    (pe_and (pe_chain op_le op_le pe_int (pe_callB call_len_str rfl G.len boot_len (pa_cons (pv 0) pa_nil)) (pv 1))
    (pe_and (pe_bm0 F.plainAttrs_str F.slot_str_isascii F.type_str_isascii mt_isascii (pv 0))
    (pe_one (pe_bm0 F.plainAttrs_str F.slot_str_isalpha F.type_str_isalpha mt_isalpha (pv 0))))))), ?_⟩
  obtain ⟨t1, ty1, k1⟩ := inst_str (K := K) (H := H) hx
  refine ⟨_, rfl, _, "str", t1, _, rfl, ty1, k1, _, rfl, ?_⟩
  cases hx with
  | non => exact q
  | bl b => exact q
  | int i => exact q
  | str z hz =>
    have q' : Q (.bl (decide ((1 : Int) ≤ (z.length : Int)) && decide ((z.length : Int) ≤ most) && Txt.isascii z && Txt.isalpha z)) H := q
    refine ⟨_, rfl, z, rfl, hz, _, _, rfl, rfl, _, rfl, ?_⟩
    refine ite2 (fun c => ?_) (fun c => ?_)
    · rw [c, Bool.true_and] at q'
      refine ⟨_, rfl, _, _, rfl, rfl, _, rfl, ?_⟩
      refine ite2 (fun c => ?_) (fun c => ?_)
      · rw [c, Bool.true_and] at q'
        refine ⟨_, rfl, rfl, z, rfl, rfl, _, rfl, ?_⟩
        refine ite2 (fun c => ?_) (fun c => ?_)
        · rw [c, Bool.true_and] at q'
          exact ⟨_, rfl, rfl, z, rfl, rfl, q'⟩
        · rw [Bool.eq_false_iff.mpr c, Bool.false_and] at q'
          exact q'
      · rw [Bool.eq_false_iff.mpr c, Bool.false_and, Bool.false_and] at q'
        exact q'
    · rw [Bool.eq_false_iff.mpr c, Bool.false_and, Bool.false_and, Bool.false_and] at q'
      exact ⟨_, rfl, q'⟩
theorem sc15 : FnScope ["thing"] ["thing"] (defScope (top 15)) := ⟨rfl, rfl, rfl, by decide +kernel, rfl, by decide +kernel, by decide +kernel⟩
theorem fn_name (D : HasDef K mg "is_name" (top 15)) (G : Glo mg) (F1 : FN P w K mg base 1 "is_letters" ["thing", "most"] spLetters) : FN P w K mg base 2 "is_name" ["thing"] (sp1 nameV) := by
  refine FN.of D sc15 (fun _ _ _ _ _ _ us hl => match us, hl with | [_], _ => rfl) sp1_len (fun f cdv A outer s H vs Q E hr h => ?_)
  obtain ⟨x, rfl, hx, q⟩ := h
  refine ⟨_, pss_one (ps_ret (pe_and (pe_fn F1 hr rfl (pa_cons (pv 0) (pa_cons (pe_const rfl G.name) pa_nil)))
    (pe_one (pe_bm0 F.plainAttrs_str F.slot_str_islower F.type_str_islower mt_islower (pv 0))))), ?_⟩
  refine ⟨_, rfl, x, 4, rfl, hx, _, rfl, ?_⟩
  have q' : Q (.bl (letters x 4 && low x)) H := q
  refine ite2 (fun c => ?_) (fun c => ?_)
  · rw [c, Bool.true_and] at q'
    cases hx with
    | non => cases c
    | bl b => cases c
    | int i => cases c
    | str z hz => exact ⟨_, rfl, rfl, z, rfl, rfl, q'⟩
  · rw [Bool.eq_false_iff.mpr c, Bool.false_and] at q'
    exact q'
theorem sc16 : FnScope ["thing"] ["thing"] (defScope (top 16)) := ⟨rfl, rfl, rfl, by decide +kernel, rfl, by decide +kernel, by decide +kernel⟩
theorem fn_kind (D : HasDef K mg "is_kind" (top 16)) (G : Glo mg) (F1 : FN P w K mg base 1 "is_letters" ["thing", "most"] spLetters) : FN P w K mg base 2 "is_kind" ["thing"] (sp1 kindV) := by
  refine FN.of D sc16 (fun _ _ _ _ _ _ us hl => match us, hl with | [_], _ => rfl) sp1_len (fun f cdv A outer s H vs Q E hr h => ?_)
  obtain ⟨x, rfl, hx, q⟩ := h
  refine ⟨_, pss_one (ps_ret (pe_fn F1 hr rfl (pa_cons (pv 0) (pa_cons (pe_const rfl G.kind) pa_nil)))), ?_⟩
  exact ⟨_, rfl, x, 8, rfl, hx, q⟩
theorem sc17 : FnScope ["thing"] ["thing"] (defScope (top 17)) := ⟨rfl, rfl, rfl, by decide +kernel, rfl, by decide +kernel, by decide +kernel⟩
theorem fn_mark (D : HasDef K mg "is_mark" (top 17)) (G : Glo mg) (F1 : FN P w K mg base 2 "is_number_within" ["thing", "low", "high"] spWithin) : FN P w K mg base 3 "is_mark" ["thing"] (sp1 markV) := by
  refine FN.of D sc17 (fun _ _ _ _ _ _ us hl => match us, hl with | [_], _ => rfl) sp1_len (fun f cdv A outer s H vs Q E hr h => ?_)
  obtain ⟨x, rfl, hx, q⟩ := h
  refine ⟨_, pss_one (ps_ret (pe_fn F1 hr rfl (pa_cons (pv 0) (pa_cons pe_int (pa_cons (pe_const rfl G.mark) pa_nil))))), ?_⟩
  exact ⟨_, rfl, x, 0, 99, rfl, hx, q⟩
def spValue : Sp := fun vs H Q _ => ∃ x most, vs = [x, .int most] ∧ Scal x ∧ Q (.bl (valueV x most)) H
theorem sc18 : FnScope ["thing", "most"] ["thing", "most"] (defScope (top 18)) := ⟨rfl, rfl, rfl, by decide +kernel, rfl, by decide +kernel, by decide +kernel⟩
theorem fn_value (D : HasDef K mg "is_value_within" (top 18)) (G : Glo mg) (F1 : FN P w K mg base 2 "is_number_within" ["thing", "low", "high"] spWithin) (F2 : FN P w K mg base 2 "is_kind" ["thing"] (sp1 kindV)) : FN P w K mg base 3 "is_value_within" ["thing", "most"] spValue := by
  refine FN.of D sc18 (fun _ _ _ _ _ _ us hl => match us, hl with | [_, _], _ => rfl) (fun vs H Q E h => by obtain ⟨x, most, rfl, _⟩ := h; rfl) (fun f cdv A outer s H vs Q E hr h => ?_)
  obtain ⟨x, most, rfl, hx, q⟩ := h
  refine ⟨_, pss_cons (ps_if (PW.pt (pw_or (pt_cmpR op_isN (pv 0) pe_non (nomark _)) (pw_or1 (pt_val (pe_callB call_isinst rfl G.isinstance boot_isinstance (pa_cons (pv 0) (pa_cons (pe_ty "bool" rfl G.bool boot_bool) pa_nil))))))) (pss_one (ps_ret pe_bl)) pss_nil)
    (pss_one (ps_ret (pe_or (pe_fn F1 hr rfl (pa_cons (pv 0) (pa_cons (pe_un un_neg (pv 1)) (pa_cons (pv 1) pa_nil)))) (pe_one (pe_fn F2 hr rfl (pa_cons (pv 0) pa_nil)))))), ?_⟩
  refine ⟨_, rfl, rfl, _, rfl, ?_⟩
  have q' : Q (.bl (decide (x = .non) || isB x || within x (-most) most || kindV x)) H := q
  refine ite2 (fun c => ?_) (fun c => ?_)
  · rw [c, Bool.true_or, Bool.true_or, Bool.true_or] at q'
    exact iteT q'
  · rw [Bool.eq_false_iff.mpr c, Bool.false_or] at q'
    obtain ⟨t2, ty2, k2⟩ := inst_bool (K := K) (H := H) hx
    refine ⟨_, rfl, _, "bool", t2, _, rfl, ty2, k2, _, rfl, ?_⟩
    refine ite2 (fun c => ?_) (fun c => ?_)
    · rw [c, Bool.true_or, Bool.true_or] at q'
      exact q'
    · rw [Bool.eq_false_iff.mpr c, Bool.false_or] at q'
      refine ⟨_, rfl, _, rfl, most, rfl, _, rfl, x, -most, most, rfl, hx, _, rfl, ?_⟩
      refine ite2 (fun c => ?_) (fun c => ?_)
      · rw [c, Bool.true_or] at q'
        exact q'
      · rw [Bool.eq_false_iff.mpr c, Bool.false_or] at q'
        exact ⟨_, rfl, x, rfl, hx, q'⟩
theorem sc19 : FnScope ["thing"] ["thing"] (defScope (top 19)) := ⟨rfl, rfl, rfl, by decide +kernel, rfl, by decide +kernel, by decide +kernel⟩
theorem fn_pushed (D : HasDef K mg "is_pushed" (top 19)) (G : Glo mg) (F1 : FN P w K mg base 3 "is_value_within" ["thing", "most"] spValue) : FN P w K mg base 4 "is_pushed" ["thing"] (sp1 pushedV) := by
  refine FN.of D sc19 (fun _ _ _ _ _ _ us hl => match us, hl with | [_], _ => rfl) sp1_len (fun f cdv A outer s H vs Q E hr h => ?_)
  obtain ⟨x, rfl, hx, q⟩ := h
  refine ⟨_, pss_one (ps_ret (pe_fn F1 hr rfl (pa_cons (pv 0) (pa_cons (pe_const rfl G.pushed) pa_nil)))), ?_⟩
  exact ⟨_, rfl, x, 1000000000, rfl, hx, q⟩
theorem sc20 : FnScope ["thing"] ["thing"] (defScope (top 20)) := ⟨rfl, rfl, rfl, by decide +kernel, rfl, by decide +kernel, by decide +kernel⟩
theorem fn_copied (D : HasDef K mg "is_copied" (top 20)) (F1 : FN P w K mg base 2 "is_number_within" ["thing", "low", "high"] spWithin) : FN P w K mg base 3 "is_copied" ["thing"] (sp1 copiedV) := by
  refine FN.of D sc20 (fun _ _ _ _ _ _ us hl => match us, hl with | [_], _ => rfl) sp1_len (fun f cdv A outer s H vs Q E hr h => ?_)
  obtain ⟨x, rfl, hx, q⟩ := h
  refine ⟨_, pss_one (ps_ret (pe_fn F1 hr rfl (pa_cons (pv 0) (pa_cons pe_int (pa_cons pe_int pa_nil))))), ?_⟩
  exact ⟨_, rfl, x, 1, 9, rfl, hx, q⟩
theorem sc21 : FnScope ["thing"] ["thing"] (defScope (top 21)) := ⟨rfl, rfl, rfl, by decide +kernel, rfl, by decide +kernel, by decide +kernel⟩
theorem fn_swapped (D : HasDef K mg "is_swapped_with" (top 21)) (F1 : FN P w K mg base 2 "is_number_within" ["thing", "low", "high"] spWithin) : FN P w K mg base 3 "is_swapped_with" ["thing"] (sp1 swappedV) := by
  refine FN.of D sc21 (fun _ _ _ _ _ _ us hl => match us, hl with | [_], _ => rfl) sp1_len (fun f cdv A outer s H vs Q E hr h => ?_)
  obtain ⟨x, rfl, hx, q⟩ := h
  refine ⟨_, pss_one (ps_ret (pe_fn F1 hr rfl (pa_cons (pv 0) (pa_cons pe_int (pa_cons pe_int pa_nil))))), ?_⟩
  exact ⟨_, rfl, x, 2, 9, rfl, hx, q⟩
theorem sc22 : FnScope ["thing"] ["thing"] (defScope (top 22)) := ⟨rfl, rfl, rfl, by decide +kernel, rfl, by decide +kernel, by decide +kernel⟩
theorem fn_none (D : HasDef K mg "is_none" (top 22)) : FN P w K mg base 1 "is_none" ["thing"] (sp1 noneV) := by
  refine FN.of D sc22 (fun _ _ _ _ _ _ us hl => match us, hl with | [_], _ => rfl) sp1_len (fun f cdv A outer s H vs Q E hr h => ?_)
  obtain ⟨x, rfl, hx, q⟩ := h
  refine ⟨_, pss_one (ps_ret (pe_cmpR op_isN (pv 0) pe_non (nomark _))), ?_⟩
  exact ⟨_, rfl, rfl, q⟩

/-! ### the tables -/
theorem lookup_map {α β : Type} (f : α → β) (x : Str) : ∀ l : List (Str × α), (l.map fun p => (p.1, f p.2)).lookup x = (l.lookup x).map f
  | [] => rfl
  | (k, v) :: r => by
    rw [List.map_cons, List.lookup_cons, List.lookup_cons]
    cases x == k with
    | true => rfl
    | false => exact lookup_map f x r
def sortsV : List (Str × V) := sortTab.map fun p => (p.1, V.str p.2)
theorem sortsV_look (x : Str) : sortsV.lookup x = (sortOf x).map V.str := lookup_map _ _ _
structure Tabs (w : World) (K : PySem.W.Frag) (mg : Str → Option Value) : Prop where
  sorts : ∃ d, mg "ARG_SORTS" = some (.ref d) ∧ KTab w.params K d sortsV
  tests : ∃ d f1 f2 f3 f4 f5 f6, mg "ARG_TESTS" = some (.ref d) ∧ KTab w.params K d [("value", .ref f1), ("name", .ref f2), ("copied", .ref f3), ("swapped", .ref f4), ("mark", .ref f5), ("none", .ref f6)] ∧
    mg "is_pushed" = some (.ref f1) ∧ mg "is_name" = some (.ref f2) ∧ mg "is_copied" = some (.ref f3) ∧ mg "is_swapped_with" = some (.ref f4) ∧ mg "is_mark" = some (.ref f5) ∧ mg "is_none" = some (.ref f6)
  words : ∃ d, mg "VALUE_WORDS" = some (.ref d) ∧ KTab w.params K d [("none", .non), ("true", .bl true), ("false", .bl false)]
def isOp : V → Bool
  | .str s => (sortOf s).isSome
  | _ => false
theorem sc24 : FnScope ["thing"] ["thing"] (defScope (top 24)) := ⟨rfl, rfl, rfl, by decide +kernel, rfl, by decide +kernel, by decide +kernel⟩
theorem fn_op (D : HasDef K mg "is_op" (top 24)) (G : Glo mg) (T : Tabs w K mg) : FN P w K mg base 1 "is_op" ["thing"] (sp1 isOp) := by
  refine FN.of D sc24 (fun _ _ _ _ _ _ us hl => match us, hl with | [_], _ => rfl) sp1_len (fun f cdv A outer s H vs Q E hr h => ?_)
  obtain ⟨x, rfl, hx, q⟩ := h
  obtain ⟨d, md, td⟩ := T.sorts
  refine ⟨_, pss_one (ps_ret (pe_and (pe_callB call_isinst rfl G.isinstance boot_isinstance (pa_cons (pv 0) (pa_cons (pe_ty "str" rfl G.str boot_str) pa_nil))) (pe_one (pe_cmp (pc_kin td rfl md (pv 0)))))), ?_⟩
  obtain ⟨t1, ty1, k1⟩ := inst_str (K := K) (H := H) hx
  refine ⟨_, rfl, _, "str", t1, _, rfl, ty1, k1, _, rfl, ?_⟩
  cases hx with
  | non => exact q
  | bl b => exact q
  | int i => exact q
  | str z hz =>
    refine ⟨_, rfl, z, rfl, ?_⟩
    have q' : Q (.bl (sortOf z).isSome) H := q
    rw [sortsV_look, Option.isSome_map]
    exact q'
def spSort : Sp := fun vs H Q _ => ∃ op s, vs = [.str op] ∧ sortOf op = some s ∧ Q (.str s) H
theorem sc25 : FnScope ["op"] ["op"] (defScope (top 25)) := ⟨rfl, rfl, rfl, by decide +kernel, rfl, by decide +kernel, by decide +kernel⟩
theorem fn_sort (D : HasDef K mg "arg_sort" (top 25)) (T : Tabs w K mg) : FN P w K mg base 1 "arg_sort" ["op"] spSort := by
  refine FN.of D sc25 (fun _ _ _ _ _ _ us hl => match us, hl with | [_], _ => rfl) (fun vs H Q E h => by obtain ⟨op, s, rfl, _⟩ := h; rfl) (fun f cdv A outer s H vs Q E hr h => ?_)
  obtain ⟨op, so, rfl, hs, q⟩ := h
  obtain ⟨d, md, td⟩ := T.sorts
  refine ⟨_, pss_one (ps_ret (pe_kget td rfl md (pv 0) (fun _ _ => rfl))), ?_⟩
  exact ⟨_, rfl, op, .str so, rfl, by rw [sortsV_look, hs]; rfl, q⟩
def spFits : Sp := fun vs H Q _ => ∃ op s x, vs = [.str op, x] ∧ sortOf op = some s ∧ Scal x ∧ Q (.bl (fitsV s x)) H
theorem sc26 : FnScope ["op", "arg", "fits"] ["op", "arg"] (defScope (top 26)) := ⟨rfl, rfl, rfl, by decide +kernel, rfl, by decide +kernel, by decide +kernel⟩
/-- the sorts that there are -/
theorem sort_in {op s : Str} (h : sortOf op = some s) : s = "value" ∨ s = "name" ∨ s = "copied" ∨ s = "swapped" ∨ s = "mark" ∨ s = "none" := by
  have hm : (op, s) ∈ sortTab := PySem.mem_of_lookup h
  have all : ∀ p ∈ sortTab, p.2 = "value" ∨ p.2 = "name" ∨ p.2 = "copied" ∨ p.2 = "swapped" ∨ p.2 = "mark" ∨ p.2 = "none" := by decide +kernel
  exact all _ hm
theorem fn_fits (D : HasDef K mg "arg_fits" (top 26)) (T : Tabs w K mg) (F1 : FN P w K mg base 1 "arg_sort" ["op"] spSort) (A1 : FN P w K mg base 4 "is_pushed" ["thing"] (sp1 pushedV)) (A2 : FN P w K mg base 2 "is_name" ["thing"] (sp1 nameV))
    (A3 : FN P w K mg base 3 "is_copied" ["thing"] (sp1 copiedV)) (A4 : FN P w K mg base 3 "is_swapped_with" ["thing"] (sp1 swappedV)) (A5 : FN P w K mg base 3 "is_mark" ["thing"] (sp1 markV)) (A6 : FN P w K mg base 1 "is_none" ["thing"] (sp1 noneV)) :
    FN P w K mg base 5 "arg_fits" ["op", "arg"] spFits := by
  refine FN.of D sc26 (fun _ _ _ _ _ _ us hl => match us, hl with | [_, _], _ => rfl) (fun vs H Q E h => by obtain ⟨op, s, x, rfl, _⟩ := h; rfl) (fun f cdv A outer s H vs Q E hr h => ?_)
  obtain ⟨op, so, x, rfl, hs, hx, q⟩ := h
  obtain ⟨d, f1, f2, f3, f4, f5, f6, md, td, m1, m2, m3, m4, m5, m6⟩ := T.tests
  have hr1 := hr.mono (show 1 ≤ 4 by decide)
  refine ⟨_, pss_cons (ps_set (i := 2) sc26.nd rfl (Or.inl rfl) (pe_kget td rfl md (pe_fn F1 hr1 rfl (pa_cons (pv 0) pa_nil)) (fun _ _ => rfl))) (pss_one (ps_ret (pe_callV (pv 2) (pa_cons (pv 1) pa_nil)))), ?_⟩
  refine ⟨_, rfl, op, so, rfl, hs, so, ?_⟩
  rcases sort_in hs with e | e | e | e | e | e
  · subst e
    obtain ⟨g, gd, mg1, kp, bd, ok⟩ := A1
    cases (Option.some.inj (m1.symm.trans mg1))
    exact ⟨.ref f1, rfl, by rfl, f1, gd, _, _, 4, rfl, kp, ok, hr, bd, _, rfl, x, rfl, hx, q⟩
  · subst e
    obtain ⟨g, gd, mg1, kp, bd, ok⟩ := A2
    cases (Option.some.inj (m2.symm.trans mg1))
    exact ⟨.ref f2, rfl, by rfl, f2, gd, _, _, 2, rfl, kp, ok, hr.mono (by decide), bd, _, rfl, x, rfl, hx, q⟩
  · subst e
    obtain ⟨g, gd, mg1, kp, bd, ok⟩ := A3
    cases (Option.some.inj (m3.symm.trans mg1))
    exact ⟨.ref f3, rfl, by rfl, f3, gd, _, _, 3, rfl, kp, ok, hr.mono (by decide), bd, _, rfl, x, rfl, hx, q⟩
  · subst e
    obtain ⟨g, gd, mg1, kp, bd, ok⟩ := A4
    cases (Option.some.inj (m4.symm.trans mg1))
    exact ⟨.ref f4, rfl, by rfl, f4, gd, _, _, 3, rfl, kp, ok, hr.mono (by decide), bd, _, rfl, x, rfl, hx, q⟩
  · subst e
    obtain ⟨g, gd, mg1, kp, bd, ok⟩ := A5
    cases (Option.some.inj (m5.symm.trans mg1))
    exact ⟨.ref f5, rfl, by rfl, f5, gd, _, _, 3, rfl, kp, ok, hr.mono (by decide), bd, _, rfl, x, rfl, hx, q⟩
  · subst e
    obtain ⟨g, gd, mg1, kp, bd, ok⟩ := A6
    cases (Option.some.inj (m6.symm.trans mg1))
    exact ⟨.ref f6, rfl, by rfl, f6, gd, _, _, 1, rfl, kp, ok, hr.mono (by decide), bd, _, rfl, x, rfl, hx, q⟩
/-- is_row of None, and of a triple -/
def spRow : Sp := fun vs H Q _ => (vs = [.non] ∧ Q (.bl false) H) ∨ ∃ a op arg line, vs = [.ref a] ∧ H a = some (.tup [.str op, arg, line]) ∧ op.length ≤ sizeLine ∧ Scal arg ∧ Scal line ∧ Q (.bl (rowV op arg line)) H
theorem sc27 : FnScope ["thing", "op", "arg", "line"] ["thing"] (defScope (top 27)) := ⟨rfl, rfl, rfl, by decide +kernel, rfl, by decide +kernel, by decide +kernel⟩
theorem fn_row (D : HasDef K mg "is_row" (top 27)) (G : Glo mg) (F1 : FN P w K mg base 1 "is_op" ["thing"] (sp1 isOp)) (F2 : FN P w K mg base 5 "arg_fits" ["op", "arg"] spFits) (F3 : FN P w K mg base 2 "is_number_within" ["thing", "low", "high"] spWithin) :
    FN P w K mg base 6 "is_row" ["thing"] spRow := by
  refine FN.of D sc27 (fun _ _ _ _ _ _ us hl => match us, hl with | [_], _ => rfl) (fun vs H Q E h => by rcases h with ⟨rfl, _⟩ | ⟨a, op, arg, line, rfl, _⟩ <;> rfl) (fun f cdv A outer s H vs Q E hr h => ?_)
  refine ⟨_, pss_cons (ps_if (PW.pt (pw_or (pt_not (pt_val (pe_callB call_isinst rfl G.isinstance boot_isinstance (pa_cons (pv 0) (pa_cons (pe_ty "tuple" rfl G.tuple boot_tuple) pa_nil)))))
      (pw_or1 (pt_cmpR op_ne (pe_callB call_len_seq rfl G.len boot_len (pa_cons (pv 0) pa_nil)) pe_int (nomark _))))) (pss_one (ps_ret pe_bl)) pss_nil)
    (pss_cons (ps_asg (pv 0) (pg_tup rfl (pgs_cons (pg_name (i := 1) sc27.nd rfl (Or.inl rfl)) (pgs_cons (pg_name (i := 2) sc27.nd rfl (Or.inl rfl)) (pgs_cons (pg_name (i := 3) sc27.nd rfl (Or.inl rfl)) pgs_nil)))))
    (pss_one (ps_ret (pe_and (pe_fn F1 (hr.mono (by decide)) rfl (pa_cons (pv 1) pa_nil)) (pe_and (pe_fn F2 hr rfl (pa_cons (pv 1) (pa_cons (pv 2) pa_nil))) (pe_one (pe_fn F3 (hr.mono (by decide)) rfl (pa_cons (pv 3) (pa_cons pe_int (pa_cons (pe_const rfl G.line) pa_nil)))))))))), ?_⟩
  rcases h with ⟨rfl, q⟩ | ⟨a, op, arg, line, rfl, ha, hop, harg, hline, q⟩
  · obtain ⟨t1, ty1, k1⟩ := inst_tuple (K := K) (H := H) .non
    exact ⟨_, rfl, _, "tuple", t1, _, rfl, ty1, k1, _, rfl, iteT (iteT q)⟩
  · refine ⟨_, rfl, _, "tuple", _, true, rfl, .tup ha, rfl, _, rfl, iteF ?_⟩
    refine ⟨_, rfl, a, _, rfl, .inr (SqT.of ha), rfl, _, rfl, iteF ?_⟩
    refine ⟨_, rfl, a, _, rfl, SqT.of ha, rfl, _, _, rfl, _, _, rfl, _, _, rfl, rfl, ?_⟩
    refine ⟨_, rfl, _, rfl, .str op hop, _, rfl, ?_⟩
    have q' : Q (.bl ((sortOf op).isSome && argFits op arg && within line 0 9999)) H := q
    cases hs : sortOf op with
    | none =>
      have e : isOp (.str op) = false := by show (sortOf op).isSome = false; rw [hs]; rfl
      rw [e]
      rw [hs] at q'
      exact iteF q'
    | some so =>
      have e : isOp (.str op) = true := by show (sortOf op).isSome = true; rw [hs]; rfl
      have ea : argFits op arg = fitsV so arg := by unfold argFits; rw [hs]
      rw [e]
      rw [hs, ea] at q'
      refine iteT ⟨_, rfl, _, rfl, op, so, arg, rfl, hs, harg, _, rfl, ?_⟩
      refine ite2 (fun c => ?_) (fun c => ?_)
      · rw [c] at q'
        exact ⟨_, rfl, line, 0, 9999, rfl, hline, q'⟩
      · rw [Bool.eq_false_iff.mpr c] at q'
        exact q'
end
end My

set_option Elab.async false
set_option linter.all false
set_option maxRecDepth 100000
set_option maxHeartbeats 4000000
namespace My
open PySem PySem.Spec PyProof.Rows L2
structure Row where
  op : Str
  arg : V
  line : Int
def tupV (r : Row) : List V := [.str r.op, r.arg, .int r.line]
abbrev RowsIn (H : Hp) : List Addr → List Row → Prop := Paired fun a r => H a = some (.tup (tupV r))
def RowOk (r : Row) : Prop := rowV r.op r.arg (.int r.line) = true
theorem RowsIn.keep {H H' : Hp} : ∀ {as : List Addr} {rs : List Row}, RowsIn H as rs → (∀ a xs, H a = some (.tup xs) → H' a = some (.tup xs)) → RowsIn H' as rs
  | _, _, .nil, _ => .nil
  | _, _, .cons h t, k => .cons (k _ _ h) (RowsIn.keep t k)
theorem RowsIn.same {H H' : Hp} {as : List Addr} {rs : List Row} (h : RowsIn H as rs) (s : Same H H') : RowsIn H' as rs := h.keep fun _ _ e => s _ _ e
theorem RowsIn.get {H : Hp} : ∀ {as : List Addr} {rs : List Row} {i : Nat} {x : V}, RowsIn H as rs → (as.map V.ref)[i]? = some x → ∃ a r, x = .ref a ∧ rs[i]? = some r ∧ H a = some (.tup (tupV r))
  | _, _, _, _, .nil, e => by simp at e
  | _, _, 0, _, .cons h _, e => by
    simp at e
    subst e
    exact ⟨_, _, rfl, rfl, h⟩
  | _, _, i + 1, x, .cons _ t, e => by
    obtain ⟨a, r, h1, h2, h3⟩ := RowsIn.get (i := i) (x := x) t (by simpa using e)
    exact ⟨a, r, h1, by simpa using h2, h3⟩
theorem RowsIn.append {H : Hp} : ∀ {as bs : List Addr} {rs ts : List Row}, RowsIn H as rs → RowsIn H bs ts → RowsIn H (as ++ bs) (rs ++ ts)
  | _, _, _, _, .nil, s => s
  | _, _, _, _, .cons r t, s => .cons r (RowsIn.append t s)
theorem RowsIn.len {H : Hp} {as : List Addr} {rs : List Row} (h : RowsIn H as rs) : as.length = rs.length := Paired.length h
theorem same_new {H : Hp} {p : Addr} (h : H p = none) (o : HO) : Same H (upd H p o) := fun b u q => by rw [upd_ne (ne_of_none q h)]; exact q
theorem Same.upd {H H2 : Hp} {p : Addr} (s : Same H H2) (h : H p = none) (o : HO) : Same H (upd H2 p o) := fun b u q => by rw [upd_ne (ne_of_none q h)]; exact s b u q
/-! ### what a row that is let by looks like -/
theorem op_short {op s : Str} (h : sortOf op = some s) : op.length ≤ 7 := by
  have hm : (op, s) ∈ sortTab := PySem.mem_of_lookup h
  have all : ∀ p ∈ sortTab, p.1.length ≤ 7 := by decide +kernel
  exact all _ hm
theorem small7 {n : Nat} (h : n ≤ 1000) : n ≤ sizeLine := Nat.le_of_lt (small1000 h)
theorem letters_scal {x : V} {m : Int} (h : letters x m = true) (hm : m ≤ 100) : Scal x := by
  cases x with
  | str s =>
    have h : (decide ((1 : Int) ≤ (s.length : Int)) && decide ((s.length : Int) ≤ m) && Txt.isascii s && Txt.isalpha s) = true := h
    simp only [Bool.and_eq_true, decide_eq_true_eq] at h
    exact .str s (small7 (by omega))
  | _ => cases h
theorem within_scal {x : V} {lo hi : Int} (h : within x lo hi = true) : ∃ i, x = .int i ∧ lo ≤ i ∧ i ≤ hi := by
  cases x with
  | int i =>
    have h : (decide (lo ≤ i) && decide (i ≤ hi)) = true := h
    simp only [Bool.and_eq_true, decide_eq_true_eq] at h
    exact ⟨i, rfl, h.1, h.2⟩
  | _ => cases h
theorem fits_scal {s : Str} {x : V} (h : fitsV s x = true) : Scal x := by
  unfold fitsV at h
  split at h
  · unfold pushedV valueV at h
    simp only [Bool.or_eq_true, decide_eq_true_eq] at h
    rcases h with ((h | h) | h) | h
    · subst h; exact .non
    · cases x with
      | bl b => exact .bl b
      | _ => cases h
    · obtain ⟨i, rfl, _⟩ := within_scal h; exact .int i
    · exact letters_scal h (by decide)
  · split at h
    · unfold nameV at h
      simp only [Bool.and_eq_true] at h
      exact letters_scal h.1 (by decide)
    · split at h
      · obtain ⟨i, rfl, _⟩ := within_scal h; exact .int i
      · split at h
        · obtain ⟨i, rfl, _⟩ := within_scal h; exact .int i
        · split at h
          · obtain ⟨i, rfl, _⟩ := within_scal h; exact .int i
          · unfold noneV at h
            simp only [decide_eq_true_eq] at h
            subst h; exact .non
theorem RowOk.parts {r : Row} (h : RowOk r) : ∃ s, sortOf r.op = some s ∧ fitsV s r.arg = true ∧ 0 ≤ r.line ∧ r.line ≤ 9999 ∧ r.op.length ≤ sizeLine ∧ Scal r.arg := by
  unfold RowOk rowV at h
  simp only [Bool.and_eq_true] at h
  obtain ⟨⟨h1, h2⟩, h3⟩ := h
  obtain ⟨s, hs⟩ := Option.isSome_iff_exists.mp h1
  have h2' : fitsV s r.arg = true := by unfold argFits at h2; rw [hs] at h2; exact h2
  obtain ⟨i, e, l1, l2⟩ := within_scal h3
  cases e
  exact ⟨s, hs, h2', l1, l2, small7 (Nat.le_trans (op_short hs) (by decide)), fits_scal h2'⟩
theorem mark_arg {x : V} (h : fitsV "mark" x = true) : ∃ m : Int, x = .int m ∧ 0 ≤ m ∧ m ≤ 99 := by
  have e : fitsV "mark" x = markV x := by
    unfold fitsV
    rw [if_neg (by decide +kernel), if_neg (by decide +kernel), if_neg (by decide +kernel), if_neg (by decide +kernel), if_pos rfl]
  rw [e] at h
  exact within_scal h
/-! ### labels -/
def labP (m : Int) (r : Row) : Bool := decide (r.op = "label") && decide (r.arg = .int m)
def firstLab (rs : List Row) (m : Int) : Option Nat := rs.findIdx? (labP m)
def fitsAt (rs : List Row) (i : Nat) (r : Row) : Bool :=
  if r.op = "label" then (match r.arg with | .int m => decide (firstLab rs m = some i) | _ => false)
  else if sortOf r.op = some ("mark" : Str) then (match r.arg with | .int m => (firstLab rs m).isSome | _ => false) else true
def LabDict (kvs : List (Key × V)) (rs : List Row) : Prop := ∀ m : Int, valV kvs (Sum.inl m : Key) = Option.map (fun i : Nat => V.int (i : Int)) (firstLab rs m)
section
variable {P : Program} {w : World} {K : PySem.W.Frag} {mg : Str → Option Value} {base : Heap}
def spLabs (K : PySem.W.Frag) : Sp := fun vs H Q _ => ∃ l as rs, vs = [.ref l] ∧ SqL K H l (as.map V.ref) ∧ RowsIn H as rs ∧ (∀ r ∈ rs, RowOk r) ∧ rs.length ≤ 1000 ∧
  ∀ d kvs H', H d = none → Same H H' → H' d = some (.dK kvs) → LabDict kvs rs → Q (.ref d) H'
theorem sc28 : FnScope ["rows", "places", "place", "row"] ["rows"] (defScope (top 28)) := ⟨rfl, rfl, rfl, by decide +kernel, rfl, by decide +kernel, by decide +kernel⟩
theorem take_snoc {α : Type} {l : List α} {i : Nat} {x : α} (h : l[i]? = some x) : l.take (i + 1) = l.take i ++ [x] := by
  rw [List.take_add_one, h]
  rfl
theorem lab_step {rs : List Row} {i : Nat} {r : Row} (h : rs[i]? = some r) (m : Int) : firstLab (rs.take (i + 1)) m = (firstLab (rs.take i) m).or (if labP m r = true then some i else none) := by
  have hl : (rs.take i).length = i := by
    rw [List.length_take]
    have := (List.getElem?_eq_some_iff.mp h).1
    omega
  unfold firstLab
  rw [take_snoc h, List.findIdx?_append, hl]
  congr 1
  rw [List.findIdx?_cons]
  by_cases c : labP m r = true
  · rw [if_pos c, if_pos c]; simp
  · rw [if_neg c, if_neg c]; simp
theorem fn_labs (D : HasDef K mg "label_places" (top 28)) (G : Glo mg) (FR : FN P w K mg base 6 "is_row" ["thing"] spRow) : FN P w K mg base 7 "label_places" ["rows"] (spLabs K) := by
  refine FN.of D sc28 (fun _ _ _ _ _ _ us hl => match us, hl with | [_], _ => rfl) (fun vs H Q E h => by obtain ⟨l, as, rs, rfl, _⟩ := h; rfl) (fun f cdv A outer s H vs Q E hr h => ?_)
  obtain ⟨l, as, rs, rfl, hS, hR, hok, hlen, q⟩ := h
  refine ⟨_, pss_cons (ps_set (i := 1) sc28.nd rfl (Or.inl rfl) pe_dnewK)
    (pss_cons (ps_for PassesOwn.never rfl (pi_enum rfl G.enumerate (pa_cons (pv 0) pa_nil)) (pg_tup rfl (pgs_cons (pg_name (i := 2) sc28.nd rfl (Or.inl rfl)) (pgs_cons (pg_name (i := 3) sc28.nd rfl (Or.inl rfl)) pgs_nil)))
      (pss_one (ps_if (PW.pt (pw_and (pt_val (pe_fn FR hr rfl (pa_cons (pv 3) pa_nil))) (pw_and1 (pt_cmpR op_eq (pe_ix ix_tup (pv 3) pe_int (fun _ _ => rfl)) pe_str (nomark _)))))
        (pss_one (ps_expr (pe_setdef (pv 1) (pe_ix ix_tup (pv 3) pe_int (fun _ _ => rfl)) (pv 2) ⟨rfl, rfl, rfl, rfl⟩))) pss_nil)))
    (pss_one (ps_ret (pv 1)))), ?_⟩
  intro d hd
  have hll : as.length = rs.length := hR.len
  have hml : (as.map V.ref).length = rs.length := by rw [List.length_map]; exact hll
  refine ⟨_, rfl, l, rfl, ⟨_, (same_new hd _).seq hS⟩, for_enum (K := K) (a := l) (xs := as.map V.ref) (fun i σ H2 => ∃ kvs v2 v3, σ = [some (.ref l), some (.ref d), v2, v3] ∧ Same H H2 ∧ H2 d = some (.dK kvs) ∧ kvs.length ≤ i ∧ LabDict kvs (rs.take i))
    ⟨[], none, none, rfl, same_new hd _, upd_same, Nat.le_refl _, fun m => by rw [List.take_zero]; rfl⟩ (fun i σ H2 _ ⟨_, _, _, _, s2, _⟩ => s2.seq hS) ?_ ?_⟩
  · rintro i x σ H2 p hi ⟨kvs, v2, v3, rfl, s2, hD, hk, hL⟩ hp
    obtain ⟨a, r, rfl, hr1, ha⟩ := (hR.same s2).get hi
    have hil : i < rs.length := (List.getElem?_eq_some_iff.mp hr1).1
    have npd : d ≠ p := ne_of_none hD hp
    have nap : a ≠ p := ne_of_none ha hp
    have ha' : (upd H2 p (.tup [.int i, .ref a])) a = some (.tup (tupV r)) := by rw [upd_ne nap]; exact ha
    have s3 : Same H (upd H2 p (.tup [.int i, .ref a])) := fun b o e => by rw [upd_ne (ne_of_none (s2 b o e) hp)]; exact s2 b o e
    obtain ⟨so, hs, hfit, hl0, hl1, hop, hsc⟩ := (hok r (List.mem_of_getElem? hr1)).parts
    have hrow : rowV r.op r.arg (.int r.line) = true := hok r (List.mem_of_getElem? hr1)
    refine ⟨p, _, rfl, SqT.of upd_same, rfl, _, _, rfl, _, _, rfl, rfl, ?_⟩
    refine ⟨_, rfl, .inr ⟨a, r.op, r.arg, .int r.line, rfl, ha', hop, hsc, .int _, _, rfl, ?_⟩⟩
    rw [hrow]
    refine iteT ⟨_, rfl, a, _, _, _, rfl, rfl, SqT.of ha', atI_nat (j := 0) rfl, rfl, _, rfl, ?_⟩
    have hD' : (upd H2 p (.tup [.int i, .ref a])) d = some (.dK kvs) := by rw [upd_ne npd]; exact hD
    refine ite2 (fun c => ?_) (fun c => ?_)
    · have eop : r.op = "label" := by
        have := of_decide_eq_true c
        injection this
      have esort : so = "mark" := by
        rw [eop] at hs
        have : sortOf "label" = some "mark" := by decide +kernel
        rw [this] at hs
        exact (Option.some.inj hs).symm
      rw [esort] at hfit
      obtain ⟨m, em, _, _⟩ := mark_arg hfit
      refine ⟨_, rfl, d, rfl, .inl ⟨kvs, .inl hD'⟩, _, rfl, a, _, _, _, rfl, rfl, SqT.of ha', atI_nat (j := 1) rfl, _, rfl, kvs, Sum.inl m, hD', em, small1000 (by omega), ?_⟩
      have eP : labP m r = true := by unfold labP; rw [eop, em]; simp
      cases hv : valV kvs (Sum.inl m : Key) with
      | some v =>
        refine ⟨kvs, _, _, rfl, s3, hD', by omega, fun m' => ?_⟩
        rw [lab_step hr1 m', hL m']
        by_cases e : m' = m
        · subst e
          have := hL m'
          rw [hv] at this
          cases h1 : firstLab (rs.take i) m' with
          | none => rw [h1] at this; cases this
          | some j => rfl
        · have : labP m' r = false := by
            unfold labP
            rw [em]
            have : ¬ (V.int m = V.int m') := fun z => e (by injection z with z; exact z.symm)
            simp [this]
          rw [this]
          simp
      | none =>
        refine ⟨putK kvs (Sum.inl m) (.int i), _, _, rfl, fun b o e => ?_, upd_same, ?_, fun m' => ?_⟩
        · rw [upd_ne (ne_of_none e hd)]
          exact s3 b o e
        · have := length_putK kvs (Sum.inl m : Key) (V.int i)
          omega
        · rw [valV_put, lab_step hr1 m']
          by_cases e : m' = m
          · subst e
            have := hL m'
            rw [hv] at this
            rw [if_pos rfl, eP, if_pos rfl]
            cases h1 : firstLab (rs.take i) m' with
            | none => rfl
            | some j => rw [h1] at this; cases this
          · have : labP m' r = false := by
              unfold labP
              rw [em]
              have : ¬ (V.int m = V.int m') := fun z => e (by injection z with z; exact z.symm)
              simp [this]
            rw [this, if_neg (fun z => e (by injection z)), hL m']
            simp
    · refine ⟨kvs, _, _, rfl, s3, hD', by omega, fun m' => ?_⟩
      rw [lab_step hr1 m', hL m']
      have : labP m' r = false := by
        unfold labP
        have : ¬ (r.op = "label") := fun z => c (by rw [z]; rfl)
        simp [this]
      rw [this]
      simp
  · rintro σ H2 ⟨kvs, v2, v3, rfl, s2, hD, hk, hL⟩
    refine ⟨_, rfl, q d kvs H2 hd s2 hD ?_⟩
    rw [hml, List.take_length] at hL
    exact hL
end
end My

set_option Elab.async false
set_option linter.all false
set_option maxRecDepth 100000
set_option maxHeartbeats 4000000
namespace My
open PySem PySem.Spec PyProof.Rows L2
section
variable {P : Program} {w : World} {K : PySem.W.Frag} {mg : Str → Option Value} {base : Heap}
def spMark : Sp := fun vs H Q _ => ∃ a i d r kvs rs, vs = [.ref a, .int (i : Nat), .ref d] ∧ H a = some (.tup (tupV r)) ∧ RowOk r ∧ H d = some (.dK kvs) ∧ LabDict kvs rs ∧ (∀ m : Int, r.op = "label" → r.arg = .int m → (firstLab rs m).isSome = true) ∧ Q (.bl (fitsAt rs i r)) H
theorem sc29 : FnScope ["row", "place", "labels", "op", "mark"] ["row", "place", "labels"] (defScope (top 29)) := ⟨rfl, rfl, rfl, by decide +kernel, rfl, by decide +kernel, by decide +kernel⟩
theorem label_sort : sortOf "label" = some "mark" := by decide +kernel
theorem fn_mark_fits (D : HasDef K mg "mark_fits" (top 29)) (FS : FN P w K mg base 1 "arg_sort" ["op"] spSort) : FN P w K mg base 2 "mark_fits" ["row", "place", "labels"] spMark := by
  refine FN.of D sc29 (fun _ _ _ _ _ _ us hl => match us, hl with | [_, _, _], _ => rfl) (fun vs H Q E h => by obtain ⟨a, i, d, r, kvs, rs, rfl, _⟩ := h; rfl) (fun f cdv A outer s H vs Q E hr h => ?_)
  obtain ⟨a, i, d, r, kvs, rs, rfl, ha, hok, hd, hL, hlab, q⟩ := h
  have hu := hu_of hr
  obtain ⟨so, hs, hfit, hl0, hl1, hop, hsc⟩ := hok.parts
  refine ⟨_, pss_cons (ps_par (i := 3) (j := 4) rfl sc29.nd rfl rfl (by decide) rfl rfl (pa_cons (pe_ix ix_tup (pv 0) pe_int (fun _ _ => rfl)) (pa_cons (pe_ix ix_tup (pv 0) pe_int (fun _ _ => rfl)) pa_nil)) rfl)
    (pss_cons (ps_if (pt_cmpR op_eq (pv 3) pe_str (nomark _)) (pss_one (ps_ret (pe_cmpR op_eq (pe_dget hu (pv 2) (pv 4) (fun _ _ => rfl)) (pv 1) (nomark _)))) pss_nil)
    (pss_one (ps_ret (pe_or (pe_cmpR op_ne (pe_fn FS hr rfl (pa_cons (pv 3) pa_nil)) pe_str (nomark _)) (pe_one (pe_cmp (pc_din hu (pv 4) (pv 2)))))))), ?_⟩
  refine ⟨_, rfl, a, _, _, _, rfl, rfl, SqT.of ha, atI_nat (j := 0) rfl, _, rfl, a, _, _, _, rfl, rfl, SqT.of ha, atI_nat (j := 1) rfl, _, _, rfl, ?_⟩
  refine ⟨_, rfl, rfl, _, rfl, ?_⟩
  refine ite2 (fun c => ?_) (fun c => ?_)
  · have eop : r.op = "label" := by
      have := of_decide_eq_true c
      injection this
    have esort : so = "mark" := by
      rw [eop, label_sort] at hs
      exact (Option.some.inj hs).symm
    rw [esort] at hfit
    obtain ⟨m, em, _, _⟩ := mark_arg hfit
    obtain ⟨j, hj⟩ := Option.isSome_iff_exists.mp (hlab m eop em)
    have hv : valV kvs (Sum.inl m : Key) = some (.int (j : Int)) := by rw [hL m, hj]; rfl
    have hg : DGet H d r.arg (some (.int (j : Int))) := by rw [em, ← hv]; exact DGet.k (k := Sum.inl m) hd
    refine ⟨_, rfl, _, rfl, d, _, rfl, hg, _, rfl, rfl, ?_⟩
    have e : fitsAt rs i r = decide (V.int (j : Int) = V.int (i : Int)) := by
      unfold fitsAt
      rw [if_pos eop, em]
      show decide (firstLab rs m = some i) = _
      rw [hj]
      by_cases z : j = i
      · subst z; simp
      · rw [decide_eq_false (fun y => z (by injection y)), decide_eq_false (fun y => z (by injection y with y; omega))]
    rw [e] at q
    exact q
  · have eop : ¬ r.op = "label" := fun z => c (by rw [z]; rfl)
    refine ⟨_, rfl, r.op, so, rfl, hs, rfl, _, rfl, ?_⟩
    unfold fitsAt at q
    rw [if_neg eop, hs] at q
    by_cases e : so = "mark"
    · subst e
      rw [if_pos rfl] at q
      obtain ⟨m, em, _, _⟩ := mark_arg hfit
      have e1 : (!decide (V.str "mark" = V.str "mark")) = false := by decide +kernel
      rw [e1]
      refine iteF ⟨_, rfl, _, rfl, d, Option.map (fun i : Nat => V.int (i : Int)) (firstLab rs m), rfl, ?_, ?_⟩
      · have : DGet H d r.arg (Option.map (fun i : Nat => V.int (i : Int)) (firstLab rs m)) := by
          rw [em, ← hL m]
          exact DGet.k (k := Sum.inl m) hd
        exact this
      · rw [em] at q
        rw [Option.isSome_map]
        exact q
    · rw [if_neg (fun z => e (Option.some.inj z))] at q
      have e1 : (!decide (V.str so = V.str "mark")) = true := by
        rw [decide_eq_false (fun z => e (by injection z))]
        rfl
      rw [e1]
      exact iteT q
def spBad (K : PySem.W.Frag) : Sp := fun vs H Q _ => ∃ l as rs, vs = [.ref l] ∧ SqL K H l (as.map V.ref) ∧ RowsIn H as rs ∧ (∀ r ∈ rs, RowOk r) ∧ rs.length ≤ 1000 ∧
  (∀ H', Same H H' → (∀ i r, rs[i]? = some r → fitsAt rs i r = true) → Q .non H') ∧
  (∀ (i : Nat) r H', Same H H' → rs[i]? = some r → fitsAt rs i r = false → (∀ j r', j < i → rs[j]? = some r' → fitsAt rs j r' = true) → Q (.int i) H')
theorem sc30 : FnScope ["rows", "labels", "place", "row"] ["rows"] (defScope (top 30)) := ⟨rfl, rfl, rfl, by decide +kernel, rfl, by decide +kernel, by decide +kernel⟩
theorem firstLab_of {rs : List Row} {i : Nat} {r : Row} {m : Int} (h : rs[i]? = some r) (h1 : r.op = "label") (h2 : r.arg = .int m) : (firstLab rs m).isSome = true := by
  unfold firstLab
  rw [List.findIdx?_isSome, List.any_eq_true]
  exact ⟨r, List.mem_of_getElem? h, by unfold labP; rw [h1, h2]; simp⟩
theorem fn_bad (D : HasDef K mg "first_bad_place" (top 30)) (G : Glo mg) (FR : FN P w K mg base 6 "is_row" ["thing"] spRow) (FL : FN P w K mg base 7 "label_places" ["rows"] (spLabs K)) (FM : FN P w K mg base 2 "mark_fits" ["row", "place", "labels"] spMark) :
    FN P w K mg base 8 "first_bad_place" ["rows"] (spBad K) := by
  refine FN.of D sc30 (fun _ _ _ _ _ _ us hl => match us, hl with | [_], _ => rfl) (fun vs H Q E h => by obtain ⟨l, as, rs, rfl, _⟩ := h; rfl) (fun f cdv A outer s H vs Q E hr h => ?_)
  obtain ⟨l, as, rs, rfl, hS, hR, hok, hlen, q1, q2⟩ := h
  refine ⟨_, pss_cons (ps_set (i := 1) sc30.nd rfl (Or.inl rfl) (pe_fn FL hr rfl (pa_cons (pv 0) pa_nil)))
    (pss_cons (ps_for PassesOwn.never rfl (pi_enum rfl G.enumerate (pa_cons (pv 0) pa_nil)) (pg_tup rfl (pgs_cons (pg_name (i := 2) sc30.nd rfl (Or.inl rfl)) (pgs_cons (pg_name (i := 3) sc30.nd rfl (Or.inl rfl)) pgs_nil)))
      (pss_one (ps_if (PW.pt (pw_or (pt_not (pt_val (pe_fn FR (hr.mono (by decide)) rfl (pa_cons (pv 3) pa_nil)))) (pw_or1 (pt_not (pt_val (pe_fn FM (hr.mono (by decide)) rfl (pa_cons (pv 3) (pa_cons (pv 2) (pa_cons (pv 1) pa_nil)))))))))
        (pss_one (ps_ret (pv 2))) pss_nil)))
    (pss_one (ps_ret pe_non))), ?_⟩
  refine ⟨_, rfl, l, as, rs, rfl, hS, hR, hok, hlen, fun d kvs H1 hd0 s1 hD hL => ?_⟩
  have hll : as.length = rs.length := hR.len
  have hml : (as.map V.ref).length = rs.length := by rw [List.length_map]; exact hll
  refine ⟨_, rfl, l, rfl, ⟨_, s1.seq hS⟩, for_enum (K := K) (a := l) (xs := as.map V.ref) (fun i σ H2 => ∃ v2 v3, σ = [some (.ref l), some (.ref d), v2, v3] ∧ Same H1 H2 ∧ ∀ j r', j < i → rs[j]? = some r' → fitsAt rs j r' = true)
    ⟨none, none, rfl, Same.refl _, fun j _ hj => absurd hj (Nat.not_lt_zero _)⟩ (fun i σ H2 _ ⟨_, _, _, s2, _⟩ => s2.seq (s1.seq hS)) ?_ ?_⟩
  · rintro i x σ H2 p hi ⟨v2, v3, rfl, s2, hall⟩ hp
    obtain ⟨a, r, rfl, hr1, ha⟩ := ((hR.same s1).same s2).get hi
    have hD2 := s2 _ _ hD
    have npd : d ≠ p := ne_of_none hD2 hp
    have nap : a ≠ p := ne_of_none ha hp
    have ha' : (upd H2 p (.tup [.int i, .ref a])) a = some (.tup (tupV r)) := by rw [upd_ne nap]; exact ha
    have hD' : (upd H2 p (.tup [.int i, .ref a])) d = some (.dK kvs) := by rw [upd_ne npd]; exact hD2
    have s3 : Same H1 (upd H2 p (.tup [.int i, .ref a])) := fun b o e => by rw [upd_ne (ne_of_none (s2 b o e) hp)]; exact s2 b o e
    have hro := hok r (List.mem_of_getElem? hr1)
    obtain ⟨so, hs, hfit, hl0, hl1, hop, hsc⟩ := hro.parts
    refine ⟨p, _, rfl, SqT.of upd_same, rfl, _, _, rfl, _, _, rfl, rfl, ?_⟩
    refine ⟨_, rfl, .inr ⟨a, r.op, r.arg, .int r.line, rfl, ha', hop, hsc, .int _, _, rfl, ?_⟩⟩
    have hrow : rowV r.op r.arg (.int r.line) = true := hro
    rw [hrow]
    refine iteF ⟨_, rfl, _, rfl, _, rfl, a, i, d, r, kvs, rs, rfl, ha', hro, hD', hL, (fun m h1 h2 => firstLab_of hr1 h1 h2), _, rfl, ?_⟩
    cases hb : fitsAt rs i r with
    | true =>
      refine iteF ⟨_, _, rfl, s3, fun j r' hj hr' => ?_⟩
      by_cases e : j = i
      · subst e
        rw [hr1] at hr'
        cases hr'
        exact hb
      · exact hall j r' (by omega) hr'
    | false => exact iteT ⟨_, rfl, q2 i r _ (s1.trans s3) hr1 hb hall⟩
  · rintro σ H2 ⟨v2, v3, rfl, s2, hall⟩
    refine q1 H2 (s1.trans s2) fun i r hir => hall i r ?_ hir
    rw [hml]
    exact (List.getElem?_eq_some_iff.mp hir).1
def spHas : Sp := fun vs H Q _ => ∃ l xs, vs = [.ref l] ∧ H l = some (.lst xs) ∧ 1 ≤ xs.length ∧ xs.length ≤ 150 ∧ Q (.bl true) H
theorem sc31 : FnScope ["thing"] ["thing"] (defScope (top 31)) := ⟨rfl, rfl, rfl, by decide +kernel, rfl, by decide +kernel, by decide +kernel⟩
theorem fn_has (D : HasDef K mg "has_places" (top 31)) (G : Glo mg) : FN P w K mg base 1 "has_places" ["thing"] spHas := by
  refine FN.of D sc31 (fun _ _ _ _ _ _ us hl => match us, hl with | [_], _ => rfl) (fun vs H Q E h => by obtain ⟨l, xs, rfl, _⟩ := h; rfl) (fun f cdv A outer s H vs Q E hr h => ?_)
  obtain ⟨l, xs, rfl, hl, h1, h2, q⟩ := h
  refine ⟨_, pss_one (ps_ret (pe_and (pe_callB call_isinst rfl G.isinstance boot_isinstance (pa_cons (pv 0) (pa_cons (pe_ty "list" rfl G.list boot_list) pa_nil)))
    (pe_one (pe_chain op_le op_le pe_int (pe_callB call_len_seq rfl G.len boot_len (pa_cons (pv 0) pa_nil)) (pe_const rfl G.rows))))), ?_⟩
  refine ⟨_, rfl, _, "list", _, true, rfl, .lst hl, rfl, _, rfl, iteT ?_⟩
  refine ⟨_, rfl, l, _, rfl, .inl (SqL.of hl), _, _, rfl, rfl, _, rfl, ?_⟩
  have e1 : decide ((1 : Int) ≤ (xs.length : Int)) = true := decide_eq_true (by omega)
  have e2 : decide ((xs.length : Int) ≤ 150) = true := decide_eq_true (by omega)
  rw [e1]
  refine iteT ⟨_, _, rfl, rfl, ?_⟩
  show Q (.bl (decide ((xs.length : Int) ≤ 150))) H
  rw [e2]
  exact q
/-- a list of rows that is a code -/
structure Code (rs : List Row) : Prop where
  ok : ∀ r ∈ rs, RowOk r
  fit : ∀ i r, rs[i]? = some r → fitsAt rs i r = true
  lo : 1 ≤ rs.length
  hi : rs.length ≤ 150
def spCheck : Sp := fun vs H Q _ => ∃ l as rs, vs = [.ref l] ∧ H l = some (.lst (as.map V.ref)) ∧ RowsIn H as rs ∧ Code rs ∧ ∀ H', Same H H' → Q .non H'
theorem sc32 : FnScope ["thing", "place"] ["thing"] (defScope (top 32)) := ⟨rfl, rfl, rfl, by decide +kernel, rfl, by decide +kernel, by decide +kernel⟩
theorem fn_check (D : HasDef K mg "check_code" (top 32)) (FH : FN P w K mg base 1 "has_places" ["thing"] spHas) (FB : FN P w K mg base 8 "first_bad_place" ["rows"] (spBad K)) : FN P w K mg base 9 "check_code" ["thing"] spCheck := by
  refine FN.of D sc32 (fun _ _ _ _ _ _ us hl => match us, hl with | [_], _ => rfl) (fun vs H Q E h => by obtain ⟨l, as, rs, rfl, _⟩ := h; rfl) (fun f cdv A outer s H vs Q E hr h => ?_)
  obtain ⟨l, as, rs, rfl, hl, hR, hC, q⟩ := h
  refine ⟨_, pss_cons (ps_if (pt_not (pt_val (pe_fn FH (hr.mono (by decide)) rfl (pa_cons (pv 0) pa_nil)))) pss_never pss_nil)
    (pss_cons (ps_set (i := 1) sc32.nd rfl (Or.inl rfl) (pe_fn FB hr rfl (pa_cons (pv 0) pa_nil)))
    (pss_one (ps_if (pt_cmpR op_notN (pv 1) pe_non (nomark _)) pss_never pss_nil))), ?_⟩
  have hll : as.length = rs.length := hR.len
  refine ⟨_, rfl, l, _, rfl, hl, by rw [List.length_map, hll]; exact hC.lo, by rw [List.length_map, hll]; exact hC.hi, _, rfl, iteF ?_⟩
  refine ⟨_, rfl, l, as, rs, rfl, SqL.of hl, hR, hC.ok, Nat.le_trans hC.hi (by decide), fun H' s' _ => ?_, fun i r H' s' hi hf _ => ?_⟩
  · exact ⟨_, rfl, rfl, _, rfl, iteF (q H' s')⟩
  · rw [hC.fit i r hi] at hf
    cases hf
end
end My

set_option Elab.async false
set_option linter.all false
set_option maxRecDepth 100000
set_option maxHeartbeats 4000000
namespace My
open PySem PySem.Spec PyProof.Rows L2
abbrev num (i : Int) : Str := Str.ofString (toString i)
def argText : V → Str
  | .int i => num i
  | .str s => s
  | _ => "None"
def valText : V → Str
  | .non => "none"
  | .bl b => if b then "true" else "false"
  | .str s => Str.empty ++ "'" ++ s ++ "'"
  | .int i => num i
  | _ => Str.empty
def head (r : Row) : Str := Str.empty ++ num r.line ++ " " ++ r.op
def lineText (r : Row) : Str :=
  if sortOf r.op = some ("none" : Str) then head r else if sortOf r.op = some ("value" : Str) then head r ++ " " ++ valText r.arg else head r ++ " " ++ argText r.arg
theorem small_log {i : Int} (h : i.natAbs ≤ 10 ^ 18) : i.natAbs.log2 < 1920 := by
  by_cases z : i.natAbs = 0
  · rw [z]; decide
  · rw [Nat.log2_lt z]
    exact Nat.lt_of_le_of_lt h (by decide +kernel)
theorem num_len {i : Int} (h : i.natAbs ≤ 10 ^ 9) : (num i).length ≤ 11 := by
  have e := int_text_length_le10 (a := i) (k := 10) (by decide) (Nat.lt_of_le_of_lt h (by decide))
  show (Str.ofString (toString i)).length ≤ 11
  rw [PySem.ofString_length]
  omega
theorem len_sp : (Str.ofString " ").length = 1 := by decide +kernel
theorem len_em : Str.empty.length = 0 := by decide +kernel
theorem len_q : (Str.ofString "'").length = 1 := by decide +kernel
theorem len_sq : (Str.ofString " '").length = 2 := by decide +kernel
theorem len_lf : (Str.ofString "\n").length = 1 := by decide +kernel
theorem letters_len {x : V} {m : Int} (h : letters x m = true) : ∃ s, x = .str s ∧ 1 ≤ s.length ∧ (s.length : Int) ≤ m ∧ Txt.isascii s = true ∧ Txt.isalpha s = true := by
  cases x with
  | str s =>
    have h : (decide ((1 : Int) ≤ (s.length : Int)) && decide ((s.length : Int) ≤ m) && Txt.isascii s && Txt.isalpha s) = true := h
    simp only [Bool.and_eq_true, decide_eq_true_eq] at h
    exact ⟨s, rfl, by omega, h.1.1.2, h.1.2, h.2⟩
  | _ => cases h
/-- what an arg is, sort by sort -/
inductive Arg : Str → V → Prop where
  | non : Arg "value" .non
  | bl (b : Bool) : Arg "value" (.bl b)
  | int (i : Int) (h : i.natAbs ≤ 10 ^ 9) : Arg "value" (.int i)
  | kind (s : Str) (h1 : 1 ≤ s.length) (h8 : s.length ≤ 8) (ha : Txt.isascii s = true) (hl : Txt.isalpha s = true) : Arg "value" (.str s)
  | name (s : Str) (h1 : 1 ≤ s.length) (h4 : s.length ≤ 4) (ha : Txt.isascii s = true) (hl : Txt.isalpha s = true) (hw : Txt.islower s = true) : Arg "name" (.str s)
  | copied (i : Int) (h0 : 1 ≤ i) (h1 : i ≤ 9) : Arg "copied" (.int i)
  | swapped (i : Int) (h0 : 2 ≤ i) (h1 : i ≤ 9) : Arg "swapped" (.int i)
  | mark (i : Int) (h0 : 0 ≤ i) (h1 : i ≤ 99) : Arg "mark" (.int i)
  | bare : Arg "none" .non
theorem arg_of {op s : Str} {x : V} (hs : sortOf op = some s) (h : fitsV s x = true) : Arg s x := by
  rcases sort_in hs with e | e | e | e | e | e <;> subst e <;> unfold fitsV at h
  · rw [if_pos rfl] at h
    unfold pushedV valueV at h
    simp only [Bool.or_eq_true, decide_eq_true_eq] at h
    rcases h with ((h | h) | h) | h
    · subst h; exact .non
    · cases x with
      | bl b => exact .bl b
      | _ => cases h
    · obtain ⟨i, rfl, h0, h1⟩ := within_scal h
      exact .int i (by omega)
    · obtain ⟨s, rfl, h1, h2, h3, h4⟩ := letters_len h
      exact .kind s h1 (by omega) h3 h4
  · rw [if_neg (by decide +kernel), if_pos rfl] at h
    unfold nameV at h
    simp only [Bool.and_eq_true] at h
    obtain ⟨s, rfl, h1, h2, h3, h4⟩ := letters_len h.1
    exact .name s h1 (by omega) h3 h4 h.2
  · rw [if_neg (by decide +kernel), if_neg (by decide +kernel), if_pos rfl] at h
    obtain ⟨i, rfl, h0, h1⟩ := within_scal h
    exact .copied i h0 h1
  · rw [if_neg (by decide +kernel), if_neg (by decide +kernel), if_neg (by decide +kernel), if_pos rfl] at h
    obtain ⟨i, rfl, h0, h1⟩ := within_scal h
    exact .swapped i h0 h1
  · rw [if_neg (by decide +kernel), if_neg (by decide +kernel), if_neg (by decide +kernel), if_neg (by decide +kernel), if_pos rfl] at h
    obtain ⟨i, rfl, h0, h1⟩ := within_scal h
    exact .mark i h0 h1
  · rw [if_neg (by decide +kernel), if_neg (by decide +kernel), if_neg (by decide +kernel), if_neg (by decide +kernel), if_neg (by decide +kernel)] at h
    unfold noneV at h
    simp only [decide_eq_true_eq] at h
    subst h; exact .bare
theorem RowOk.arg {r : Row} (h : RowOk r) : ∃ s, sortOf r.op = some s ∧ Arg s r.arg ∧ 0 ≤ r.line ∧ r.line ≤ 9999 ∧ r.op.length ≤ 7 := by
  obtain ⟨s, hs, hf, h0, h1, _, _⟩ := h.parts
  exact ⟨s, hs, arg_of hs hf, h0, h1, op_short hs⟩
theorem valText_len {x : V} (h : Arg "value" x) : (valText x).length ≤ 11 := by
  cases h with
  | non => show (Str.ofString "none").length ≤ 11; decide +kernel
  | bl b => cases b <;> decide +kernel
  | int i h => exact num_len h
  | kind s h1 h8 => 
    show (Str.empty ++ "'" ++ s ++ "'").length ≤ 11
    simp only [Str.length_append, len_em, len_q]
    omega
theorem argText_len {s : Str} {x : V} (h : Arg s x) (h1 : s ≠ "value") (h2 : s ≠ "none") : (argText x).length ≤ 11 := by
  cases h with
  | non => exact absurd rfl h1
  | bl b => exact absurd rfl h1
  | int i h => exact absurd rfl h1
  | kind s _ _ _ _ => exact absurd rfl h1
  | bare => exact absurd rfl h2
  | name s h1 h4 => show s.length ≤ 11; omega
  | copied i h0 h1 => exact num_len (by omega)
  | swapped i h0 h1 => exact num_len (by omega)
  | mark i h0 h1 => exact num_len (by omega)
theorem lineText_len {r : Row} (h : RowOk r) : (lineText r).length ≤ 31 := by
  obtain ⟨s, hs, ha, h0, h1, h7⟩ := h.arg
  have hn : (num r.line).length ≤ 11 := num_len (by omega)
  have hh : (head r).length ≤ 19 := by unfold head; simp only [Str.length_append, len_em, len_sp]; omega
  unfold lineText
  rw [hs]
  by_cases e : s = "none"
  · rw [if_pos (by rw [e])]; omega
  · rw [if_neg fun z => e (Option.some.inj z)]
    by_cases e2 : s = "value"
    · subst e2
      rw [if_pos rfl]
      have := valText_len ha
      simp only [Str.length_append, len_sp]
      omega
    · rw [if_neg fun z => e2 (Option.some.inj z)]
      have := argText_len ha e2 e
      simp only [Str.length_append, len_sp]
      omega
section
variable {P : Program} {w : World} {K : PySem.W.Frag} {mg : Str → Option Value} {base : Heap}
def spVal : Sp := fun vs H Q _ => ∃ x, vs = [x] ∧ Arg "value" x ∧ Q (.str (valText x)) H
theorem sc36 : FnScope ["value"] ["value"] (defScope (top 36)) := ⟨rfl, rfl, rfl, by decide +kernel, rfl, by decide +kernel, by decide +kernel⟩
theorem fn_valtext (D : HasDef K mg "value_text" (top 36)) (G : Glo mg) : FN P w K mg base 1 "value_text" ["value"] spVal := by
  refine FN.of D sc36 (fun _ _ _ _ _ _ us hl => match us, hl with | [_], _ => rfl) (fun vs H Q E h => by obtain ⟨x, rfl, _⟩ := h; rfl) (fun f cdv A outer s H vs Q E hr h => ?_)
  obtain ⟨x, rfl, hx, q⟩ := h
  refine ⟨_, pss_cons (ps_if (pt_cmpR op_isN (pv 0) pe_non (nomark _)) (pss_one (ps_ret pe_str)) pss_nil)
    (pss_cons (ps_if (pt_cmpR op_isB (pv 0) pe_bl (nomark _)) (pss_one (ps_ret pe_str)) pss_nil)
    (pss_cons (ps_if (pt_cmpR op_isB (pv 0) pe_bl (nomark _)) (pss_one (ps_ret pe_str)) pss_nil)
    (pss_cons (ps_if (pt_val (pe_callB call_isinst rfl G.isinstance boot_isinstance (pa_cons (pv 0) (pa_cons (pe_ty "str" rfl G.str boot_str) pa_nil)))) (pss_one (ps_ret (pe_fstr (.cons pe_str (.cons (pe_fmt (pv 0)) (.cons pe_str .nil)))))) pss_nil)
    (pss_one (ps_ret (pe_callTy call_str_any rfl G.str boot_str (pa_cons (pv 0) pa_nil))))))), ?_⟩
  refine ⟨_, rfl, rfl, _, rfl, ?_⟩
  cases hx with
  | non => exact iteT q
  | bl b =>
    refine iteF ⟨_, rfl, _, rfl, _, rfl, ?_⟩
    cases b with
    | true => exact iteT q
    | false => exact iteF ⟨_, rfl, _, rfl, _, rfl, iteT q⟩
  | int i h =>
    refine iteF ⟨_, rfl, _, rfl, _, rfl, iteF ⟨_, rfl, _, rfl, _, rfl, iteF ?_⟩⟩
    refine ⟨_, rfl, _, "str", _, false, rfl, .int i, rfl, _, rfl, iteF ?_⟩
    exact ⟨_, rfl, _, _, rfl, .int i (small_log (by omega)), q⟩
  | kind z h1 h8 =>
    refine iteF ⟨_, rfl, _, rfl, _, rfl, iteF ⟨_, rfl, _, rfl, _, rfl, iteF ?_⟩⟩
    refine ⟨_, rfl, _, "str", _, true, rfl, .str z, rfl, _, rfl, iteT ?_⟩
    refine ⟨_, rfl, by apply small7; simp only [Str.length_append, len_em, len_q]; omega, _, rfl, _, .str z (small7 (by omega)), _, rfl, by apply small7; simp only [Str.length_append, len_em, len_q]; omega, _, rfl, by apply small7; simp only [Str.length_append, len_em, len_q]; omega, by apply small7; simp only [Str.length_append, len_em, len_q]; omega, q⟩
def spText : Sp := fun vs H Q _ => ∃ a r, vs = [.ref a] ∧ H a = some (.tup (tupV r)) ∧ RowOk r ∧ Q (.str (lineText r)) H
theorem sc37 : FnScope ["row", "op", "arg", "line", "sort"] ["row"] (defScope (top 37)) := ⟨rfl, rfl, rfl, by decide +kernel, rfl, by decide +kernel, by decide +kernel⟩
theorem fn_rowtext (D : HasDef K mg "row_text" (top 37)) (FS : FN P w K mg base 1 "arg_sort" ["op"] spSort) (FV : FN P w K mg base 1 "value_text" ["value"] spVal) : FN P w K mg base 2 "row_text" ["row"] spText := by
  refine FN.of D sc37 (fun _ _ _ _ _ _ us hl => match us, hl with | [_], _ => rfl) (fun vs H Q E h => by obtain ⟨a, r, rfl, _⟩ := h; rfl) (fun f cdv A outer s H vs Q E hr h => ?_)
  obtain ⟨a, r, rfl, ha, hok, q⟩ := h
  obtain ⟨so, hs, hA, h0, h1, h7⟩ := hok.arg
  refine ⟨_, pss_cons (ps_asg (pv 0) (pg_tup rfl (pgs_cons (pg_name (i := 1) sc37.nd rfl (Or.inl rfl)) (pgs_cons (pg_name (i := 2) sc37.nd rfl (Or.inl rfl)) (pgs_cons (pg_name (i := 3) sc37.nd rfl (Or.inl rfl)) pgs_nil)))))
    (pss_cons (ps_set (i := 4) sc37.nd rfl (Or.inl rfl) (pe_fn FS hr rfl (pa_cons (pv 1) pa_nil)))
    (pss_cons (ps_if (pt_cmpR op_eq (pv 4) pe_str (nomark _)) (pss_one (ps_ret (pe_fstr (.cons (pe_fmt (pv 3)) (.cons pe_str (.cons (pe_fmt (pv 1)) .nil)))))) pss_nil)
    (pss_cons (ps_if (pt_cmpR op_eq (pv 4) pe_str (nomark _)) (pss_one (ps_ret (pe_fstr (.cons (pe_fmt (pv 3)) (.cons pe_str (.cons (pe_fmt (pv 1)) (.cons pe_str (.cons (pe_fmt (pe_fn FV hr rfl (pa_cons (pv 2) pa_nil))) .nil)))))))) pss_nil)
    (pss_one (ps_ret (pe_fstr (.cons (pe_fmt (pv 3)) (.cons pe_str (.cons (pe_fmt (pv 1)) (.cons pe_str (.cons (pe_fmt (pv 2)) .nil))))))))))), ?_⟩
  have hn : (Str.ofString (toString r.line)).length ≤ 11 := num_len (by omega)
  have hlog : r.line.natAbs.log2 < 1920 := small_log (by omega)
  refine ⟨_, rfl, a, _, rfl, SqT.of ha, rfl, _, _, rfl, _, _, rfl, _, _, rfl, rfl, ?_⟩
  refine ⟨_, rfl, r.op, so, rfl, hs, ?_⟩
  refine ⟨_, rfl, rfl, _, rfl, ?_⟩
  unfold lineText at q
  rw [hs] at q
  have hsz : r.op.length ≤ sizeLine := small7 (by omega)
  refine ite2 (fun c => ?_) (fun c => ?_)
  · have e : so = "none" := by
      have := of_decide_eq_true c
      injection this
    rw [if_pos (by rw [e])] at q
    exact ⟨_, rfl, _, .int _ hlog, _, rfl, by apply small7; simp only [Str.length_append, len_em]; omega, _, rfl, by apply small7; simp only [Str.length_append, len_em, len_sp]; omega,
      _, rfl, _, .str _ hsz, _, rfl, by apply small7; simp only [Str.length_append, len_em, len_sp]; omega, by apply small7; simp only [Str.length_append, len_em, len_sp]; omega, q⟩
  · have e : so ≠ "none" := fun z => c (by rw [z]; rfl)
    rw [if_neg fun z => e (Option.some.inj z)] at q
    refine ⟨_, rfl, rfl, _, rfl, ?_⟩
    refine ite2 (fun c => ?_) (fun c => ?_)
    · have e2 : so = "value" := by
        have := of_decide_eq_true c
        injection this
      subst e2
      rw [if_pos rfl] at q
      have hv := valText_len hA
      refine ⟨_, rfl, _, .int _ hlog, _, rfl, by apply small7; simp only [Str.length_append, len_em]; omega, _, rfl, by apply small7; simp only [Str.length_append, len_em, len_sp]; omega,
        _, rfl, _, .str _ hsz, _, rfl, by apply small7; simp only [Str.length_append, len_em, len_sp]; omega, _, rfl, by apply small7; simp only [Str.length_append, len_em, len_sp]; omega, ?_⟩
      exact ⟨_, rfl, r.arg, rfl, hA, _, .str _ (small7 (by omega)), _, rfl, by apply small7; simp only [Str.length_append, len_em, len_sp]; omega, by apply small7; simp only [Str.length_append, len_em, len_sp]; omega, q⟩
    · have e2 : so ≠ "value" := fun z => c (by rw [z]; rfl)
      rw [if_neg fun z => e2 (Option.some.inj z)] at q
      have hv := argText_len hA e2 e
      have hf : FmtR r.arg (argText r.arg) := by
        generalize r.arg = x at *
        cases hA with
        | non => exact absurd rfl e2
        | bl b => exact absurd rfl e2
        | int i h => exact absurd rfl e2
        | kind s _ _ _ _ => exact absurd rfl e2
        | bare => exact absurd rfl e
        | name z h1 h4 => exact .str z (small7 (by omega))
        | copied i h0 h1 => exact .int i (small_log (by omega))
        | swapped i h0 h1 => exact .int i (small_log (by omega))
        | mark i h0 h1 => exact .int i (small_log (by omega))
      exact ⟨_, rfl, _, .int _ hlog, _, rfl, by apply small7; simp only [Str.length_append, len_em]; omega, _, rfl, by apply small7; simp only [Str.length_append, len_em, len_sp]; omega,
        _, rfl, _, .str _ hsz, _, rfl, by apply small7; simp only [Str.length_append, len_em, len_sp]; omega, _, rfl, by apply small7; simp only [Str.length_append, len_em, len_sp]; omega,
        _, rfl, _, hf, _, rfl, by apply small7; simp only [Str.length_append, len_em, len_sp]; omega, by apply small7; simp only [Str.length_append, len_em, len_sp]; omega, q⟩
end
end My

set_option Elab.async false
set_option linter.all false
set_option maxRecDepth 100000
set_option maxHeartbeats 4000000
namespace My
open PySem PySem.Spec PyProof.Rows L2
def fed (r : Row) : Str := lineText r ++ "\n"
def codeText (rs : List Row) : Str := Txt.join "" (rs.map fed)
theorem fed_len {r : Row} (h : RowOk r) : (fed r).length ≤ 32 := by
  have := lineText_len h
  unfold fed
  rw [Str.length_append, len_lf]
  omega
theorem sum_le {α : Type} (f : α → Nat) (m : Nat) : ∀ l : List α, (∀ x ∈ l, f x ≤ m) → (l.map f).sum ≤ m * l.length
  | [], _ => by simp
  | x :: r, h => by
    have h1 := h x (List.mem_cons_self ..)
    have h2 := sum_le f m r fun y hy => h y (List.mem_cons_of_mem _ hy)
    rw [List.map_cons, List.sum_cons, List.length_cons, Nat.mul_add]
    omega
section
variable {P : Program} {w : World} {K : PySem.W.Frag} {mg : Str → Option Value} {base : Heap}
def spCode : Sp := fun vs H Q _ => ∃ l as rs, vs = [.ref l] ∧ H l = some (.lst (as.map V.ref)) ∧ RowsIn H as rs ∧ Code rs ∧ ∀ H', Same H H' → Q (.str (codeText rs)) H'
theorem sc38 : FnScope ["code"] ["code"] (defScope (top 38)) := ⟨rfl, rfl, rfl, by decide +kernel, rfl, by decide +kernel, by decide +kernel⟩
theorem feds_bound {rs : List Row} (h : ∀ r ∈ rs, RowOk r) (hl : rs.length ≤ 150) : ((rs.map fed).map (·.length)).sum + (rs.map fed).length * (Str.ofString "").length ≤ 16777216 := by
  have e : (Str.ofString "").length = 0 := by decide +kernel
  rw [e, List.map_map]
  have := sum_le ((fun x : Str => x.length) ∘ fed) 32 rs fun r hr => fed_len (h r hr)
  omega
theorem fn_code (D : HasDef K mg "code_text" (top 38)) (FC : FN P w K mg base 9 "check_code" ["thing"] spCheck) (FT : FN P w K mg base 2 "row_text" ["row"] spText) : FN P w K mg base 10 "code_text" ["code"] spCode := by
  refine FN.of D sc38 (fun _ _ _ _ _ _ us hl => match us, hl with | [_], _ => rfl) (fun vs H Q E h => by obtain ⟨l, as, rs, rfl, _⟩ := h; rfl) (fun f cdv A outer s H vs Q E hr h => ?_)
  obtain ⟨l, as, rs, rfl, hl, hR, hC, q⟩ := h
  refine ⟨_, pss_cons (ps_expr (pe_fn FC hr rfl (pa_cons (pv 0) pa_nil)))
    (pss_one (ps_ret (pe_bm F.plainAttrs_str F.slot_str_join F.type_str_join mt_join pe_str (pa_cons (pe_comp rfl ⟨by decide +kernel, by decide +kernel, rfl, by decide +kernel, rfl⟩ (pi_list (pv 0))
      (fun _ _ _ _ => pe_op op_add_str (pe_fn FT (hr.mono (by decide)) rfl (pa_cons (pv 0) pa_nil)) pe_str)) pa_nil)))), ?_⟩
  refine ⟨_, rfl, l, as, rs, rfl, hl, hR, hC, fun H1 s1 => ?_⟩
  have hll : as.length = rs.length := hR.len
  have hml : (as.map V.ref).length = rs.length := by rw [List.length_map]; exact hll
  have hS : SqL K H1 l (as.map V.ref) := SqL.of (s1 _ _ hl)
  refine ⟨rfl, _, rfl, l, rfl, ⟨_, hS⟩, fun p hp => comp_list (K := K) (a := l) (xs := as.map V.ref) (fun i ys H2 => ys = (rs.take i).map (fun r => V.str (fed r)) ∧ Same H1 H2 ∧ H2 p = some (.lst ys))
    ⟨rfl, same_new hp _, upd_same⟩ (fun i ys H2 _ ⟨_, s2, _⟩ => s2.seq hS) ?_ ?_⟩
  · rintro i x ys H2 hi ⟨rfl, s2, hp2⟩
    obtain ⟨a, r, rfl, hr1, ha⟩ := ((hR.same s1).same s2).get hi
    have hil : i < rs.length := (List.getElem?_eq_some_iff.mp hr1).1
    have hro := hC.ok r (List.mem_of_getElem? hr1)
    have hlen := lineText_len hro
    refine ⟨_, rfl, a, r, rfl, ha, hro, _, _, rfl, rfl, small7 (by rw [len_lf]; omega), hp2, ?_, _, by omega, rfl, by omega, ?_, ?_, upd_same⟩
    · rw [List.length_map, List.length_take]
      have := hC.hi
      exact small1000 (by omega)
    · rw [take_snoc hr1, List.map_append]
      rfl
    · exact My.Same.upd s2 hp _
  · rintro ys H2 ⟨rfl, s2, hp2⟩
    rw [hml, List.take_length] at hp2
    refine ⟨"", p, rs.map fed, rfl, rfl, SqL.of (by rw [List.map_map]; exact hp2), feds_bound hC.ok hC.hi, q H2 (s1.trans s2)⟩
/-- the law's own way to write a row -/
theorem sc61 : FnScope ["_law_row", "_law_op", "_law_arg", "_law_line_here", "_law_found"] ["_law_row"] (defScope (top 61)) := ⟨rfl, rfl, rfl, by decide +kernel, rfl, by decide +kernel, by decide +kernel⟩
theorem low_none : Txt.lower "None" = "none" := by decide +kernel
theorem low_if_true : Txt.lower (if true = true then Str.ofString "True" else Str.ofString "False") = Str.ofString "true" := by decide +kernel
theorem low_if_false : Txt.lower (if false = true then Str.ofString "True" else Str.ofString "False") = Str.ofString "false" := by decide +kernel
theorem push_only {op : Str} (h : sortOf op = some ("value" : Str)) : op = "push" := by
  have hm : (op, ("value" : Str)) ∈ sortTab := PySem.mem_of_lookup h
  have all : ∀ p ∈ sortTab, p.2 = "value" → p.1 = "push" := by decide +kernel
  exact all _ hm rfl
theorem push_sort : sortOf "push" = some ("value" : Str) := by decide +kernel
theorem fn_lawline (D : HasDef K mg "_law_line" (top 61)) (G : Glo mg) : FN P w K mg base 1 "_law_line" ["_law_row"] spText := by
  refine FN.of D sc61 (fun _ _ _ _ _ _ us hl => match us, hl with | [_], _ => rfl) (fun vs H Q E h => by obtain ⟨a, r, rfl, _⟩ := h; rfl) (fun f cdv A outer s H vs Q E hr h => ?_)
  obtain ⟨a, r, rfl, ha, hok, q⟩ := h
  obtain ⟨so, hs, hA, h0, h1, h7⟩ := hok.arg
  refine ⟨_, pss_cons (ps_asg (pv 0) (pg_tup rfl (pgs_cons (pg_name (i := 1) sc61.nd rfl (Or.inl rfl)) (pgs_cons (pg_name (i := 2) sc61.nd rfl (Or.inl rfl)) (pgs_cons (pg_name (i := 3) sc61.nd rfl (Or.inl rfl)) pgs_nil)))))
    (pss_cons (ps_set (i := 4) sc61.nd rfl (Or.inl rfl) (pe_op op_add_str (pe_op op_add_str (pe_callTy call_str_any rfl G.str boot_str (pa_cons (pv 3) pa_nil)) pe_str) (pv 1)))
    (pss_cons (ps_if (pt_cmpR op_eq (pv 1) pe_str (nomark _))
      (pss_cons (ps_if (PW.pt (pw_or (pt_cmpR op_isN (pv 2) pe_non (nomark _)) (pw_or (pt_cmpR op_isB (pv 2) pe_bl (nomark _)) (pw_or1 (pt_cmpR op_isB (pv 2) pe_bl (nomark _))))))
          (pss_one (ps_ret (pe_op op_add_str (pe_op op_add_str (pv 4) pe_str) (pe_bm0 F.plainAttrs_str F.slot_str_lower F.type_str_lower mt_lower (pe_callTy call_str_any rfl G.str boot_str (pa_cons (pv 2) pa_nil)))))) pss_nil)
        (pss_one (ps_ret (pe_op op_add_str (pv 4) (pe_ifExp (pt_val (pe_callB call_isinst rfl G.isinstance boot_isinstance (pa_cons (pv 2) (pa_cons (pe_ty "str" rfl G.str boot_str) pa_nil))))
          (pe_op op_add_str (pe_op op_add_str pe_str (pv 2)) pe_str) (pe_op op_add_str pe_str (pe_callTy call_str_any rfl G.str boot_str (pa_cons (pv 2) pa_nil)))))))) pss_nil)
    (pss_one (ps_ret (pe_ifExp (pt_cmpR op_isN (pv 2) pe_non (nomark _)) (pv 4) (pe_op op_add_str (pe_op op_add_str (pv 4) pe_str) (pe_callTy call_str_any rfl G.str boot_str (pa_cons (pv 2) pa_nil)))))))), ?_⟩
  have hn : (Str.ofString (toString r.line)).length ≤ 11 := num_len (by omega)
  have hlog : r.line.natAbs.log2 < 1920 := small_log (by omega)
  have eh : head r = (Str.ofString (toString r.line)) ++ " " ++ r.op := by unfold head; rw [Str.empty_append]
  have hh : (Str.ofString (toString r.line) ++ " " ++ r.op).length ≤ 19 := by simp only [Str.length_append, len_sp]; omega
  refine ⟨_, rfl, a, _, rfl, SqT.of ha, rfl, _, _, rfl, _, _, rfl, _, _, rfl, rfl, ?_⟩
  refine ⟨_, rfl, _, _, rfl, .int _ hlog, _, _, rfl, rfl, small7 (by rw [len_sp]; omega), _, rfl, _, _, rfl, rfl, small7 (by simp only [Str.length_append, len_sp]; omega), ?_⟩
  refine ⟨_, rfl, rfl, _, rfl, ?_⟩
  unfold lineText at q
  rw [hs, eh] at q
  generalize hF : Str.ofString (toString r.line) ++ Str.ofString " " ++ r.op = F at *
  refine ite2 (fun c => ?_) (fun c => ?_)
  · have eop : r.op = "push" := by
      have := of_decide_eq_true c
      injection this
    have e2 : so = "value" := by
      rw [eop, push_sort] at hs
      exact (Option.some.inj hs).symm
    subst e2
    rw [if_neg (by decide +kernel), if_pos rfl] at q
    refine ⟨_, rfl, rfl, _, rfl, ?_⟩
    revert q
    generalize hx : r.arg = x at *
    intro q
    cases hA with
    | non =>
      refine iteT (iteT ?_)
      refine ⟨_, rfl, _, _, rfl, rfl, small7 (by rw [len_sp]; omega), _, rfl, _, _, rfl, .non, rfl, _, rfl, rfl, ?_, _, _, rfl, rfl, ?_, ?_⟩
      · rw [low_none]; decide +kernel
      · rw [low_none]; apply small7; simp only [Str.length_append, len_sp]; have : (Str.ofString "none").length = 4 := by decide +kernel
        omega
      · rw [low_none]; exact q
    | bl b =>
      refine iteF ⟨_, rfl, _, rfl, _, rfl, ?_⟩
      cases b with
      | true =>
        refine iteT (iteT ?_)
        refine ⟨_, rfl, _, _, rfl, rfl, small7 (by rw [len_sp]; omega), _, rfl, _, _, rfl, .bl true, rfl, _, rfl, rfl, ?_, _, _, rfl, rfl, ?_, ?_⟩
        · rw [low_if_true]; decide +kernel
        · rw [low_if_true]; apply small7; simp only [Str.length_append, len_sp]; have : (Str.ofString "true").length = 4 := by decide +kernel
          omega
        · rw [low_if_true]; exact q
      | false =>
        refine iteF ⟨_, rfl, _, rfl, _, rfl, iteT ?_⟩
        refine ⟨_, rfl, _, _, rfl, rfl, small7 (by rw [len_sp]; omega), _, rfl, _, _, rfl, .bl false, rfl, _, rfl, rfl, ?_, _, _, rfl, rfl, ?_, ?_⟩
        · rw [low_if_false]; decide +kernel
        · rw [low_if_false]; apply small7; simp only [Str.length_append, len_sp]; have : (Str.ofString "false").length = 5 := by decide +kernel
          omega
        · rw [low_if_false]; exact q
    | int i h =>
      have hi : (Str.ofString (toString i)).length ≤ 11 := num_len h
      refine iteF ⟨_, rfl, _, rfl, _, rfl, iteF ⟨_, rfl, _, rfl, _, rfl, iteF ?_⟩⟩
      refine ⟨_, rfl, _, rfl, _, "str", _, false, rfl, .int i, rfl, _, rfl, iteF ?_⟩
      refine ⟨_, rfl, _, _, rfl, .int i (small_log (by omega)), _, _, rfl, rfl, small7 (by rw [len_sp]; omega), _, _, rfl, rfl, small7 (by rw [Str.length_append, len_sp]; omega), ?_⟩
      rw [← Str.append_assoc]
      exact q
    | kind z h1 h8 =>
      refine iteF ⟨_, rfl, _, rfl, _, rfl, iteF ⟨_, rfl, _, rfl, _, rfl, iteF ?_⟩⟩
      refine ⟨_, rfl, _, rfl, _, "str", _, true, rfl, .str z, rfl, _, rfl, iteT ?_⟩
      refine ⟨_, rfl, _, _, rfl, rfl, small7 (by rw [len_sq]; omega), _, _, rfl, rfl, small7 (by rw [Str.length_append, len_sq, len_q]; omega), _, _, rfl, rfl, small7 (by simp only [Str.length_append, len_sq, len_q]; omega), ?_⟩
      have e : (Str.ofString " '") = Str.ofString " " ++ Str.ofString "'" := by decide +kernel
      have q' : Q (.str (F ++ " " ++ (Str.empty ++ "'" ++ z ++ "'"))) H := q
      rw [Str.empty_append] at q'
      rw [e]
      simp only [Str.append_assoc] at q' ⊢
      exact q'
  · have eop : r.op ≠ "push" := fun z => c (by rw [z]; rfl)
    have e2 : so ≠ "value" := fun z => eop (push_only (by rw [hs, z]))
    refine ⟨_, rfl, rfl, _, rfl, ?_⟩
    by_cases e : so = "none"
    · subst e
      rw [if_pos rfl] at q
      revert q
      generalize hx : r.arg = x at *
      intro q
      cases hA
      exact iteT ⟨_, rfl, q⟩
    · rw [if_neg fun z => e (Option.some.inj z), if_neg fun z => e2 (Option.some.inj z)] at q
      have hv := argText_len hA e2 e
      have hf : FmtR r.arg (argText r.arg) ∧ r.arg ≠ .non := by
        generalize r.arg = x at *
        cases hA with
        | non => exact absurd rfl e2
        | bl b => exact absurd rfl e2
        | int i h => exact absurd rfl e2
        | kind s _ _ _ _ => exact absurd rfl e2
        | bare => exact absurd rfl e
        | name z h1 h4 => exact ⟨.str z (small7 (by omega)), nofun⟩
        | copied i h0 h1 => exact ⟨.int i (small_log (by omega)), nofun⟩
        | swapped i h0 h1 => exact ⟨.int i (small_log (by omega)), nofun⟩
        | mark i h0 h1 => exact ⟨.int i (small_log (by omega)), nofun⟩
      rw [decide_eq_false hf.2]
      refine iteF ?_
      exact ⟨_, rfl, _, _, rfl, rfl, small7 (by rw [len_sp]; omega), _, rfl, _, _, rfl, hf.1, _, _, rfl, rfl, small7 (by rw [Str.length_append, len_sp]; omega), q⟩
end
end My

set_option Elab.async false
set_option linter.all false
set_option maxRecDepth 100000
set_option maxHeartbeats 4000000
namespace My
open PySem PySem.Spec PyProof.Rows L2
/-! ### texts cut at a sign -/
theorem cut_one {c : Nat} : ∀ {p q a b : List Nat}, c ∉ p → c ∉ q → p ++ c :: a = q ++ c :: b → p = q ∧ a = b
  | [], [], a, b, _, _, h => by
    simp at h
    exact ⟨rfl, h⟩
  | [], y :: q, a, b, _, hq, h => by
    simp at h
    exact absurd (by rw [h.1]; exact List.mem_cons_self ..) hq
  | x :: p, [], a, b, hp, _, h => by
    simp at h
    exact absurd (by rw [← h.1]; exact List.mem_cons_self ..) hp
  | x :: p, y :: q, a, b, hp, hq, h => by
    simp only [List.cons_append, List.cons.injEq] at h
    obtain ⟨e1, e2⟩ := cut_one (fun m => hp (List.mem_cons_of_mem _ m)) (fun m => hq (List.mem_cons_of_mem _ m)) h.2
    exact ⟨by rw [h.1, e1], e2⟩
theorem str_ext {a b : Str} (h : a.cps.toList = b.cps.toList) : a = b := Str.ext' (Array.toList_inj.mp h)
theorem join_cps (c : Nat) (x y : Str) (r : List Str) : (Str.join ⟨#[c]⟩ (x :: y :: r)).cps.toList = x.cps.toList ++ c :: (Str.join ⟨#[c]⟩ (y :: r)).cps.toList := by
  show ((x ++ ⟨#[c]⟩ ++ Str.join ⟨#[c]⟩ (y :: r)) : Str).cps.toList = _
  rw [Str.cps_append, Str.cps_append]
  simp
theorem join_uniq {c : Nat} : ∀ (ps qs : List Str), (∀ p ∈ ps, c ∉ p.cps.toList) → (∀ p ∈ qs, c ∉ p.cps.toList) → ps ≠ [] → qs ≠ [] → Str.join ⟨#[c]⟩ ps = Str.join ⟨#[c]⟩ qs → ps = qs
  | [], _, _, _, h, _, _ => absurd rfl h
  | _ :: _, [], _, _, _, h, _ => absurd rfl h
  | [p], [q], _, _, _, _, h => by rw [show p = q from h]
  | [p], q :: q' :: r, hp, _, _, _, h => by
    have e := congrArg (fun z : Str => z.cps.toList) h
    rw [join_cps c q q' r] at e
    have : c ∈ p.cps.toList := by rw [show p.cps.toList = _ from e]; simp
    exact absurd this (hp p (List.mem_cons_self ..))
  | p :: p' :: r, [q], _, hq, _, _, h => by
    have e := congrArg (fun z : Str => z.cps.toList) h.symm
    rw [join_cps c p p' r] at e
    have : c ∈ q.cps.toList := by rw [show q.cps.toList = _ from e]; simp
    exact absurd this (hq q (List.mem_cons_self ..))
  | p :: p' :: r, q :: q' :: t, hp, hq, _, _, h => by
    have e := congrArg (fun z : Str => z.cps.toList) h
    rw [join_cps c p p' r, join_cps c q q' t] at e
    obtain ⟨e1, e2⟩ := cut_one (hp p (List.mem_cons_self ..)) (hq q (List.mem_cons_self ..)) e
    have ih := join_uniq (p' :: r) (q' :: t) (fun z hz => hp z (List.mem_cons_of_mem _ hz)) (fun z hz => hq z (List.mem_cons_of_mem _ hz)) (by simp) (by simp) (str_ext e2)
    rw [ih, str_ext e1]
theorem split_join {c : Nat} {ps : List Str} (h : ∀ p ∈ ps, c ∉ p.cps.toList) (hne : ps ≠ []) : Txt.split (Str.join ⟨#[c]⟩ ps) ⟨#[c]⟩ = ps := by
  refine join_uniq _ _ (StrLaws.split_free _ c) h ?_ hne (StrLaws.join_split _ _)
  intro e
  have := split_pos (Str.join ⟨#[c]⟩ ps) ⟨#[c]⟩
  rw [e] at this
  exact absurd this (by decide)
theorem sp_is : Str.ofString " " = ⟨#[32]⟩ := by decide +kernel
theorem lf_is : Str.ofString "\n" = ⟨#[10]⟩ := by decide +kernel
theorem q_is : Str.ofString "'" = ⟨#[39]⟩ := by decide +kernel
theorem mi_is : Str.ofString "-" = ⟨#[45]⟩ := by decide +kernel
/-! ### numbers -/
theorem nat_digits (m : Nat) : ∀ c ∈ (num (m : Int)).cps.toList, 48 ≤ c ∧ c ≤ 57 := by
  intro c hc
  rw [show (num (m : Int)).cps.toList = _ from PySem.W.KIN.signs_num m] at hc
  obtain ⟨ch, hch, e⟩ := List.mem_map.mp hc
  rw [← e]
  exact digit_range (Nat.isDigit_of_mem_toDigits (by decide) (by decide) hch)
theorem nat_ne (m : Nat) : (num (m : Int)).cps.toList ≠ [] := by
  rw [show (num (m : Int)).cps.toList = _ from PySem.W.KIN.signs_num m]
  intro e
  have h := toDigits_len_ge 10 m
  rw [List.map_eq_nil_iff.mp e] at h
  exact absurd h (by decide)
theorem num_neg (m : Nat) : (num (Int.negSucc m)).cps.toList = 45 :: (num ((m + 1 : Nat) : Int)).cps.toList := by
  rw [show (num (Int.negSucc m)).cps.toList = _ from signs_ofString _, show (num ((m + 1 : Nat) : Int)).cps.toList = _ from signs_ofString _]
  have e : toString (Int.negSucc m) = "-" ++ Nat.repr (m + 1) := rfl
  have e2 : toString ((m + 1 : Nat) : Int) = Nat.repr (m + 1) := rfl
  rw [e, e2, String.toList_append, List.map_append]
  rfl
theorem num_signs (i : Int) : ∀ c ∈ (num i).cps.toList, c = 45 ∨ (48 ≤ c ∧ c ≤ 57) := by
  cases i with
  | ofNat m => exact fun c hc => .inr (nat_digits m c hc)
  | negSucc m =>
    intro c hc
    rw [num_neg] at hc
    rcases List.mem_cons.mp hc with e | hc
    · exact .inl e
    · exact .inr (nat_digits (m + 1) c hc)
theorem num_head (i : Int) : ∃ c r, (num i).cps.toList = c :: r ∧ (c = 45 ∨ (48 ≤ c ∧ c ≤ 57)) := by
  have hs := num_signs i
  cases e : (num i).cps.toList with
  | nil =>
    cases i with
    | ofNat m => exact absurd e (nat_ne m)
    | negSucc m => rw [num_neg] at e; cases e
  | cons c r =>
    rw [e] at hs
    exact ⟨c, r, rfl, hs c (List.mem_cons_self ..)⟩
theorem len_cps (x : Str) : x.cps.toList.length = x.length := Array.length_toList
theorem num_reads (i : Int) (h : i.natAbs ≤ 10 ^ 9) : intText? (num i) = some i := by
  have hl := num_len h
  cases i with
  | ofNat m =>
    have e := intText_digits (x := num (m : Int)) (nat_digits m) (nat_ne m) (by have : (num (m : Int)).length ≤ 11 := hl; omega)
    rw [show (num (m : Int)).cps.toList = _ from PySem.W.KIN.signs_num m, PySem.W.KIN.val_back] at e
    exact e
  | negSucc m =>
    have e := intText_neg (x := num (Int.negSucc m)) (num_neg m) (nat_digits (m + 1)) (nat_ne (m + 1)) (by omega)
    rw [show (num ((m + 1 : Nat) : Int)).cps.toList = _ from PySem.W.KIN.signs_num (m + 1), PySem.W.KIN.val_back] at e
    exact e
/-! ### what may write a number -/
def figures (w : Str) : Str := Txt.removeprefix w "-"
def looksNum (w : Str) : Bool := decide ((figures w).length ≤ 10) && Txt.isascii (figures w) && Txt.isdigit (figures w)
def guess (w : Str) : V := if looksNum w = true then .int ((intText? w).getD 0) else .non
theorem startsAt_one (x : Str) (c : Nat) : (decide (0 + (⟨#[c]⟩ : Str).length ≤ x.length) && Builtin.Str.subAt x ⟨#[c]⟩ 0) = decide (x.cps.toList[0]? = some c) := by
  have := StrLaws.subAt_one x c 0
  by_cases h : x.cps.toList[0]? = some c
  · have q := this.mpr h
    rw [decide_eq_true h, q.2, decide_eq_true q.1]
    rfl
  · rw [decide_eq_false h]
    cases hb : (decide (0 + (⟨#[c]⟩ : Str).length ≤ x.length) && Builtin.Str.subAt x ⟨#[c]⟩ 0) with
    | false => rfl
    | true =>
      simp only [Bool.and_eq_true, decide_eq_true_eq] at hb
      exact absurd (this.mp hb) h
theorem figures_eq (w : Str) : figures w = if w.cps.toList[0]? = some 45 then ⟨(w.cps.toList.drop 1).toArray⟩ else w := by
  unfold figures
  rw [mi_is, StrLaws.removeprefix_eq, startsAt_one]
  by_cases h : w.cps.toList[0]? = some 45
  · rw [if_pos (decide_eq_true h), if_pos h]
    congr 1
    show ((w.cps.toList.drop 1).take (w.length - 1)).toArray = _
    rw [List.take_of_length_le (by rw [List.length_drop, len_cps]; exact Nat.le_refl _)]
  · rw [if_neg (by rw [decide_eq_false h]; exact Bool.false_ne_true), if_neg h]
theorem ascii_digit : ∀ c : Nat, c < 128 → Unicode.isDigit c = true → 48 ≤ c ∧ c ≤ 57 := by decide +kernel
theorem digit_is : ∀ c : Nat, 48 ≤ c → c ≤ 57 → Unicode.isDigit c = true := by
  have h : ∀ c : Nat, c < 58 → 48 ≤ c → Unicode.isDigit c = true := by decide +kernel
  exact fun c h1 h2 => h c (by omega) h1
theorem all_cps {x : Str} {p : Nat → Bool} (h : x.cps.all p = true) : ∀ c ∈ x.cps.toList, p c = true := by
  intro c hc
  rw [Array.all_eq_true_iff_forall_mem] at h
  exact h c (Array.mem_toList_iff.mp hc)
theorem all_of {x : Str} {p : Nat → Bool} (h : ∀ c ∈ x.cps.toList, p c = true) : x.cps.all p = true := by
  rw [Array.all_eq_true_iff_forall_mem]
  exact fun c hc => h c (Array.mem_toList_iff.mpr hc)
theorem looks_digits {f : Str} (h1 : Txt.isascii f = true) (h2 : Txt.isdigit f = true) : (∀ c ∈ f.cps.toList, 48 ≤ c ∧ c ≤ 57) ∧ f.cps.toList ≠ [] := by
  unfold Txt.isdigit at h2
  simp only [Bool.and_eq_true, decide_eq_true_eq] at h2
  have ha := all_cps h1
  have hd := all_cps h2.2
  refine ⟨fun c hc => ascii_digit c (by simpa using ha c hc) (hd c hc), fun e => ?_⟩
  have := len_cps f
  rw [e] at this
  have := h2.1
  simp at *
  omega
theorem guess_reads {w : Str} (h : looksNum w = true) : intText? w = some ((intText? w).getD 0) ∧ w.length ≤ 11 := by
  unfold looksNum at h
  simp only [Bool.and_eq_true, decide_eq_true_eq] at h
  obtain ⟨⟨hl, ha⟩, hd⟩ := h
  obtain ⟨hD, hne⟩ := looks_digits ha hd
  rw [figures_eq] at hl hD hne
  by_cases h0 : w.cps.toList[0]? = some 45
  · rw [if_pos h0] at hl hD hne
    have e : w.cps.toList = 45 :: w.cps.toList.drop 1 := by
      cases hw : w.cps.toList with
      | nil => rw [hw] at h0; cases h0
      | cons c r => rw [hw] at h0; simp at h0; rw [h0]; rfl
    have hlen : w.length ≤ 11 := by
      rw [← len_cps w, e, List.length_cons]
      have : (w.cps.toList.drop 1).toArray.size ≤ 10 := hl
      rw [List.size_toArray] at this
      omega
    refine ⟨?_, hlen⟩
    have hD' : ∀ c ∈ w.cps.toList.drop 1, 48 ≤ c ∧ c ≤ 57 := fun c hc => hD c (by simpa using hc)
    rw [intText_neg e hD' (by simpa using hne) (by omega)]
    rfl
  · rw [if_neg h0] at hl hD hne
    refine ⟨?_, by omega⟩
    rw [intText_digits hD hne (by omega)]
    rfl
theorem guess_num {i : Int} (h : i.natAbs ≤ 10 ^ 9) : guess (num i) = .int i := by
  have hr := num_reads i h
  have hl := num_len h
  have hf : looksNum (num i) = true := by
    unfold looksNum
    rw [figures_eq]
    have fin : ∀ f : Str, f.length ≤ 10 → (∀ c ∈ f.cps.toList, 48 ≤ c ∧ c ≤ 57) → f.cps.toList ≠ [] → (decide (f.length ≤ 10) && Txt.isascii f && Txt.isdigit f) = true := fun f h1 h2 h3 => by
      rw [decide_eq_true h1]
      have a1 : Txt.isascii f = true := all_of fun c hc => decide_eq_true (by have := h2 c hc; omega)
      have a2 : Txt.isdigit f = true := by
        unfold Txt.isdigit
        have : f.length > 0 := by
          rw [← len_cps f]
          exact List.length_pos_iff.mpr h3
        rw [decide_eq_true this, all_of fun c hc => digit_is c (h2 c hc).1 (h2 c hc).2]
        rfl
      rw [a1, a2]
      rfl
    have len10 : ∀ m : Nat, m ≤ 10 ^ 9 → (num (m : Int)).length ≤ 10 := fun m hm => by
      have := toString_length_le (v := (m : Int)) (by omega) (k := 10) (by decide) (by omega)
      exact this
    cases i with
    | ofNat m =>
      have hne : ¬ (num (Int.ofNat m)).cps.toList[0]? = some 45 := fun z => by
        have := nat_digits m 45 (List.mem_of_getElem? z)
        omega
      rw [if_neg hne]
      exact fin _ (len10 m (by simpa using h)) (nat_digits m) (nat_ne m)
    | negSucc m =>
      have e := num_neg m
      rw [if_pos (by rw [e]; rfl), e]
      have e2 : (⟨(List.drop 1 (45 :: (num ((m + 1 : Nat) : Int)).cps.toList)).toArray⟩ : Str) = num ((m + 1 : Nat) : Int) := str_ext (by simp)
      rw [e2]
      exact fin _ (len10 (m + 1) (by simpa using h)) (nat_digits (m + 1)) (nat_ne (m + 1))
  unfold guess
  rw [if_pos hf, hr]
  rfl
/-! ### slices -/
theorem slice_but_last {x : Str} (h : 1 ≤ x.length) : Txt.slice x none (some (-1)) = ⟨(x.cps.toList.take (x.length - 1)).toArray⟩ := by
  have e : Txt.slice x none (some (-1)) = Txt.slice x none (some ((x.length : Int) - 1)) := by
    unfold Txt.slice
    have : Builtin.Str.strSliceIndices none (some (-1)) 1 x.length = Builtin.Str.strSliceIndices none (some ((x.length : Int) - 1)) 1 x.length := by
      unfold Builtin.Str.strSliceIndices
      simp only [show ((-1 : Int) < 0) = True by simp, if_true, show ¬ ((x.length : Int) - 1 < 0) by omega, if_false]
      first | done | (congr 1; done) | (congr 1; omega)
    rw [this]
  rw [e, eq_of_beq (slice_closes_to (x := x) (j := (x.length : Int) - 1) ⟨by omega, by rw [len_cps]; omega⟩)]
  congr 2
  first | done | (simp; omega) | simp
theorem slice_inner {x : Str} (h : 2 ≤ x.length) : Txt.slice x (some 1) (some (-1)) = ⟨((x.cps.toList.drop 1).take (x.length - 2)).toArray⟩ := by
  have e : Txt.slice x (some 1) (some (-1)) = Txt.slice x (some 1) (some ((x.length : Int) - 1)) := by
    unfold Txt.slice
    have : Builtin.Str.strSliceIndices (some 1) (some (-1)) 1 x.length = Builtin.Str.strSliceIndices (some 1) (some ((x.length : Int) - 1)) 1 x.length := by
      unfold Builtin.Str.strSliceIndices
      simp only [show ((-1 : Int) < 0) = True by simp, if_true, show ¬ ((x.length : Int) - 1 < 0) by omega, if_false]
      first | done | (congr 1; done) | (congr 1; omega)
    rw [this]
  rw [e, eq_of_beq (slice_closes (x := x) (i := 1) (j := (x.length : Int) - 1) ⟨by omega, by omega, by rw [len_cps]; omega⟩)]
  congr 2
  first | done | (simp; omega) | simp
end My

set_option Elab.async false
set_option linter.all false
set_option maxRecDepth 100000
set_option maxHeartbeats 4000000
namespace My
open PySem PySem.Spec PyProof.Rows L2
def wordTab : List (Str × V) := [("none", .non), ("true", .bl true), ("false", .bl false)]
def gArg (so w : Str) : V :=
  if so = "name" then .str w else if so = "value" then (match wordTab.lookup w with | some v => v | none => if Txt.startswith w "'" = true then .str (Txt.slice w (some 1) (some (-1))) else guess w) else guess w
def gRow (ws : List Str) : Option (Str × V × V) := match ws with
  | [l, op] => if (sortOf op).isSome = true then some (op, .non, guess l) else none
  | [l, op, w] => (match sortOf op with | some so => some (op, gArg so w, guess l) | none => none)
  | _ => none
theorem gRow2 (l op : Str) : gRow [l, op] = if (sortOf op).isSome = true then some (op, .non, guess l) else none := rfl
theorem gRow3 (l op w : Str) : gRow [l, op, w] = (match sortOf op with | some so => some (op, gArg so w, guess l) | none => none) := rfl
theorem guess_scal (w : Str) : Scal (guess w) := by
  unfold guess
  split
  · exact .int _
  · exact .non
theorem gArg_scal {so w : Str} (h : w.length ≤ sizeLine) : Scal (gArg so w) := by
  unfold gArg
  split
  · exact .str w h
  · split
    · split
      · rename_i v e
        have hm : (w, v) ∈ wordTab := PySem.mem_of_lookup e
        have all : ∀ p ∈ wordTab, p.2 = .non ∨ p.2 = .bl true ∨ p.2 = .bl false := by decide +kernel
        rcases all _ hm with z | z | z
        · rw [show v = .non from z]; exact .non
        · rw [show v = .bl true from z]; exact .bl true
        · rw [show v = .bl false from z]; exact .bl false
      · split
        · exact .str _ (Nat.le_trans (Txt.slice_le w _ _) h)
        · exact guess_scal w
    · exact guess_scal w
section
variable {P : Program} {w : World} {K : PySem.W.Frag} {mg : Str → Option Value} {base : Heap}
def spGuess : Sp := fun vs H Q _ => ∃ z, vs = [.str z] ∧ z.length ≤ sizeLine ∧ Q (guess z) H
theorem sc39 : FnScope ["word", "figures"] ["word"] (defScope (top 39)) := ⟨rfl, rfl, rfl, by decide +kernel, rfl, by decide +kernel, by decide +kernel⟩
theorem fn_guess (D : HasDef K mg "guessed_number" (top 39)) (G : Glo mg) : FN P w K mg base 1 "guessed_number" ["word"] spGuess := by
  refine FN.of D sc39 (fun _ _ _ _ _ _ us hl => match us, hl with | [_], _ => rfl) (fun vs H Q E h => by obtain ⟨z, rfl, _⟩ := h; rfl) (fun f cdv A outer s H vs Q E hr h => ?_)
  obtain ⟨z, rfl, hz, q⟩ := h
  refine ⟨_, pss_cons (ps_set (i := 1) sc39.nd rfl (Or.inl rfl) (pe_bm F.plainAttrs_str F.slot_str_removeprefix F.type_str_removeprefix mt_removeprefix (pv 0) (pa_cons pe_str pa_nil)))
    (pss_cons (ps_if (PW.pt (pw_and (pt_cmpR op_le (pe_callB call_len_str rfl G.len boot_len (pa_cons (pv 1) pa_nil)) (pe_const rfl G.figures) (nomark _)) (pw_and (pt_val (pe_bm0 F.plainAttrs_str F.slot_str_isascii F.type_str_isascii mt_isascii (pv 1))) (pw_and1 (pt_val (pe_bm0 F.plainAttrs_str F.slot_str_isdigit F.type_str_isdigit mt_isdigit (pv 1)))))))
      (pss_one (ps_ret (pe_callTy call_int_text rfl G.int boot_int (pa_cons (pv 0) pa_nil)))) pss_nil)
    (pss_one (ps_ret pe_non))), ?_⟩
  have hf : (Txt.removeprefix z "-").length ≤ sizeLine := Nat.le_trans (PyProof.Rows.len_removeprefix z "-") hz
  refine ⟨_, rfl, rfl, z, _, rfl, rfl, hz, ?_⟩
  refine ⟨_, rfl, _, rfl, hf, _, _, rfl, rfl, _, rfl, ?_⟩
  have q' : Q (if looksNum z = true then V.int ((intText? z).getD 0) else .non) H := q
  have ed : decide (((Txt.removeprefix z "-").length : Int) ≤ 10) = decide ((figures z).length ≤ 10) := decide_eq_decide.mpr (by show ((Txt.removeprefix z "-").length : Int) ≤ 10 ↔ (Txt.removeprefix z "-").length ≤ 10; omega)
  have el : looksNum z = (decide (((Txt.removeprefix z "-").length : Int) ≤ 10) && Txt.isascii (figures z) && Txt.isdigit (figures z)) := by rw [ed]; rfl
  refine ite2 (fun c1 => ?_) (fun c1 => ?_)
  · refine ⟨_, rfl, rfl, _, rfl, rfl, _, rfl, ?_⟩
    refine ite2 (fun c2 => ?_) (fun c2 => ?_)
    · refine ⟨_, rfl, rfl, _, rfl, rfl, _, rfl, ?_⟩
      refine ite2 (fun c3 => ?_) (fun c3 => ?_)
      · have e : looksNum z = true := by rw [el]; simp only [Bool.and_eq_true]; exact ⟨⟨c1, c2⟩, c3⟩
        rw [if_pos e] at q'
        obtain ⟨g1, g2⟩ := guess_reads e
        exact ⟨_, rfl, z, _, rfl, g1, by omega, q'⟩
      · have e : ¬ looksNum z = true := by rw [el]; simp only [Bool.and_eq_true]; exact fun y => c3 y.2
        rw [if_neg e] at q'
        exact q'
    · have e : ¬ looksNum z = true := by rw [el]; simp only [Bool.and_eq_true]; exact fun y => c2 y.1.2
      rw [if_neg e] at q'
      exact iteF q'
  · have e : ¬ looksNum z = true := by rw [el]; simp only [Bool.and_eq_true]; exact fun y => c1 y.1.1
    rw [if_neg e] at q'
    exact iteF q'
def spGArg : Sp := fun vs H Q _ => ∃ op so z, vs = [.str op, .str z] ∧ sortOf op = some so ∧ z.length ≤ sizeLine ∧ Q (gArg so z) H
theorem sc40 : FnScope ["op", "word", "sort"] ["op", "word"] (defScope (top 40)) := ⟨rfl, rfl, rfl, by decide +kernel, rfl, by decide +kernel, by decide +kernel⟩
theorem fn_garg (D : HasDef K mg "guessed_arg" (top 40)) (T : Tabs w K mg) (FS : FN P w K mg base 1 "arg_sort" ["op"] spSort) (FG : FN P w K mg base 1 "guessed_number" ["word"] spGuess) : FN P w K mg base 2 "guessed_arg" ["op", "word"] spGArg := by
  refine FN.of D sc40 (fun _ _ _ _ _ _ us hl => match us, hl with | [_, _], _ => rfl) (fun vs H Q E h => by obtain ⟨op, so, z, rfl, _⟩ := h; rfl) (fun f cdv A outer s H vs Q E hr h => ?_)
  obtain ⟨op, so, z, rfl, hs, hz, q⟩ := h
  obtain ⟨d, md, td⟩ := T.words
  refine ⟨_, pss_cons (ps_set (i := 2) sc40.nd rfl (Or.inl rfl) (pe_fn FS hr rfl (pa_cons (pv 0) pa_nil)))
    (pss_cons (ps_if (pt_cmpR op_eq (pv 2) pe_str (nomark _)) (pss_one (ps_ret (pv 1))) pss_nil)
    (pss_cons (ps_if (PW.pt (pw_and (pt_cmpR op_eq (pv 2) pe_str (nomark _)) (pw_and1 (pt_cmp (pc_kin td rfl md (pv 1)))))) (pss_one (ps_ret (pe_kget td rfl md (pv 1) (fun _ _ => rfl)))) pss_nil)
    (pss_cons (ps_if (PW.pt (pw_and (pt_cmpR op_eq (pv 2) pe_str (nomark _)) (pw_and1 (pt_val (pe_bm F.plainAttrs_str F.slot_str_startswith F.type_str_startswith mt_startswith (pv 1) (pa_cons pe_str pa_nil)))))) (pss_one (ps_ret (pe_slice sl_str (pv 1) (po_some pe_int) (po_some (pe_un un_neg pe_int))))) pss_nil)
    (pss_one (ps_ret (pe_fn FG hr rfl (pa_cons (pv 1) pa_nil))))))), ?_⟩
  refine ⟨_, rfl, op, so, rfl, hs, ?_⟩
  refine ⟨_, rfl, rfl, _, rfl, ?_⟩
  unfold gArg at q
  refine ite2 (fun c => ?_) (fun c => ?_)
  · have e : so = "name" := by
      have := of_decide_eq_true c
      injection this
    rw [if_pos e] at q
    exact ⟨_, rfl, q⟩
  · have e : so ≠ "name" := fun y => c (by rw [y]; rfl)
    rw [if_neg e] at q
    refine ⟨_, rfl, rfl, _, rfl, ?_⟩
    refine ite2 (fun c => ?_) (fun c => ?_)
    · have e2 : so = "value" := by
        have := of_decide_eq_true c
        injection this
      subst e2
      rw [if_pos rfl] at q
      refine ⟨_, rfl, z, rfl, _, rfl, ?_⟩
      cases hv : wordTab.lookup z with
      | some v =>
        rw [hv] at q
        rw [show (List.lookup z [(Str.ofString "none", V.non), (Str.ofString "true", V.bl true), (Str.ofString "false", V.bl false)]) = some v from hv]
        exact iteT ⟨_, rfl, z, v, rfl, hv, q⟩
      | none =>
        rw [hv] at q
        rw [show (List.lookup z [(Str.ofString "none", V.non), (Str.ofString "true", V.bl true), (Str.ofString "false", V.bl false)]) = none from hv]
        refine iteF ⟨_, rfl, rfl, _, rfl, ?_⟩
        rw [c]
        refine iteT ⟨_, rfl, rfl, z, _, rfl, rfl, trivial, _, rfl, ?_⟩
        have q' : Q (if Txt.startswith z "'" = true then .str (Txt.slice z (some 1) (some (-1))) else guess z) H := q
        refine ite2 (fun c3 => ?_) (fun c3 => ?_)
        · rw [if_pos c3] at q'
          exact ⟨_, rfl, 1, rfl, 1, rfl, _, rfl, z, rfl, hz, q'⟩
        · rw [if_neg c3] at q'
          exact ⟨_, rfl, z, rfl, hz, q'⟩
    · have e2 : so ≠ "value" := fun y => c (by rw [y]; rfl)
      rw [if_neg e2] at q
      have ec : decide (V.str so = V.str (Str.ofString "value")) = false := Bool.eq_false_iff.mpr c
      refine iteF ⟨_, rfl, rfl, _, rfl, ?_⟩
      rw [ec]
      exact iteF (iteF ⟨_, rfl, z, rfl, hz, q⟩)
def spGRow (K : PySem.W.Frag) : Sp := fun vs H Q _ => ∃ p ws, vs = [.ref p] ∧ SqL K H p (ws.map V.str) ∧ (∀ z ∈ ws, z.length ≤ sizeLine) ∧
  (∀ H', Same H H' → gRow ws = none → Q .non H') ∧ (∀ a op arg line H', H a = none → Same H H' → gRow ws = some (op, arg, line) → H' a = some (.tup [.str op, arg, line]) → Q (.ref a) H')
theorem sc41 : FnScope ["words", "op", "line"] ["words"] (defScope (top 41)) := ⟨rfl, rfl, rfl, by decide +kernel, rfl, by decide +kernel, by decide +kernel⟩
theorem in23 (n : Nat) : (if true = true then !inV (V.int (n : Int)) [V.int 2, V.int 3] else inV (V.int (n : Int)) [V.int 2, V.int 3]) = !(decide (n = 2) || decide (n = 3)) := by
  rw [if_pos rfl]
  have e : inV (V.int (n : Int)) [V.int 2, V.int 3] = (decide (n = 2) || decide (n = 3)) := by
    unfold inV eqV
    simp only [List.any_cons, List.any_nil, Bool.or_false]
    congr 1
    · rw [Bool.eq_iff_iff]; simp; omega
    · rw [Bool.eq_iff_iff]; simp; omega
  rw [e]
theorem fn_grow (D : HasDef K mg "guessed_row" (top 41)) (G : Glo mg) (FO : FN P w K mg base 1 "is_op" ["thing"] (sp1 isOp)) (FG : FN P w K mg base 1 "guessed_number" ["word"] spGuess) (FA : FN P w K mg base 2 "guessed_arg" ["op", "word"] spGArg) :
    FN P w K mg base 3 "guessed_row" ["words"] (spGRow K) := by
  refine FN.of D sc41 (fun _ _ _ _ _ _ us hl => match us, hl with | [_], _ => rfl) (fun vs H Q E h => by obtain ⟨p, ws, rfl, _⟩ := h; rfl) (fun f cdv A outer s H vs Q E hr h => ?_)
  obtain ⟨p, ws, rfl, hS, hz, q1, q2⟩ := h
  refine ⟨_, pss_cons (ps_if (PW.pt (pw_or (pt_cmpR op_notIn_seq (pe_callB call_len_seq rfl G.len boot_len (pa_cons (pv 0) pa_nil)) (pe_tup (pa_cons pe_int (pa_cons pe_int pa_nil))) rfl)
      (pw_or1 (pt_not (pt_val (pe_fn FO (hr.mono (by decide)) rfl (pa_cons (pe_ix ix_list (pv 0) pe_int (fun _ _ => rfl)) pa_nil))))))) (pss_one (ps_ret pe_non)) pss_nil)
    (pss_cons (ps_set (i := 1) sc41.nd rfl (Or.inl rfl) (pe_ix ix_list (pv 0) pe_int (fun _ _ => rfl)))
    (pss_cons (ps_set (i := 2) sc41.nd rfl (Or.inl rfl) (pe_fn FG (hr.mono (by decide)) rfl (pa_cons (pe_ix ix_list (pv 0) pe_int (fun _ _ => rfl)) pa_nil)))
    (pss_cons (ps_if (pt_cmpR op_eq (pe_callB call_len_seq rfl G.len boot_len (pa_cons (pv 0) pa_nil)) pe_int (nomark _)) (pss_one (ps_ret (pe_tup (pa_cons (pv 1) (pa_cons pe_non (pa_cons (pv 2) pa_nil)))))) pss_nil)
    (pss_one (ps_ret (pe_tup (pa_cons (pv 1) (pa_cons (pe_fn FA hr rfl (pa_cons (pv 1) (pa_cons (pe_ix ix_list (pv 0) pe_int (fun _ _ => rfl)) pa_nil))) (pa_cons (pv 2) pa_nil)))))))) ), ?_⟩
  refine ⟨_, rfl, p, _, rfl, .inl hS, by show 2 ≤ sizeLine; decide, fun t ht => ?_⟩
  have s1 : Same H (upd H t (.tup [.int 2, .int 3])) := same_new ht _
  have hS1 := s1.seq hS
  refine ⟨t, _, rfl, .inr (SqT.of upd_same), rfl, rfl, _, rfl, ?_⟩
  rw [List.length_map, in23]
  have bad : (ws.length ≠ 2 ∧ ws.length ≠ 3) → gRow ws = none := fun h => by
    unfold gRow
    split
    · exact absurd rfl h.1
    · exact absurd rfl h.2
    · rfl
  have three : ∀ {a b : Str} {r : List Str}, ws = a :: b :: r → (sortOf b).isSome = false → (r = [] ∨ ∃ c, r = [c]) → gRow ws = none := fun {a b r} e hs hr => by
    rw [e]
    rcases hr with rfl | ⟨c, rfl⟩
    · rw [gRow2, hs]; rfl
    · rw [gRow3]
      cases h : sortOf b with
      | none => rfl
      | some _ => rw [h] at hs; cases hs
  by_cases hn : ws.length = 2 ∨ ws.length = 3
  · have e : (!(decide (ws.length = 2) || decide (ws.length = 3))) = false := by
      rcases hn with h | h <;> rw [h] <;> rfl
    rw [e]
    obtain ⟨a, b, r, rfl, hr'⟩ : ∃ a b r, ws = a :: b :: r ∧ (r = [] ∨ ∃ c, r = [c]) := by
      match ws, hn with
      | [a, b], _ => exact ⟨a, b, [], rfl, .inl rfl⟩
      | [a, b, c], _ => exact ⟨a, b, [c], rfl, .inr ⟨c, rfl⟩⟩
      | [], h => simp at h
      | [_], h => simp at h
      | _ :: _ :: _ :: _ :: _, h => simp at h
    have hb : b.length ≤ sizeLine := hz b (by simp)
    have ha : a.length ≤ sizeLine := hz a (by simp)
    refine iteF ⟨_, rfl, p, _, _, _, rfl, rfl, hS1, atI_nat (j := 1) rfl, _, rfl, .str b hb, _, rfl, ?_⟩
    cases hs : sortOf b with
    | none =>
      have e : isOp (.str b) = false := by show (sortOf b).isSome = false; rw [hs]; rfl
      rw [e]
      exact iteT (q1 _ s1 (three rfl (by rw [hs]; rfl) hr'))
    | some so =>
      have e : isOp (.str b) = true := by show (sortOf b).isSome = true; rw [hs]; rfl
      rw [e]
      refine iteF ⟨_, rfl, p, _, _, _, rfl, rfl, hS1, atI_nat (j := 1) rfl, ?_⟩
      refine ⟨_, rfl, p, _, _, _, rfl, rfl, hS1, atI_nat (j := 0) rfl, a, rfl, ha, ?_⟩
      refine ⟨_, rfl, p, _, rfl, .inl hS1, rfl, _, rfl, ?_⟩
      rcases hr' with rfl | ⟨c, rfl⟩
      · refine iteT ⟨_, rfl, _, rfl, by show 3 ≤ sizeLine; decide, fun x hx => ?_⟩
        refine q2 x b .non (guess a) _ (s1.free hx) (fun y o ey => by rw [upd_ne (ne_of_none (s1 y o ey) hx)]; exact s1 y o ey) ?_ upd_same
        rw [gRow2, hs]
        rfl
      · have hc : c.length ≤ sizeLine := hz c (by simp)
        refine iteF ⟨_, rfl, _, rfl, _, rfl, p, _, _, _, rfl, rfl, hS1, atI_nat (j := 2) rfl, b, so, c, rfl, hs, hc, _, rfl, by show 3 ≤ sizeLine; decide, fun x hx => ?_⟩
        refine q2 x b (gArg so c) (guess a) _ (s1.free hx) (fun y o ey => by rw [upd_ne (ne_of_none (s1 y o ey) hx)]; exact s1 y o ey) ?_ upd_same
        rw [gRow3, hs]
  · have e : (!(decide (ws.length = 2) || decide (ws.length = 3))) = true := by
      rw [decide_eq_false (fun h => hn (.inl h)), decide_eq_false (fun h => hn (.inr h))]
      rfl
    rw [e]
    exact iteT (iteT (q1 _ s1 (bad ⟨fun h => hn (.inl h), fun h => hn (.inr h)⟩)))
end
end My

set_option Elab.async false
set_option linter.all false
set_option maxRecDepth 100000
set_option maxHeartbeats 4000000
namespace My
open PySem PySem.Spec PyProof.Rows L2
/-! ### a line cut into its words -/
theorem alpha_not : ∀ c : Nat, (c = 32 ∨ c = 10 ∨ c = 39) → Unicode.isAlpha c = false := by
  intro c h
  rcases h with rfl | rfl | rfl <;> decide +kernel
theorem alpha_free {s : Str} (h : Txt.isalpha s = true) {c : Nat} (hc : c = 32 ∨ c = 10 ∨ c = 39) : c ∉ s.cps.toList := fun m => by
  unfold Txt.isalpha at h
  simp only [Bool.and_eq_true] at h
  have := all_cps h.2 c m
  rw [alpha_not c hc] at this
  cases this
theorem num_free (i : Int) {c : Nat} (hc : c = 32 ∨ c = 10 ∨ c = 39) : c ∉ (num i).cps.toList := fun m => by
  have := num_signs i c m
  omega
theorem op_free {op s : Str} (h : sortOf op = some s) {c : Nat} (hc : c = 32 ∨ c = 10) : c ∉ op.cps.toList := by
  have hm : (op, s) ∈ sortTab := PySem.mem_of_lookup h
  have all : ∀ p ∈ sortTab, (32 : Nat) ∉ p.1.cps.toList ∧ (10 : Nat) ∉ p.1.cps.toList := by decide +kernel
  rcases hc with rfl | rfl
  · exact (all _ hm).1
  · exact (all _ hm).2
theorem none_free : ∀ c : Nat, (c = 32 ∨ c = 10) → c ∉ (Str.ofString "none").cps.toList := by
  intro c h; rcases h with rfl | rfl <;> decide +kernel
theorem true_free : ∀ c : Nat, (c = 32 ∨ c = 10) → c ∉ (Str.ofString "true").cps.toList := by
  intro c h; rcases h with rfl | rfl <;> decide +kernel
theorem false_free : ∀ c : Nat, (c = 32 ∨ c = 10) → c ∉ (Str.ofString "false").cps.toList := by
  intro c h; rcases h with rfl | rfl <;> decide +kernel
theorem kind_cps (s : Str) : (Str.empty ++ Str.ofString "'" ++ s ++ Str.ofString "'").cps.toList = 39 :: (s.cps.toList ++ [39]) := by
  rw [Str.empty_append, q_is, Str.cps_append, Str.cps_append]
  simp
theorem val_free {x : V} (h : Arg "value" x) {c : Nat} (hc : c = 32 ∨ c = 10) : c ∉ (valText x).cps.toList := by
  cases h with
  | non => exact none_free c hc
  | bl b => cases b with
    | true => exact true_free c hc
    | false => exact false_free c hc
  | int i h => exact num_free i (by omega)
  | kind s h1 h8 ha hl =>
    show c ∉ (Str.empty ++ Str.ofString "'" ++ s ++ Str.ofString "'").cps.toList
    rw [kind_cps]
    have := alpha_free hl (c := c) (by omega)
    intro m
    rcases List.mem_cons.mp m with e | m
    · omega
    · rcases List.mem_append.mp m with m | m
      · exact this m
      · have := List.mem_singleton.mp m
        omega
theorem arg_free {s : Str} {x : V} (h : Arg s x) (h1 : s ≠ "value") (h2 : s ≠ "none") {c : Nat} (hc : c = 32 ∨ c = 10) : c ∉ (argText x).cps.toList := by
  cases h with
  | non => exact absurd rfl h1
  | bl b => exact absurd rfl h1
  | int i h => exact absurd rfl h1
  | kind s _ _ _ _ => exact absurd rfl h1
  | bare => exact absurd rfl h2
  | name s a b cc hl => exact alpha_free hl (by omega)
  | copied i h0 h1 => exact num_free i (by omega)
  | swapped i h0 h1 => exact num_free i (by omega)
  | mark i h0 h1 => exact num_free i (by omega)
/-- the word of the arg -/
def aText (so : Str) (x : V) : Str := if so = "value" then valText x else argText x
theorem a_free {s : Str} {x : V} (h : Arg s x) (h2 : s ≠ "none") {c : Nat} (hc : c = 32 ∨ c = 10) : c ∉ (aText s x).cps.toList := by
  unfold aText
  by_cases e : s = "value"
  · subst e; rw [if_pos rfl]; exact val_free h hc
  · rw [if_neg e]; exact arg_free h e h2 hc
theorem line_two {r : Row} (hs : sortOf r.op = some ("none" : Str)) : lineText r = Str.join ⟨#[32]⟩ [num r.line, r.op] := by
  unfold lineText
  rw [if_pos hs]
  unfold head
  rw [Str.empty_append, sp_is]
  rfl
theorem line_three {r : Row} {s : Str} (hs : sortOf r.op = some s) (h2 : s ≠ "none") : lineText r = Str.join ⟨#[32]⟩ [num r.line, r.op, aText s r.arg] := by
  unfold lineText aText
  rw [hs, if_neg fun z => h2 (Option.some.inj z)]
  show _ = num r.line ++ ⟨#[32]⟩ ++ (r.op ++ ⟨#[32]⟩ ++ _)
  unfold head
  rw [Str.empty_append, sp_is]
  by_cases e : s = "value"
  · rw [if_pos (by rw [e]), if_pos e]; simp only [Str.append_assoc]; rfl
  · rw [if_neg fun z => e (Option.some.inj z), if_neg e]; simp only [Str.append_assoc]; rfl
theorem look_none {z : Str} {c : Nat} {r : List Nat} (h : z.cps.toList = c :: r) (hc : c = 39 ∨ c = 45 ∨ (48 ≤ c ∧ c ≤ 57)) : wordTab.lookup z = none := by
  have ne : ∀ k : Str, (∃ d t, k.cps.toList = d :: t ∧ 58 ≤ d) → (z == k) = false := fun k ⟨d, t, e, hd⟩ => by
    refine beq_eq_false_iff_ne.mpr fun y => ?_
    rw [y, e] at h
    injection h with h1 _
    omega
  unfold wordTab
  rw [List.lookup_cons, ne _ ⟨110, _, rfl, by decide⟩, List.lookup_cons, ne _ ⟨116, _, rfl, by decide⟩, List.lookup_cons, ne _ ⟨102, _, rfl, by decide⟩]
  rfl
theorem starts_q (z : Str) : Txt.startswith z "'" = decide (z.cps.toList[0]? = some 39) := by
  rw [← startsAt_one, q_is]
  rfl
theorem gArg_val {x : V} (h : Arg "value" x) : gArg "value" (valText x) = x := by
  unfold gArg
  rw [if_neg (by decide +kernel), if_pos rfl]
  cases h with
  | non => rfl
  | bl b => cases b <;> rfl
  | int i h =>
    obtain ⟨c, r, e, hc⟩ := num_head i
    show (match wordTab.lookup (num i) with | some v => v | none => if Txt.startswith (num i) "'" = true then _ else guess (num i)) = _
    rw [look_none e (by omega)]
    show (if Txt.startswith (num i) "'" = true then _ else guess (num i)) = _
    rw [starts_q, e, if_neg (by simp; omega)]
    exact guess_num h
  | kind s h1 h8 ha hl =>
    have e := kind_cps s
    show (match wordTab.lookup (Str.empty ++ Str.ofString "'" ++ s ++ Str.ofString "'") with | some v => v | none => if Txt.startswith (Str.empty ++ Str.ofString "'" ++ s ++ Str.ofString "'") "'" = true then V.str (Txt.slice (Str.empty ++ Str.ofString "'" ++ s ++ Str.ofString "'") (some 1) (some (-1))) else guess (Str.empty ++ Str.ofString "'" ++ s ++ Str.ofString "'")) = _
    generalize Str.empty ++ Str.ofString "'" ++ s ++ Str.ofString "'" = z at *
    rw [look_none e (by omega)]
    show (if Txt.startswith z "'" = true then V.str (Txt.slice z (some 1) (some (-1))) else guess z) = _
    rw [starts_q, e, if_pos (by simp)]
    have hl : z.length = s.length + 2 := by
      rw [← len_cps z, e, ← len_cps s]
      simp
    rw [slice_inner (by omega)]
    congr 1
    refine str_ext ?_
    rw [e, hl]
    have : s.cps.toList.length = s.length := len_cps s
    simp [← this]
theorem gArg_back {so : Str} {x : V} (h : Arg so x) (h2 : so ≠ "none") : gArg so (aText so x) = x := by
  unfold aText
  by_cases e : so = "value"
  · subst e
    rw [if_pos rfl]
    exact gArg_val h
  · rw [if_neg e]
    cases h with
    | non => exact absurd rfl e
    | bl b => exact absurd rfl e
    | int i h => exact absurd rfl e
    | kind s _ _ _ _ => exact absurd rfl e
    | bare => exact absurd rfl h2
    | name s a b cc hl => unfold gArg; rw [if_pos rfl]; rfl
    | copied i h0 h1 => unfold gArg; rw [if_neg (by decide +kernel), if_neg e]; exact guess_num (by omega)
    | swapped i h0 h1 => unfold gArg; rw [if_neg (by decide +kernel), if_neg e]; exact guess_num (by omega)
    | mark i h0 h1 => unfold gArg; rw [if_neg (by decide +kernel), if_neg e]; exact guess_num (by omega)
/-- the row that a line writes -/
def readRow (z : Str) : Option Row := match gRow (Txt.split z ⟨#[32]⟩) with
  | some (op, arg, .int l) => if (rowV op arg (.int l) && decide (lineText ⟨op, arg, l⟩ = z)) = true then some ⟨op, arg, l⟩ else none
  | _ => none
theorem free2 {c : Nat} {a b : Str} (h1 : c ∉ a.cps.toList) (h2 : c ∉ b.cps.toList) : ∀ p ∈ [a, b], c ∉ p.cps.toList := by
  intro p hp
  rcases List.mem_cons.mp hp with e | hp
  · rw [e]; exact h1
  · rw [List.mem_singleton.mp hp]; exact h2
theorem free3 {c : Nat} {a b d : Str} (h1 : c ∉ a.cps.toList) (h2 : c ∉ b.cps.toList) (h3 : c ∉ d.cps.toList) : ∀ p ∈ [a, b, d], c ∉ p.cps.toList := by
  intro p hp
  rcases List.mem_cons.mp hp with e | hp
  · rw [e]; exact h1
  · exact free2 h2 h3 p hp
theorem readRow_line {r : Row} (h : RowOk r) : readRow (lineText r) = some r := by
  obtain ⟨s, hs, ha, h0, h1, h7⟩ := h.arg
  have key : gRow (Txt.split (lineText r) ⟨#[32]⟩) = some (r.op, r.arg, .int r.line) := by
    by_cases e : s = "none"
    · subst e
      rw [line_two hs, split_join (free2 (num_free _ (.inl rfl)) (op_free hs (.inl rfl))) (by simp), gRow2, hs]
      show some (r.op, V.non, guess (num r.line)) = _
      rw [guess_num (by omega)]
      revert ha
      generalize r.arg = x
      intro ha
      cases ha
      rfl
    · rw [line_three hs e, split_join (free3 (num_free _ (.inl rfl)) (op_free hs (.inl rfl)) (a_free ha e (.inl rfl))) (by simp), gRow3, hs]
      show some (r.op, gArg s (aText s r.arg), guess (num r.line)) = _
      rw [gArg_back ha e, guess_num (by omega)]
  unfold readRow
  rw [key]
  show (if (rowV r.op r.arg (.int r.line) && decide (lineText ⟨r.op, r.arg, r.line⟩ = lineText r)) = true then some (⟨r.op, r.arg, r.line⟩ : Row) else none) = some r
  rw [if_pos (by rw [show rowV r.op r.arg (.int r.line) = true from h]; simp)]
theorem readRow_ok {z : Str} {r : Row} (h : readRow z = some r) : RowOk r ∧ lineText r = z := by
  unfold readRow at h
  split at h
  · rename_i op arg l _
    split at h
    · rename_i c
      cases h
      simp only [Bool.and_eq_true, decide_eq_true_eq] at c
      exact c
    · cases h
  · cases h
section
variable {P : Program} {w : World} {K : PySem.W.Frag} {mg : Str → Option Value} {base : Heap}
def spRead : Sp := fun vs H Q _ => ∃ z, vs = [.str z] ∧ z.length ≤ 1000000 ∧ (∀ H', Same H H' → readRow z = none → Q .non H') ∧
  (∀ a r H', H a = none → Same H H' → readRow z = some r → H' a = some (.tup (tupV r)) → Q (.ref a) H')
theorem sc42 : FnScope ["written", "row"] ["written"] (defScope (top 42)) := ⟨rfl, rfl, rfl, by decide +kernel, rfl, by decide +kernel, by decide +kernel⟩
theorem mill_line {n : Nat} (h : n ≤ 1000002) : n ≤ sizeLine := Nat.le_trans h (by decide)
theorem fn_read (D : HasDef K mg "read_row" (top 42)) (FG : FN P w K mg base 3 "guessed_row" ["words"] (spGRow K)) (FR : FN P w K mg base 6 "is_row" ["thing"] spRow) (FT : FN P w K mg base 2 "row_text" ["row"] spText) : FN P w K mg base 7 "read_row" ["written"] spRead := by
  refine FN.of D sc42 (fun _ _ _ _ _ _ us hl => match us, hl with | [_], _ => rfl) (fun vs H Q E h => by obtain ⟨z, rfl, _⟩ := h; rfl) (fun f cdv A outer s H vs Q E hr h => ?_)
  obtain ⟨z, rfl, hz, q1, q2⟩ := h
  refine ⟨_, pss_cons (ps_set (i := 1) sc42.nd rfl (Or.inl rfl) (pe_fn FG (hr.mono (by decide)) rfl (pa_cons (pe_bm F.plainAttrs_str F.slot_str_split F.type_str_split mt_split (pv 0) (pa_cons pe_str pa_nil)) pa_nil)))
    (pss_cons (ps_if (PW.pt (pw_and (pt_val (pe_fn FR hr rfl (pa_cons (pv 1) pa_nil))) (pw_and1 (pt_cmpR op_eq (pe_fn FT (hr.mono (by decide)) rfl (pa_cons (pv 1) pa_nil)) (pv 0) (nomark _))))) (pss_one (ps_ret (pv 1))) pss_nil)
    (pss_one (ps_ret pe_non))), ?_⟩
  have hsp := split_le z ⟨#[32]⟩
  refine ⟨_, rfl, rfl, z, _, rfl, rfl, by decide +kernel, mill_line (by omega), mill_line (by rw [sp_is]; omega), fun p hp => ?_⟩
  rw [sp_is]
  have s1 : Same H (upd H p (.lst ((Txt.split z ⟨#[32]⟩).map V.str))) := same_new hp _
  have hall : ∀ y ∈ Txt.split z ⟨#[32]⟩, y.length ≤ sizeLine := fun y hy => mill_line (Nat.le_trans (part_short hy) (by omega))
  refine ⟨p, _, rfl, SqL.of upd_same, hall, fun H2 s2 hn => ?_, fun a op arg line H2 ha s2 hg hT => ?_⟩
  · have e : readRow z = none := by unfold readRow; rw [hn]
    exact ⟨_, rfl, .inl ⟨rfl, _, rfl, iteF (iteF (q1 H2 (s1.trans s2) e))⟩⟩
  · have hsc : op.length ≤ sizeLine ∧ Scal arg ∧ Scal line := by
      revert hg
      generalize hw : Txt.split z ⟨#[32]⟩ = ws at *
      intro hg
      unfold gRow at hg
      split at hg
      · split at hg
        · cases hg
          exact ⟨hall _ (by simp), .non, guess_scal _⟩
        · cases hg
      · split at hg
        · cases hg
          exact ⟨hall _ (by simp), gArg_scal (hall _ (by simp)), guess_scal _⟩
        · cases hg
      · cases hg
    refine ⟨_, rfl, .inr ⟨a, op, arg, line, rfl, hT, hsc.1, hsc.2.1, hsc.2.2, _, rfl, ?_⟩⟩
    cases hv : rowV op arg line with
    | false =>
      refine iteF (iteF (q1 H2 (s1.trans s2) ?_))
      unfold readRow
      rw [hg]
      cases line with
      | int l =>
        show (if (rowV op arg (.int l) && _) = true then _ else none) = none
        rw [hv]
        rfl
      | _ => rfl
    | true =>
      have hv' := hv
      unfold rowV at hv'
      simp only [Bool.and_eq_true] at hv'
      obtain ⟨l, rfl, _, _⟩ := within_scal hv'.2
      refine iteT ⟨_, rfl, a, ⟨op, arg, l⟩, rfl, hT, hv, _, rfl, rfl, _, rfl, ?_⟩
      by_cases e : lineText ⟨op, arg, l⟩ = z
      · rw [decide_eq_true (by rw [e])]
        refine iteT ⟨_, rfl, q2 a ⟨op, arg, l⟩ H2 (s1.free ha) (s1.trans s2) ?_ hT⟩
        unfold readRow
        rw [hg]
        show (if (rowV op arg (.int l) && _) = true then _ else none) = _
        rw [hv, decide_eq_true e]
        rfl
      · rw [decide_eq_false (fun y => e (by injection y))]
        refine iteF (q1 H2 (s1.trans s2) ?_)
        unfold readRow
        rw [hg]
        show (if (rowV op arg (.int l) && decide (lineText ⟨op, arg, l⟩ = z)) = true then some (⟨op, arg, l⟩ : Row) else none) = _
        rw [decide_eq_false e, Bool.and_false]
        rfl
end
end My

set_option Elab.async false
set_option linter.all false
set_option maxRecDepth 100000
set_option maxHeartbeats 4000000
namespace My
open PySem PySem.Spec PyProof.Rows L2
/-! ### the text of a code -/
theorem em_is : Str.ofString "" = Str.empty := by decide +kernel
theorem join_em : ∀ (x : Str) (r : List Str), Str.join Str.empty (x :: r) = x ++ Str.join Str.empty r
  | x, [] => (Str.append_empty x).symm
  | x, y :: r => by
    show x ++ Str.empty ++ Str.join Str.empty (y :: r) = _
    rw [Str.append_empty]
theorem cat_lines : ∀ ls : List Str, Str.join Str.empty (ls.map (· ++ ⟨#[10]⟩)) = Str.join ⟨#[10]⟩ (ls ++ [Str.empty])
  | [] => rfl
  | [x] => by
    show x ++ ⟨#[10]⟩ = x ++ ⟨#[10]⟩ ++ Str.empty
    rw [Str.append_empty]
  | x :: y :: r => by
    have ih := cat_lines (y :: r)
    rw [List.map_cons, join_em, ih]
    rfl
theorem codeText_eq (rs : List Row) : codeText rs = Str.join ⟨#[10]⟩ (rs.map lineText ++ [Str.empty]) := by
  unfold codeText
  show Builtin.Str.glued "" (rs.map fed) = _
  rw [StrLaws.glued_eq_join, em_is, ← cat_lines, List.map_map]
  first
    | done
    | (congr 1
       refine List.map_congr_left fun r _ => ?_
       show lineText r ++ Str.ofString "\n" = _
       rw [lf_is]
       rfl)
    | (congr 1; done)
theorem join_last (c : Nat) : ∀ ls : List Str, ls ≠ [] → Str.join ⟨#[c]⟩ (ls ++ [Str.empty]) = Str.join ⟨#[c]⟩ ls ++ ⟨#[c]⟩
  | [], h => absurd rfl h
  | [x], _ => by
    show x ++ ⟨#[c]⟩ ++ Str.empty = x ++ ⟨#[c]⟩
    rw [Str.append_empty]
  | x :: y :: r, _ => by
    have ih := join_last c (y :: r) (by simp)
    show x ++ ⟨#[c]⟩ ++ Str.join ⟨#[c]⟩ (y :: r ++ [Str.empty]) = x ++ ⟨#[c]⟩ ++ Str.join ⟨#[c]⟩ (y :: r) ++ ⟨#[c]⟩
    rw [ih, Str.append_assoc (x ++ ⟨#[c]⟩)]
theorem line_free {r : Row} (h : RowOk r) : (10 : Nat) ∉ (lineText r).cps.toList := by
  obtain ⟨s, hs, ha, h0, h1, h7⟩ := h.arg
  have h2 : (10 : Nat) ∉ (Str.ofString " ").cps.toList := by decide +kernel
  have app : ∀ {a b : Str}, (10 : Nat) ∉ a.cps.toList → (10 : Nat) ∉ b.cps.toList → (10 : Nat) ∉ (a ++ b).cps.toList := fun {a b} x y m => by
    rw [Str.cps_append, Array.toList_append] at m
    exact (List.mem_append.mp m).elim x y
  have hh : (10 : Nat) ∉ (head r).cps.toList := app (app (app (by decide +kernel) (num_free _ (.inr (.inl rfl)))) h2) (op_free hs (.inr rfl))
  unfold lineText
  rw [hs]
  by_cases e : s = "none"
  · rw [if_pos (by rw [e])]; exact hh
  · rw [if_neg fun z => e (Option.some.inj z)]
    by_cases e2 : s = "value"
    · subst e2
      rw [if_pos rfl]
      exact app (app hh h2) (val_free ha (.inr rfl))
    · rw [if_neg fun z => e2 (Option.some.inj z)]
      exact app (app hh h2) (arg_free ha e2 e (.inr rfl))
theorem lines_free {rs : List Row} (h : ∀ r ∈ rs, RowOk r) : ∀ p ∈ rs.map lineText, (10 : Nat) ∉ p.cps.toList := by
  intro p hp
  obtain ⟨r, hr, rfl⟩ := List.mem_map.mp hp
  exact line_free (h r hr)
theorem text_count {rs : List Row} (h : ∀ r ∈ rs, RowOk r) : Txt.count (codeText rs) "\n" = (rs.length : Int) := by
  rw [lf_is, count_cnt]
  have e := split_len (codeText rs) 10
  rw [codeText_eq, split_join (fun p hp => ?_) (by simp)] at e
  · rw [codeText_eq]
    simp at e
    omega
  · rcases List.mem_append.mp hp with hp | hp
    · exact lines_free h p hp
    · rw [List.mem_singleton.mp hp]; decide +kernel
theorem text_cps {rs : List Row} (hne : rs ≠ []) : (codeText rs).cps.toList = (Str.join ⟨#[10]⟩ (rs.map lineText)).cps.toList ++ [10] := by
  rw [codeText_eq, join_last 10 _ (by simpa using hne), Str.cps_append]
  simp
theorem text_ends {rs : List Row} (hne : rs ≠ []) : Txt.endswith (codeText rs) "\n" = true := by
  rw [lf_is]
  unfold Txt.endswith
  have e := text_cps hne
  have hl : (codeText rs).length = (Str.join ⟨#[10]⟩ (rs.map lineText)).cps.toList.length + 1 := by
    rw [← len_cps, e]; simp
  have := (StrLaws.subAt_one (codeText rs) 10 ((codeText rs).length - 1)).mpr (by rw [e, hl]; simp)
  rw [show (⟨#[10]⟩ : Str).length = 1 from rfl] at *
  rw [this.2]
  simp
  omega
theorem text_lines {rs : List Row} (h : ∀ r ∈ rs, RowOk r) (hne : rs ≠ []) : Txt.split (Txt.slice (codeText rs) none (some (-1))) "\n" = rs.map lineText := by
  have e := text_cps hne
  have hl : (codeText rs).length = (Str.join ⟨#[10]⟩ (rs.map lineText)).cps.toList.length + 1 := by
    rw [← len_cps, e]; simp
  rw [slice_but_last (by omega)]
  have : (⟨((codeText rs).cps.toList.take ((codeText rs).length - 1)).toArray⟩ : Str) = Str.join ⟨#[10]⟩ (rs.map lineText) := by
    refine str_ext ?_
    rw [e, hl]
    simp
  rw [this, lf_is]
  exact split_join (lines_free h) (by simpa using hne)
theorem join_length_em : ∀ ls : List Str, (Str.join Str.empty ls).length = (ls.map (·.length)).sum
  | [] => rfl
  | x :: r => by
    rw [join_em, Str.length_append, join_length_em r]
    simp
theorem text_len {rs : List Row} (h : ∀ r ∈ rs, RowOk r) (hl : rs.length ≤ 150) : (codeText rs).length ≤ 4800 := by
  unfold codeText
  show (Builtin.Str.glued "" (rs.map fed)).length ≤ _
  rw [StrLaws.glued_eq_join, em_is, join_length_em, List.map_map]
  have := sum_le ((fun x : Str => x.length) ∘ fed) 32 rs fun r hr => fed_len (h r hr)
  omega
section
variable {P : Program} {w : World} {K : PySem.W.Frag} {mg : Str → Option Value} {base : Heap}
def spLines : Sp := fun vs H Q _ => ∃ rs, vs = [.str (codeText rs)] ∧ Code rs ∧ ∀ p, H p = none → Q (.ref p) (upd H p (.lst ((rs.map lineText).map V.str)))
theorem sc43 : FnScope ["text"] ["text"] (defScope (top 43)) := ⟨rfl, rfl, rfl, by decide +kernel, rfl, by decide +kernel, by decide +kernel⟩
theorem Code.ne {rs : List Row} (h : Code rs) : rs ≠ [] := fun e => by
  have := h.lo
  rw [e] at this
  exact absurd this (by decide)
theorem fn_lines (D : HasDef K mg "written_lines" (top 43)) (G : Glo mg) : FN P w K mg base 1 "written_lines" ["text"] spLines := by
  refine FN.of D sc43 (fun _ _ _ _ _ _ us hl => match us, hl with | [_], _ => rfl) (fun vs H Q E h => by obtain ⟨rs, rfl, _⟩ := h; rfl) (fun f cdv A outer s H vs Q E hr h => ?_)
  obtain ⟨rs, rfl, hC, q⟩ := h
  refine ⟨_, pss_cons (ps_if (PW.pt (pw_or (pt_not (pt_val (pe_callB call_isinst rfl G.isinstance boot_isinstance (pa_cons (pv 0) (pa_cons (pe_ty "str" rfl G.str boot_str) pa_nil)))))
      (pw_or (pt_not (pt_val (pe_bm F.plainAttrs_str F.slot_str_endswith F.type_str_endswith mt_endswith (pv 0) (pa_cons pe_str pa_nil))))
      (pw_or1 (pt_cmpR op_gt (pe_bm F.plainAttrs_str F.slot_str_count F.type_str_count mt_count (pv 0) (pa_cons pe_str pa_nil)) (pe_const rfl G.rows) (nomark _)))))) pss_never pss_nil)
    (pss_one (ps_ret (pe_bm F.plainAttrs_str F.slot_str_split F.type_str_split mt_split (pe_slice sl_str (pv 0) po_none (po_some (pe_un un_neg pe_int))) (pa_cons pe_str pa_nil)))), ?_⟩
  have hl := text_len hC.ok hC.hi
  refine ⟨_, rfl, _, "str", _, true, rfl, .str _, rfl, _, rfl, iteF ?_⟩
  refine ⟨_, rfl, rfl, _, _, rfl, rfl, trivial, _, rfl, ?_⟩
  rw [text_ends hC.ne]
  refine iteF ⟨_, rfl, rfl, _, _, rfl, rfl, trivial, _, _, rfl, rfl, _, rfl, ?_⟩
  rw [text_count hC.ok, decide_eq_false (by have := hC.hi; omega)]
  refine iteF ?_
  refine ⟨_, rfl, 1, rfl, _, rfl, _, rfl, mill_line (by omega), rfl, _, _, rfl, rfl, by decide +kernel, ?_, ?_, ?_⟩
  · exact mill_line (Nat.le_trans (Txt.slice_le _ _ _) (by omega))
  · show (Txt.split (Txt.slice (codeText rs) none (some (-1))) "\n").length ≤ sizeLine
    rw [text_lines hC.ok hC.ne, List.length_map]
    have := hC.hi
    exact mill_line (by omega)
  · intro p hp
    show Q (.ref p) (upd H p (.lst ((Txt.split (Txt.slice (codeText rs) none (some (-1))) "\n").map V.str)))
    rw [text_lines hC.ok hC.ne]
    exact q p hp
def spReadCode : Sp := fun vs H Q _ => ∃ rs, vs = [.str (codeText rs)] ∧ Code rs ∧ ∀ l as H', Same H H' → H l = none → H' l = some (.lst (as.map V.ref)) → RowsIn H' as rs → Q (.ref l) H'
theorem sc44 : FnScope ["text", "rows", "at"] ["text"] (defScope (top 44)) := ⟨rfl, rfl, rfl, by decide +kernel, rfl, by decide +kernel, by decide +kernel⟩
theorem RowsIn.mem {H : Hp} : ∀ {as : List Addr} {rs : List Row}, RowsIn H as rs → ∀ z ∈ as.map V.ref, ∃ a ys, z = .ref a ∧ H a = some (.tup ys)
  | _, _, .nil, z, hz => by simp at hz
  | _, _, .cons h t, z, hz => by
    rw [List.map_cons] at hz
    rcases List.mem_cons.mp hz with e | hz
    · exact ⟨_, _, e, h⟩
    · exact RowsIn.mem t z hz
theorem fn_readcode (D : HasDef K mg "read_code" (top 44)) (FL : FN P w K mg base 1 "written_lines" ["text"] spLines) (FR : FN P w K mg base 7 "read_row" ["written"] spRead) (FB : FN P w K mg base 8 "first_bad_place" ["rows"] (spBad K)) :
    FN P w K mg base 9 "read_code" ["text"] spReadCode := by
  refine FN.of D sc44 (fun _ _ _ _ _ _ us hl => match us, hl with | [_], _ => rfl) (fun vs H Q E h => by obtain ⟨rs, rfl, _⟩ := h; rfl) (fun f cdv A outer s H vs Q E hr h => ?_)
  obtain ⟨rs, rfl, hC, q⟩ := h
  have hu := hu_of hr
  refine ⟨_, pss_cons (ps_setcomp (i := 1) rfl sc44.nd rfl (Or.inl rfl) ⟨by decide +kernel, by decide +kernel, rfl, by decide +kernel, rfl⟩ (pi_list (pe_fn FL (hr.mono (by decide)) rfl (pa_cons (pv 0) pa_nil)))
      (fun _ _ _ _ => pe_fn FR (hr.mono (by decide)) rfl (pa_cons (pv 0) pa_nil)))
    (pss_cons (ps_if (pt_cmpR (op_inN hu) pe_non (pv 1) rfl) pss_never pss_nil)
    (pss_cons (ps_set (i := 2) sc44.nd rfl (Or.inl rfl) (pe_fn FB hr rfl (pa_cons (pv 1) pa_nil)))
    (pss_cons (ps_if (pt_cmpR op_notN (pv 2) pe_non (nomark _)) pss_never pss_nil)
    (pss_one (ps_ret (pv 1)))))), ?_⟩
  refine ⟨_, rfl, rs, rfl, hC, fun t ht => ?_⟩
  have s1 : Same H (upd H t (.lst ((rs.map lineText).map V.str))) := same_new ht _
  have hS : SqL K (upd H t (.lst ((rs.map lineText).map V.str))) t ((rs.map lineText).map V.str) := SqL.of upd_same
  have hml : ((rs.map lineText).map V.str).length = rs.length := by rw [List.length_map, List.length_map]
  refine ⟨t, rfl, ⟨_, hS⟩, fun p hp => comp_list (K := K) (a := t) (xs := (rs.map lineText).map V.str) (fun i ys H2 => ∃ as, ys = as.map V.ref ∧ RowsIn H2 as (rs.take i) ∧ Same (upd H t (.lst ((rs.map lineText).map V.str))) H2 ∧ H2 p = some (.lst ys))
    ⟨[], rfl, by rw [List.take_zero]; exact .nil, same_new hp _, upd_same⟩ (fun i ys H2 _ ⟨_, _, _, s2, _⟩ => s2.seq hS) ?_ ?_⟩
  · rintro i x ys H2 hi ⟨as, rfl, hR, s2, hp2⟩
    obtain ⟨r, hr1, rfl⟩ : ∃ r, rs[i]? = some r ∧ x = .str (lineText r) := by
      rw [List.getElem?_map, List.getElem?_map] at hi
      cases e : rs[i]? with
      | none => rw [e] at hi; cases hi
      | some r => rw [e] at hi; exact ⟨r, rfl, (Option.some.inj hi).symm⟩
    have hil : i < rs.length := (List.getElem?_eq_some_iff.mp hr1).1
    have hro := hC.ok r (List.mem_of_getElem? hr1)
    have hlen := lineText_len hro
    have hrd := readRow_line hro
    refine ⟨_, rfl, _, rfl, by omega, fun H' s' hn => ?_, fun a r' H' ha s' hs' hT => ?_⟩
    · rw [hrd] at hn
      cases hn
    · rw [hrd] at hs'
      cases hs'
      have hal := hR.len
      rw [List.length_take] at hal
      have hpa : p ≠ a := ne_of_none hp2 ha
      refine ⟨s' _ _ hp2, by rw [List.length_map, hal]; exact small1000 (by have := hC.hi; omega), _, by omega, rfl, by omega, as ++ [a], by rw [List.map_append]; rfl, ?_, My.Same.upd (s2.trans s') hp _, upd_same⟩
      rw [take_snoc hr1]
      refine RowsIn.append ((hR.same s').keep fun b xs e => ?_) (.cons ?_ .nil)
      · rw [upd_ne fun z => by rw [z, s' _ _ hp2] at e; cases e]; exact e
      · rw [upd_ne hpa.symm]; exact hT
  · rintro ys H2 ⟨as, rfl, hR, s2, hp2⟩
    rw [hml, List.take_length] at hR
    have hp0 : H p = none := s1.free hp
    refine ⟨_, rfl, p, _, rfl, rfl, SqL.of hp2, fun z hz => .inr (hR.mem z hz), _, rfl, ?_⟩
    have e : ((as.map V.ref).any fun z => decide (z = V.non)) = false := by
      rw [List.any_eq_false]
      intro z hz
      obtain ⟨a, ha, rfl⟩ := List.mem_map.mp hz
      simp
    rw [e]
    refine iteF ⟨_, rfl, p, as, rs, rfl, SqL.of hp2, hR, hC.ok, by have := hC.hi; omega, fun H3 s3 _ => ?_, fun i r H3 s3 hi hf _ => ?_⟩
    · exact ⟨_, rfl, rfl, _, rfl, iteF ⟨_, rfl, q p as H3 (s1.trans (s2.trans s3)) hp0 (s3 _ _ hp2) (hR.same s3)⟩⟩
    · rw [hC.fit i r hi] at hf
      cases hf
end
end My

set_option Elab.async false
set_option linter.all false
set_option maxRecDepth 100000
set_option maxHeartbeats 4000000
namespace My
open PySem PySem.Spec PyProof.Rows L2
/-! ### what the law's own generator keeps -/
def Scr (K : PySem.W.Frag) (H : Hp) (a : Addr) (xs : List V) : Prop :=
  (∃ o, H a = some (.frz o (.lst xs))) ∨ ∃ (o : Obj) (its : Array Value) (n : Nat), K.lookup a = some o ∧ o.cls = .type "list" ∧ o.dict = none ∧ o.data = .seq its n ∧ its.size ≤ sizeLine ∧ Vals xs its.toList
theorem Scr.sq {K : PySem.W.Frag} {H : Hp} {a : Addr} {xs : List V} (h : Scr K H a xs) : SqL K H a xs := by
  rcases h with ⟨o, h⟩ | h
  · exact .inl (.inr ⟨o, h⟩)
  · exact .inr h
/-- all but one list stays -/
def Keep1 (H H' : Hp) (t : Addr) : Prop := ∀ b o, H b = some o → b ≠ t → H' b = some o
def Keep3 (H H' : Hp) (t r m : Addr) : Prop := ∀ b o, H b = some o → b ≠ t → b ≠ r → b ≠ m → H' b = some o
theorem Scr.keep {K : PySem.W.Frag} {H H' : Hp} {a : Addr} {xs : List V} (h : Scr K H a xs) (k : ∀ o u, H a = some (.frz o u) → H' a = some (.frz o u)) : Scr K H' a xs := by
  rcases h with ⟨o, h⟩ | h
  · exact .inl ⟨o, k _ _ h⟩
  · exact .inr h
theorem Scr.keep1 {K : PySem.W.Frag} {H H' : Hp} {a t : Addr} {xs ys : List V} (h : Scr K H a xs) (k : Keep1 H H' t) (ht : H t = some (.lst ys)) : Scr K H' a xs := h.keep fun o u e => k _ _ e (ne_of e ht nofun)
def townL (c : Nat) (cells : List Int) : List V := .int (c : Int) :: cells.map V.int
section
variable {P : Program} {w : World} {K : PySem.W.Frag} {mg : Str → Option Value} {base : Heap}
/-- _law_draw: a number below many; the town's count is one more -/
def spDraw (K : PySem.W.Frag) : Sp := fun vs H Q _ => ∃ (a t : Addr) (ns : List Int) (c : Nat) (cells : List Int) (many : Int), vs = [.ref a, .ref t, .int many] ∧ Scr K H a (ns.map V.int) ∧ ns.length ≤ 1000 ∧ cells.length = ns.length ∧ H t = some (.lst (townL c cells)) ∧ c ≤ 100000 ∧ 1 ≤ many ∧ many ≤ 1000 ∧
  ∀ (i : Int) (cells' : List Int) H', 0 ≤ i → i < many → cells'.length = ns.length → H' t = some (.lst (townL (c + 1) cells')) → Keep1 H H' t → Q (.int i) H'
theorem sc47 : FnScope ["_law_script", "_law_town_here", "_law_many", "_law_at", "_law_left", "_law_number"] ["_law_script", "_law_town_here", "_law_many"] (defScope (top 47)) := ⟨rfl, rfl, rfl, by decide +kernel, rfl, by decide +kernel, by decide +kernel⟩
theorem get_cell {cells : List Int} {i : Int} (h0 : 0 ≤ i) (h1 : i < (cells.length : Int)) (c : Nat) : ∃ z, atI (townL c cells) (1 + i) = some (.int z) := by
  obtain ⟨j, rfl⟩ := Int.eq_ofNat_of_zero_le h0
  have hj : j < cells.length := by omega
  have e : (1 : Int) + (j : Int) = ((j + 1 : Nat) : Int) := by omega
  refine ⟨cells[j], ?_⟩
  rw [e]
  refine atI_nat ?_
  unfold townL
  rw [List.getElem?_cons_succ, List.getElem?_map, List.getElem?_eq_getElem hj]
  rfl
theorem get_script {ns : List Int} {i : Int} (h0 : 0 ≤ i) (h1 : i < (ns.length : Int)) : ∃ z, atI (ns.map V.int) i = some (.int z) := by
  obtain ⟨j, rfl⟩ := Int.eq_ofNat_of_zero_le h0
  have hj : j < ns.length := by omega
  refine ⟨ns[j], atI_nat ?_⟩
  rw [List.getElem?_map, List.getElem?_eq_getElem hj]
  rfl
theorem set_cell {c : Nat} {cells : List Int} {i : Int} (h0 : 0 ≤ i) (h1 : i < (cells.length : Int)) (z : Int) : ∃ j cells', ixN (townL c cells).length (1 + i) = some j ∧ (townL c cells).set j (.int z) = townL c cells' ∧ cells'.length = cells.length := by
  obtain ⟨j, rfl⟩ := Int.eq_ofNat_of_zero_le h0
  refine ⟨j + 1, cells.set j z, ?_, ?_, by simp⟩
  · unfold ixN townL
    rw [if_pos (by omega), if_pos (by simp; omega)]
    congr 1
    omega
  · unfold townL
    rw [List.set_cons_succ, List.map_set]
theorem ix0 {c : Nat} {cells : List Int} : ixN (townL c cells).length 0 = some 0 := by
  unfold ixN townL
  rw [if_pos (by decide), if_pos (by simp <;> omega)]
  rfl
theorem fn_draw (D : HasDef K mg "_law_draw" (top 47)) (G : Glo mg) : FN P w K mg base 1 "_law_draw" ["_law_script", "_law_town_here", "_law_many"] (spDraw K) := by
  refine FN.of D sc47 (fun _ _ _ _ _ _ us hl => match us, hl with | [_, _, _], _ => rfl) (fun vs H Q E h => by obtain ⟨a, t, ns, c, cells, many, rfl, _⟩ := h; rfl) (fun f cdv A outer s H vs Q E hr h => ?_)
  obtain ⟨a, t, ns, c, cells, many, rfl, hS, hns, hcl, hT, hc, hm1, hm2, q⟩ := h
  have hu : A.units + 3 < cLine := by have := hr.units0; exact this
  refine ⟨_, pss_cons (ps_asg (pe_op op_add (pe_ix ix_list (pv 1) pe_int (fun _ _ => rfl)) pe_int) (pg_sub (pv 1) pe_int set_list))
    (pss_cons (ps_if (pt_cmpR (op_eqE (hr.units0)) (pv 0) (pe_lst pa_nil) (nomark _))
      (pss_one (ps_ret (pe_op op_mod (pe_op op_fdiv (pe_op op_mul (pe_op op_mul (pe_ix ix_list (pv 1) pe_int (fun _ _ => rfl)) (pe_ix ix_list (pv 1) pe_int (fun _ _ => rfl))) pe_int) pe_int) (pv 2)))) pss_nil)
    (pss_cons (ps_set (i := 3) sc47.nd rfl (Or.inl rfl) (pe_op op_mod (pe_ix ix_list (pv 1) pe_int (fun _ _ => rfl)) (pe_callB call_len_seq rfl G.len boot_len (pa_cons (pv 0) pa_nil))))
    (pss_cons (ps_set (i := 4) sc47.nd rfl (Or.inl rfl) (pe_ix ix_list (pv 1) (pe_op op_add pe_int (pv 3)) (fun _ _ => rfl)))
    (pss_cons (ps_if (PW.pt (pw_and (pt_cmpR op_ge (pe_ix ix_list (pv 0) (pv 3) (fun _ _ => rfl)) (pe_op op_pow pe_int pe_int) (nomark _)) (pw_and1 (pt_cmpR op_gt (pv 4) pe_int (nomark _)))))
      (pss_cons (ps_asg (pe_op op_fdiv (pv 4) (pv 2)) (pg_sub (pv 1) (pe_op op_add pe_int (pv 3)) set_list)) (pss_one (ps_ret (pe_op op_mod (pv 4) (pv 2))))) pss_nil)
    (pss_cons (ps_set (i := 5) sc47.nd rfl (Or.inl rfl) (pe_op op_mod (pe_op op_add (pe_ix ix_list (pv 0) (pv 3) (fun _ _ => rfl)) (pe_op op_mul pe_int (pe_ix ix_list (pv 1) pe_int (fun _ _ => rfl)))) pe_int))
    (pss_cons (ps_set (i := 5) sc47.nd rfl (Or.inl rfl) (pe_op op_mod (pe_op op_pow (pv 5) pe_int) pe_int))
    (pss_one (ps_ret (pe_op op_mod (pe_op op_fdiv (pe_op op_mod (pe_op op_add (pe_op op_mul (pe_op op_fdiv (pv 5) pe_int) pe_int) (pv 5)) pe_int) pe_int) (pv 2)))))))))), ?_⟩
  have hmod : ∀ x : Int, 0 ≤ x % many ∧ x % many < many := fun x => ⟨Int.emod_nonneg _ (by omega), Int.emod_lt_of_pos _ (by omega)⟩
  have cdm : CDiv 0 many := ⟨by omega, by omega⟩
  refine ⟨_, rfl, t, _, _, _, rfl, rfl, SqL.of hT, atI_nat (j := 0) rfl, _, _, rfl, rfl, ?_⟩
  refine ⟨_, rfl, t, _, _, 0, rfl, rfl, hT, ix0, ?_⟩
  have e1 : (townL c cells).set 0 (V.int ((c : Int) + 1)) = townL (c + 1) cells := by
    unfold townL
    rw [List.set_cons_zero]
    rfl
  rw [e1]
  generalize hH1 : upd H t (.lst (townL (c + 1) cells)) = H1
  have hT1 : H1 t = some (.lst (townL (c + 1) cells)) := by rw [← hH1]; exact upd_same
  have k1 : Keep1 H H1 t := fun b o e hb => by rw [← hH1, upd_ne hb]; exact e
  have hS1 := hS.keep1 k1 hT
  refine ⟨_, rfl, by show 0 ≤ sizeLine; decide, fun p hp => ?_⟩
  have s2 : Same H1 (upd H1 p (.lst [])) := same_new hp _
  have hT2 := s2 _ _ hT1
  have hS2 : Scr K (upd H1 p (.lst [])) a (ns.map V.int) := hS1.keep fun o u e => s2 _ _ e
  have k2 : Keep1 H (upd H1 p (.lst [])) t := fun b o e hb => s2 _ _ (k1 b o e hb)
  generalize hH2 : upd H1 p (.lst []) = H2 at *
  have hp2 : H2 p = some (.lst []) := by rw [← hH2]; exact upd_same
  refine ⟨a, p, _, rfl, rfl, hS2.sq, SqL.of hp2, _, rfl, ?_⟩
  refine ite2 (fun ce => ?_) (fun ce => ?_)
  · refine ⟨_, rfl, t, _, _, _, rfl, rfl, SqL.of hT2, atI_nat (j := 0) rfl, _, rfl, t, _, _, _, rfl, rfl, SqL.of hT2, atI_nat (j := 0) rfl, _, _, rfl, rfl, .inl ⟨by omega, by omega⟩, _, _, rfl, rfl, .inr ⟨by decide, by decide⟩, _, _, rfl, rfl, ⟨by decide, by decide⟩, _, rfl, _, _, rfl, rfl, by omega, ?_⟩
    exact q _ cells H2 (hmod _).1 (hmod _).2 hcl hT2 k2
  · have hne : ns ≠ [] := fun z => ce (by rw [z]; rfl)
    have hpos : 0 < ns.length := List.length_pos_iff.mpr hne
    refine ⟨_, rfl, t, _, _, _, rfl, rfl, SqL.of hT2, atI_nat (j := 0) rfl, _, rfl, a, _, rfl, .inl hS2.sq, _, _, rfl, rfl, by rw [List.length_map]; omega, ?_⟩
    rw [List.length_map]
    have a0 : 0 ≤ ((c + 1 : Nat) : Int) % (ns.length : Int) := Int.emod_nonneg _ (by omega)
    have a1 : ((c + 1 : Nat) : Int) % (ns.length : Int) < (ns.length : Int) := Int.emod_lt_of_pos _ (by omega)
    obtain ⟨z, hz⟩ := get_cell (cells := cells) a0 (by rw [hcl]; exact a1) (c + 1)
    obtain ⟨y, hy⟩ := get_script (ns := ns) a0 a1
    refine ⟨_, rfl, _, rfl, _, _, rfl, rfl, t, _, _, _, rfl, rfl, SqL.of hT2, hz, ?_⟩
    refine ⟨_, rfl, _, rfl, a, _, _, _, rfl, rfl, hS2.sq, hy, _, _, rfl, rfl, ⟨by decide, by decide, by decide⟩, _, _, rfl, rfl, _, rfl, ?_⟩
    have rest : tSeq (tAsg (tOp (rI (fun _ j => 0 < j) fun i j => .int (i % j)) (tOp (rI0 fun i j => .int (i + j)) (tOp (rIxL K) (tVar 0) (tVar 3)) (tOp (rI CMul fun i j => .int (i * j)) (tC (.int 104729)) (tOp (rIxL K) (tVar 1) (tC (.int 0))))) (tC (.int 4294967291))) (gName 5))
        (tSeq (tAsg (tOp (rI (fun _ j => 0 < j) fun i j => .int (i % j)) (tOp (rI CPow fun i j => .int (i ^ j.toNat)) (tVar 5) (tC (.int 5))) (tC (.int 4294967279))) (gName 5))
        (tRet (tOp (rI (fun _ j => 0 < j) fun i j => .int (i % j)) (tOp (rI CDiv fun i j => .int (i / j)) (tOp (rI (fun _ j => 0 < j) fun i j => .int (i % j)) (tOp (rI0 fun i j => .int (i + j)) (tOp (rI CMul fun i j => .int (i * j)) (tOp (rI CDiv fun i j => .int (i / j)) (tVar 5) (tC (.int 64))) (tC (.int 69621))) (tVar 5)) (tC (.int 4294967231))) (tC (.int 8))) (tVar 2))))
        { nx := fun _ H' => Q .non H', rt := Q } [some (.ref a), some (.ref t), some (.int many), some (.int (((c + 1 : Nat) : Int) % (ns.length : Int))), some (.int z), none] H2 := by
      refine ⟨_, rfl, _, rfl, a, _, _, _, rfl, rfl, hS2.sq, hy, _, rfl, t, _, _, _, rfl, rfl, SqL.of hT2, atI_nat (j := 0) rfl, _, _, rfl, rfl, .inl ⟨by decide, by decide⟩, _, _, rfl, rfl, _, _, rfl, rfl, (by show (0 : Int) < 4294967291; decide), ?_⟩
      have b0 : 0 ≤ (y + 104729 * ((c + 1 : Nat) : Int)) % 4294967291 := Int.emod_nonneg _ (by decide)
      have b1 : (y + 104729 * ((c + 1 : Nat) : Int)) % 4294967291 < 4294967291 := Int.emod_lt_of_pos _ (by decide)
      refine ⟨_, rfl, _, _, rfl, rfl, ⟨by decide, by decide, ?_⟩, _, _, rfl, rfl, (by show (0 : Int) < 4294967279; decide), ?_⟩
      · show ((y + 104729 * ((c + 1 : Nat) : Int)) % 4294967291).natAbs < 2 ^ 64
        omega
      refine ⟨_, rfl, _, _, rfl, rfl, ⟨by decide, by decide⟩, _, _, rfl, rfl, .inr ⟨by decide, by decide⟩, _, rfl, _, _, rfl, rfl, _, _, rfl, rfl, (by show (0 : Int) < 4294967231; decide), _, _, rfl, rfl, ⟨by decide, by decide⟩, _, rfl, _, _, rfl, rfl, by omega, ?_⟩
      exact q _ cells H2 (hmod _).1 (hmod _).2 hcl hT2 k2
    refine ite2 (fun c1 => ?_) (fun c1 => ?_)
    · refine ⟨_, rfl, _, _, rfl, rfl, _, rfl, ?_⟩
      refine ite2 (fun c2 => ?_) (fun c2 => rest)
      obtain ⟨j, cells', hj, hset, hl'⟩ := set_cell (c := c + 1) (cells := cells) a0 (by rw [hcl]; exact a1) (z / many)
      refine ⟨_, rfl, _, rfl, _, _, rfl, rfl, ⟨by omega, by omega⟩, ?_⟩
      refine ⟨_, rfl, _, rfl, _, _, rfl, rfl, t, _, _, j, rfl, rfl, hT2, hj, ?_⟩
      rw [hset]
      refine ⟨_, rfl, _, rfl, _, _, rfl, rfl, by omega, ?_⟩
      exact q _ cells' _ (hmod _).1 (hmod _).2 (hl'.trans hcl) upd_same fun b o e hb => by rw [upd_ne hb]; exact k2 b o e hb
    · exact iteF rest
end
end My

set_option Elab.async false
set_option linter.all false
set_option maxRecDepth 100000
set_option maxHeartbeats 4000000
namespace My
open PySem PySem.Spec PyProof.Rows L2
/-! ### a def with one default, None -/
def FNd (P : Program) (w : World) (K : PySem.W.Frag) (mg : Str → Option Value) (base : Heap) (k : Nat) (name : Str) (ps : List Str) (dvs : List V) (sp : Sp) : Prop :=
  ∃ f fd ds, mg name = some (.ref f) ∧ PySem.W.keepIn K (.ref f) = true ∧ Vals dvs ds ∧ Binds K fd ps ds ∧ FnOk P w K mg base CX0 k f fd ps sp
def HasDefN (K : PySem.W.Frag) (mg : Str → Option Value) (name : Str) (st : Stmt) : Prop :=
  ∃ (f T : Addr) (oc kV doc pm cdv ct : Value) (od an : Option Addr) (osl : Array (Option Value)) (to : Obj) (n : Nat), mg name = some (.ref f) ∧ PySem.W.keepIn K (.ref f) = true ∧
    K.lookup f = some ⟨oc, od, .func (PySem.W.fnOf name name (defArgs st) (defBody st) (defScope st) (.ref T) kV doc pm an cdv ct), osl⟩ ∧ PySem.W.codeIn K cdv name = true ∧ K.lookup T = some to ∧ to.data = .seq #[Value.none] n
section
variable {X : Cx} {k : Nat} {name : Str} {ps : List Str} {dvs : List V} {sp : Sp} {p pos : Pos} {e : Expr} {es : List Expr} {t : TA}
theorem pe_fnd (F : FNd X.prog X.w X.K X.mg X.base k name ps dvs sp) (hr : Room k X.A) (hg : Gl X name) (ha : PA X (e :: es) t) (hdb : (name == ("__debug__" : Str)) = false := by decide)
    (he : starEach (e :: es) X.env = (false, eval e X.env) :: starEach es X.env := by rfl) (hpl : (backTo pos (starEach es X.env)).any (·.1) = false := by rfl) :
    PE X (.Call (.Name name p) (e :: es) [] pos) (tCall sp dvs E0 t) := by
  obtain ⟨f, fd, ds, a, b, v, c, d⟩ := F
  exact pe_call d hr hg a b c v pass0 ha hdb he hpl
end
section
variable {P : Program} {w : World} {K : PySem.W.Frag} {mg : Str → Option Value} {base : Heap}
/-- _law_put: one row more -/
def spPut : Sp := fun vs H Q _ => ∃ (r : Addr) (op : Str) (x : V) (ys : List V), vs = [.ref r, .str op, x] ∧ H r = some (.lst ys) ∧ ys.length ≤ 100000 ∧
  ∀ a, H a = none → Q .non (upd (upd H a (.tup [.str op, x, .int (10 + (ys.length : Int) / 2)])) r (.lst (ys ++ [.ref a])))
theorem sc50 : FnScope ["_law_rows", "_law_op", "_law_arg"] ["_law_rows", "_law_op", "_law_arg"] (defScope (top 50)) := ⟨rfl, rfl, rfl, by decide +kernel, rfl, by decide +kernel, by decide +kernel⟩
theorem lit_line {n : Nat} (h : n ≤ 100000) : n < sizeLine := Nat.lt_of_le_of_lt h (by decide)
theorem fn_put (D : HasDefN K mg "_law_put" (top 50)) (G : Glo mg) : FNd P w K mg base 1 "_law_put" ["_law_rows", "_law_op", "_law_arg"] [] spPut ∧ FNd P w K mg base 1 "_law_put" ["_law_rows", "_law_op", "_law_arg"] [.non] spPut := by
  obtain ⟨f, T, oc, kV, doc, pm, cdv, ct, od, an, osl, to, n, m, kp, lk, hcd, lT, hT⟩ := D
  have ok : FnOk P w K mg base CX0 1 f (PySem.W.fnOf "_law_put" "_law_put" (defArgs (top 50)) (defBody (top 50)) (defScope (top 50)) (.ref T) kV doc pm an cdv ct) ["_law_rows", "_law_op", "_law_arg"] spPut := by
    refine fn_of lk hcd sc50 (fun vs H Q E h => by obtain ⟨r, op, x, ys, rfl, _⟩ := h; rfl) (fun A outer s H vs Q E hr h => ?_)
    obtain ⟨r, op, x, ys, rfl, hr1, hl, q⟩ := h
    refine ⟨_, PSs.nox (pss_one (ps_expr (pe_bm PySem.F.plainAttrs_list PySem.F.slot_list_append PySem.F.type_list_append mt_append (pv 0) (pa_cons (pe_tup (pa_cons (pv 1) (pa_cons (pv 2) (pa_cons (pe_op op_add pe_int (pe_op op_fdiv (pe_callB call_len_seq rfl G.len boot_len (pa_cons (pv 0) pa_nil)) pe_int)) pa_nil)))) pa_nil)))), ?_⟩
    refine ⟨_, rfl, .inl ⟨rfl, _, SqL.of hr1⟩, _, rfl, _, rfl, _, rfl, r, _, rfl, .inl (SqL.of hr1), _, _, rfl, rfl, ⟨by decide, by decide⟩, _, _, rfl, rfl, by show 3 ≤ sizeLine; decide, fun a ha => ?_⟩
    have nra : r ≠ a := ne_of_none hr1 ha
    exact ⟨r, ys, .ref a, rfl, rfl, by rw [upd_ne nra]; exact hr1, lit_line hl, q a ha⟩
  have b3 : Binds K (PySem.W.fnOf "_law_put" "_law_put" (defArgs (top 50)) (defBody (top 50)) (defScope (top 50)) (.ref T) kV doc pm an cdv ct) ["_law_rows", "_law_op", "_law_arg"] [] := fun s us X hl => by
    match us, hl with
    | [u1, u2, u3], _ => exact BindsTo.of_defaults (T := T) (o := to) (items := #[Value.none]) rfl (X _ _ lT) hT rfl rfl
  have b2 : Binds K (PySem.W.fnOf "_law_put" "_law_put" (defArgs (top 50)) (defBody (top 50)) (defScope (top 50)) (.ref T) kV doc pm an cdv ct) ["_law_rows", "_law_op", "_law_arg"] [.none] := fun s us X hl => by
    have hl' : us.length = 2 := by simpa using hl
    match us, hl' with
    | [u1, u2], _ => exact BindsTo.of_defaults (T := T) (o := to) (items := #[Value.none]) rfl (X _ _ lT) hT rfl rfl
  exact ⟨⟨f, _, [], m, kp, .nil, b3, ok⟩, ⟨f, _, [.none], m, kp, .cons rfl .nil, b2, ok⟩⟩
/-- _law_mark: the next mark -/
def marksL (k : Nat) : List V := (List.range k).map fun i : Nat => V.int (i : Int)
theorem marksL_succ (k : Nat) : marksL k ++ [.int (k : Int)] = marksL (k + 1) := by
  unfold marksL
  rw [List.range_succ, List.map_append]
  rfl
theorem marksL_len (k : Nat) : (marksL k).length = k := by unfold marksL; simp
def spMk : Sp := fun vs H Q _ => ∃ (m : Addr) (k : Nat), vs = [.ref m] ∧ H m = some (.lst (marksL k)) ∧ k ≤ 100000 ∧ Q (.int (k : Int)) (upd H m (.lst (marksL (k + 1))))
theorem sc51 : FnScope ["_law_marks"] ["_law_marks"] (defScope (top 51)) := ⟨rfl, rfl, rfl, by decide +kernel, rfl, by decide +kernel, by decide +kernel⟩
theorem fn_mk (D : HasDef K mg "_law_mark" (top 51)) (G : Glo mg) : FN P w K mg base 1 "_law_mark" ["_law_marks"] spMk := by
  refine FN.of D sc51 (fun _ _ _ _ _ _ us hl => match us, hl with | [_], _ => rfl) (fun vs H Q E h => by obtain ⟨m, k, rfl, _⟩ := h; rfl) (fun f cdv A outer s H vs Q E hr h => ?_)
  obtain ⟨m, k, rfl, hm, hk, q⟩ := h
  refine ⟨_, pss_cons (ps_expr (pe_bm PySem.F.plainAttrs_list PySem.F.slot_list_append PySem.F.type_list_append mt_append (pv 0) (pa_cons (pe_callB call_len_seq rfl G.len boot_len (pa_cons (pv 0) pa_nil)) pa_nil)))
    (pss_one (ps_ret (pe_ix ix_list (pv 0) (pe_un un_neg pe_int) (fun _ _ => rfl)))), ?_⟩
  refine ⟨_, rfl, .inl ⟨rfl, _, SqL.of hm⟩, _, rfl, m, _, rfl, .inl (SqL.of hm), m, _, _, rfl, rfl, hm, by rw [marksL_len]; exact lit_line hk, ?_⟩
  rw [marksL_len, marksL_succ]
  refine ⟨_, rfl, 1, rfl, m, _, _, .int (k : Int), rfl, rfl, SqL.of upd_same, ?_, q⟩
  rw [← marksL_succ]
  exact atI_last _ _
/-- _law_pick: one of a list -/
def spPick (K : PySem.W.Frag) : Sp := fun vs H Q _ => ∃ (a t p : Addr) (ns : List Int) (c : Nat) (cells : List Int) (xs : List V), vs = [.ref a, .ref t, .ref p] ∧ Scr K H a (ns.map V.int) ∧ ns.length ≤ 1000 ∧ cells.length = ns.length ∧ H t = some (.lst (townL c cells)) ∧ c ≤ 100000 ∧ H p = some (.lst xs) ∧ p ≠ t ∧ 1 ≤ xs.length ∧ xs.length ≤ 1000 ∧
  ∀ (v : V) (cells' : List Int) H', v ∈ xs → cells'.length = ns.length → H' t = some (.lst (townL (c + 1) cells')) → Keep1 H H' t → Q v H'
theorem sc48 : FnScope ["_law_script", "_law_town_here", "_law_some"] ["_law_script", "_law_town_here", "_law_some"] (defScope (top 48)) := ⟨rfl, rfl, rfl, by decide +kernel, rfl, by decide +kernel, by decide +kernel⟩
theorem fn_pick (D : HasDef K mg "_law_pick" (top 48)) (G : Glo mg) (FD : FN P w K mg base 1 "_law_draw" ["_law_script", "_law_town_here", "_law_many"] (spDraw K)) : FN P w K mg base 2 "_law_pick" ["_law_script", "_law_town_here", "_law_some"] (spPick K) := by
  refine FN.of D sc48 (fun _ _ _ _ _ _ us hl => match us, hl with | [_, _, _], _ => rfl) (fun vs H Q E h => by obtain ⟨a, t, p, ns, c, cells, xs, rfl, _⟩ := h; rfl) (fun f cdv A outer s H vs Q E hr h => ?_)
  obtain ⟨a, t, p, ns, c, cells, xs, rfl, hS, hns, hcl, hT, hc, hp, hpt, hx1, hx2, q⟩ := h
  refine ⟨_, pss_one (ps_ret (pe_ix ix_list (pv 2) (pe_fn FD hr rfl (pa_cons (pv 0) (pa_cons (pv 1) (pa_cons (pe_callB call_len_seq rfl G.len boot_len (pa_cons (pv 2) pa_nil)) pa_nil)))) (fun _ _ => rfl))), ?_⟩
  refine ⟨_, rfl, _, rfl, _, rfl, _, rfl, p, _, rfl, .inl (SqL.of hp), a, t, ns, c, cells, _, rfl, hS, hns, hcl, hT, hc, by omega, by omega, fun i cells' H' h0 h1 hl' hT' k' => ?_⟩
  obtain ⟨j, rfl⟩ := Int.eq_ofNat_of_zero_le h0
  have hj : j < xs.length := by omega
  exact ⟨p, _, _, xs[j], rfl, rfl, SqL.of (k' p _ hp hpt), atI_nat (List.getElem?_eq_getElem hj), q _ cells' H' (List.getElem_mem hj) hl' hT' k'⟩
/-- _law_const: a value that push can have -/
def spConst (K : PySem.W.Frag) : Sp := fun vs H Q _ => ∃ (a t : Addr) (ns : List Int) (c : Nat) (cells : List Int), vs = [.ref a, .ref t] ∧ Scr K H a (ns.map V.int) ∧ ns.length ≤ 1000 ∧ cells.length = ns.length ∧ H t = some (.lst (townL c cells)) ∧ c ≤ 100000 ∧
  ∀ (v : V) (cells' : List Int) H', pushedV v = true → cells'.length = ns.length → H' t = some (.lst (townL (c + 1) cells')) → Keep1 H H' t → Q v H'
theorem sc49 : FnScope ["_law_script", "_law_town_here"] ["_law_script", "_law_town_here"] (defScope (top 49)) := ⟨rfl, rfl, rfl, by decide +kernel, rfl, by decide +kernel, by decide +kernel⟩
theorem consts_ok : ∀ v ∈ ([.int 0, .int 1, .int 2, .int 3, .int (-4), .int 7, .int (10 ^ (9 : Int).toNat), .bl true, .bl false, .non, .str "Oops", .str "Zero"] : List V), pushedV v = true := by decide +kernel
theorem fn_const (D : HasDef K mg "_law_const" (top 49)) (FP : FN P w K mg base 2 "_law_pick" ["_law_script", "_law_town_here", "_law_some"] (spPick K)) : FN P w K mg base 3 "_law_const" ["_law_script", "_law_town_here"] (spConst K) := by
  refine FN.of D sc49 (fun _ _ _ _ _ _ us hl => match us, hl with | [_, _], _ => rfl) (fun vs H Q E h => by obtain ⟨a, t, ns, c, cells, rfl, _⟩ := h; rfl) (fun f cdv A outer s H vs Q E hr h => ?_)
  obtain ⟨a, t, ns, c, cells, rfl, hS, hns, hcl, hT, hc, q⟩ := h
  refine ⟨_, pss_one (ps_ret (pe_fn FP hr rfl (pa_cons (pv 0) (pa_cons (pv 1) (pa_cons (pe_lst (pa_cons pe_int (pa_cons pe_int (pa_cons pe_int (pa_cons pe_int (pa_cons (pe_un un_neg pe_int) (pa_cons pe_int (pa_cons (pe_op op_pow pe_int pe_int) (pa_cons pe_bl (pa_cons pe_bl (pa_cons pe_non (pa_cons pe_str (pa_cons pe_str pa_nil))))))))))))) pa_nil))))), ?_⟩
  refine ⟨_, rfl, _, rfl, 4, rfl, _, _, rfl, rfl, ⟨by decide, by decide, by decide⟩, by show 12 ≤ sizeLine; decide, fun p hp => ?_⟩
  have s1 := same_new hp (.lst [.int 0, .int 1, .int 2, .int 3, .int (-4), .int 7, .int (10 ^ (9 : Int).toNat), .bl true, .bl false, .non, .str "Oops", .str "Zero"])
  refine ⟨a, t, p, ns, c, cells, _, rfl, hS.keep fun o u e => s1 _ _ e, hns, hcl, s1 _ _ hT, hc, upd_same, (ne_of_none hT hp).symm, by show 1 ≤ 12; decide, by show 12 ≤ 1000; decide, fun v cells' H' hv hl' hT' k' => ?_⟩
  exact q v cells' H' (consts_ok v hv) hl' hT' fun b o e hb => k' b o (s1 _ _ e) hb
end
end My

set_option Elab.async false
set_option linter.all false
set_option maxRecDepth 100000
set_option maxHeartbeats 4000000
namespace My
open PySem PySem.Spec PyProof.Rows L2
/-! ### the places of the generator's lists, and what it has done so far -/
structure Pl where
  a : Addr
  t : Addr
  r : Addr
  m : Addr
  ns : List Int
structure GS (K : PySem.W.Frag) (H : Hp) (p : Pl) (c : Nat) (rs : List Row) (k : Nat) : Prop where
  scr : Scr K H p.a (p.ns.map V.int)
  nsl : p.ns.length ≤ 1000
  town : ∃ cells : List Int, cells.length = p.ns.length ∧ H p.t = some (.lst (townL c cells))
  rows : ∃ as, H p.r = some (.lst (as.map V.ref)) ∧ RowsIn H as rs
  marks : H p.m = some (.lst (marksL k))
  tr : p.t ≠ p.r
  tm : p.t ≠ p.m
  rm : p.r ≠ p.m
structure Step (K : PySem.W.Frag) (H H' : Hp) (p : Pl) (c : Nat) (rs : List Row) (k : Nat) (c' : Nat) (new : List Row) (k' B : Nat) : Prop where
  gs : GS K H' p c' (rs ++ new) k'
  c1 : c ≤ c'
  c2 : c' ≤ c + B
  n : new.length ≤ B
  k1 : k ≤ k'
  k2 : k' ≤ k + B
  keep : Keep3 H H' p.t p.r p.m
section
variable {K : PySem.W.Frag} {H H' H1 H2 : Hp} {p : Pl} {c c1 c2 k k1 k2 B B1 B2 : Nat} {rs n1 n2 : List Row}
theorem Step.trans (s : Step K H H1 p c rs k c1 n1 k1 B1) (u : Step K H1 H2 p c1 (rs ++ n1) k1 c2 n2 k2 B2) : Step K H H2 p c rs k c2 (n1 ++ n2) k2 (B1 + B2) where
  gs := by have := u.gs; rw [List.append_assoc] at this; exact this
  c1 := Nat.le_trans s.c1 u.c1
  c2 := by have := s.c2; have := u.c2; omega
  n := by have := s.n; have := u.n; rw [List.length_append]; omega
  k1 := Nat.le_trans s.k1 u.k1
  k2 := by have := s.k2; have := u.k2; omega
  keep := fun b o e h1 h2 h3 => u.keep b o (s.keep b o e h1 h2 h3) h1 h2 h3
theorem Step.more (s : Step K H H1 p c rs k c1 n1 k1 B1) (h : B1 ≤ B2) : Step K H H1 p c rs k c1 n1 k1 B2 :=
  ⟨s.gs, s.c1, by have := s.c2; omega, by have := s.n; omega, s.k1, by have := s.k2; omega, s.keep⟩
theorem GS.refl (g : GS K H p c rs k) : Step K H H p c rs k c [] k 0 :=
  ⟨by rw [List.append_nil]; exact g, Nat.le_refl _, Nat.le_refl _, Nat.le_refl _, Nat.le_refl _, Nat.le_refl _, fun _ _ e _ _ _ => e⟩
theorem GS.same (g : GS K H p c rs k) (s : Same H H') : GS K H' p c rs k := by
  obtain ⟨cells, h1, h2⟩ := g.town
  obtain ⟨as, h3, h4⟩ := g.rows
  exact ⟨g.scr.keep fun _ _ e => s _ _ e, g.nsl, ⟨cells, h1, s _ _ h2⟩, ⟨as, s _ _ h3, h4.same s⟩, s _ _ g.marks, g.tr, g.tm, g.rm⟩
theorem GS.draw (g : GS K H p c rs k) {cells' : List Int} (hl : cells'.length = p.ns.length) (hT : H' p.t = some (.lst (townL (c + 1) cells'))) (kp : Keep1 H H' p.t) : Step K H H' p c rs k (c + 1) [] k 1 := by
  obtain ⟨cells, h1, h2⟩ := g.town
  obtain ⟨as, h3, h4⟩ := g.rows
  refine ⟨?_, by omega, by omega, by simp, Nat.le_refl _, by omega, fun b o e h1 _ _ => kp b o e h1⟩
  rw [List.append_nil]
  exact ⟨g.scr.keep1 kp h2, g.nsl, ⟨cells', hl, hT⟩, ⟨as, kp _ _ h3 g.tr.symm, h4.keep fun b xs e => kp b _ e (ne_of e h2 nofun)⟩, kp _ _ g.marks g.tm.symm, g.tr, g.tm, g.rm⟩
theorem GS.put (g : GS K H p c rs k) {x : Addr} (hx : H x = none) {op : Str} {v : V} {as : List Addr} (h3 : H p.r = some (.lst (as.map V.ref))) (h4 : RowsIn H as rs) {l : Int} :
    Step K H (upd (upd H x (.tup [.str op, v, .int l])) p.r (.lst (as.map V.ref ++ [.ref x]))) p c rs k c [⟨op, v, l⟩] k 1 := by
  obtain ⟨cells, h1, h2⟩ := g.town
  have nr : ∀ b o, H b = some o → b ≠ x := fun b o e => ne_of_none e hx
  have kp : ∀ b o, H b = some o → b ≠ p.r → (upd (upd H x (.tup [.str op, v, .int l])) p.r (.lst (as.map V.ref ++ [.ref x]))) b = some o := fun b o e hb => by rw [upd_ne hb, upd_ne (nr b o e)]; exact e
  have xr : x ≠ p.r := (nr _ _ h3).symm
  refine ⟨⟨g.scr.keep fun o u e => kp _ _ e (ne_of e h3 nofun), g.nsl, ⟨cells, h1, kp _ _ h2 g.tr⟩, ⟨as ++ [x], by rw [List.map_append]; exact upd_same, ?_⟩, kp _ _ g.marks g.rm.symm, g.tr, g.tm, g.rm⟩, Nat.le_refl _, by omega, by simp, Nat.le_refl _, by omega, fun b o e _ h2 _ => kp b o e h2⟩
  refine RowsIn.append (h4.keep fun b xs e => kp b _ e (ne_of e h3 nofun)) (.cons ?_ .nil)
  rw [upd_ne xr, upd_same]
  rfl
theorem GS.mk' (g : GS K H p c rs k) : Step K H (upd H p.m (.lst (marksL (k + 1)))) p c rs k c [] (k + 1) 1 := by
  obtain ⟨cells, h1, h2⟩ := g.town
  obtain ⟨as, h3, h4⟩ := g.rows
  have kp : ∀ b o, H b = some o → b ≠ p.m → (upd H p.m (.lst (marksL (k + 1)))) b = some o := fun b o e hb => by rw [upd_ne hb]; exact e
  refine ⟨?_, Nat.le_refl _, by omega, by simp, by omega, Nat.le_refl _, fun b o e _ _ h3 => kp b o e h3⟩
  rw [List.append_nil]
  exact ⟨g.scr.keep fun o u e => kp _ _ e (ne_of e g.marks nofun), g.nsl, ⟨cells, h1, kp _ _ h2 g.tm⟩, ⟨as, kp _ _ h3 g.rm, h4.keep fun b xs e => kp b _ e (ne_of e g.marks nofun)⟩, upd_same, g.tr, g.tm, g.rm⟩
/-! what the small defs ask, from the state -/
theorem rd_draw (g : GS K H p c rs k) (hc : c ≤ 100000) {many : Int} (h1 : 1 ≤ many) (h2 : many ≤ 1000) {Q : VK} {E : XK} (h : ∀ i H', 0 ≤ i → i < many → Step K H H' p c rs k (c + 1) [] k 1 → Q (.int i) H') : spDraw K [.ref p.a, .ref p.t, .int many] H Q E := by
  obtain ⟨cells, e1, e2⟩ := g.town
  exact ⟨p.a, p.t, p.ns, c, cells, many, rfl, g.scr, g.nsl, e1, e2, hc, h1, h2, fun i cells' H' a b l t kp => h i H' a b (g.draw l t kp)⟩
theorem rd_pick (g : GS K H p c rs k) (hc : c ≤ 100000) {q : Addr} (hq : H q = none) {xs : List V} (h1 : 1 ≤ xs.length) (h2 : xs.length ≤ 1000) {Q : VK} {E : XK} (h : ∀ v H', v ∈ xs → Step K H H' p c rs k (c + 1) [] k 1 → Q v H') :
    spPick K [.ref p.a, .ref p.t, .ref q] (upd H q (.lst xs)) Q E := by
  have s1 := same_new hq (.lst xs)
  have g1 := g.same s1
  obtain ⟨cells, e1, e2⟩ := g1.town
  obtain ⟨cells0, _, e20⟩ := g.town
  exact ⟨p.a, p.t, q, p.ns, c, cells, xs, rfl, g1.scr, g1.nsl, e1, e2, hc, upd_same, (ne_of_none e20 hq).symm, h1, h2, fun v cells' H' hv l t kp => h v H' hv (g.draw l t fun b o e hb => kp b o (s1 _ _ e) hb)⟩
theorem rd_const (g : GS K H p c rs k) (hc : c ≤ 100000) {Q : VK} {E : XK} (h : ∀ v H', pushedV v = true → Step K H H' p c rs k (c + 1) [] k 1 → Q v H') : spConst K [.ref p.a, .ref p.t] H Q E := by
  obtain ⟨cells, e1, e2⟩ := g.town
  exact ⟨p.a, p.t, p.ns, c, cells, rfl, g.scr, g.nsl, e1, e2, hc, fun v cells' H' hv l t kp => h v H' hv (g.draw l t kp)⟩
theorem rd_put (g : GS K H p c rs k) (hl : rs.length ≤ 100000) {op : Str} {v : V} {Q : VK} {E : XK} (h : ∀ H', Step K H H' p c rs k c [⟨op, v, 10 + (rs.length : Int) / 2⟩] k 1 → Q .non H') : spPut [.ref p.r, .str op, v] H Q E := by
  obtain ⟨as, h3, h4⟩ := g.rows
  have e : (as.map V.ref).length = rs.length := by rw [List.length_map]; exact h4.len
  refine ⟨p.r, op, v, _, rfl, h3, by omega, fun x hx => ?_⟩
  rw [e]
  exact h _ (g.put hx h3 h4)
theorem rd_mk (g : GS K H p c rs k) (hk : k ≤ 100000) {Q : VK} {E : XK} (h : ∀ H', Step K H H' p c rs k c [] (k + 1) 1 → Q (.int (k : Int)) H') : spMk [.ref p.m] H Q E := ⟨p.m, k, rfl, g.marks, hk, h _ g.mk'⟩
end
/-! ### rows that are well, but for the size of their marks -/
def RowG (r : Row) : Prop := ∃ s, sortOf r.op = some s ∧ 0 ≤ r.line ∧ r.line ≤ 9999 ∧ ((s = "mark" ∧ ∃ m : Nat, r.arg = .int (m : Int)) ∨ (s ≠ "mark" ∧ fitsV s r.arg = true))
def isLab (m : Nat) (r : Row) : Bool := decide (r.op = "label") && decide (r.arg = .int (m : Int))
def isUse (m : Nat) (r : Row) : Bool := decide (sortOf r.op = some ("mark" : Str)) && decide (r.op ≠ "label") && decide (r.arg = .int (m : Int))
def lab (m : Nat) (l : List Row) : Nat := l.countP (isLab m)
def use (m : Nat) (l : List Row) : Nat := l.countP (isUse m)
theorem lab_app (m : Nat) (a b : List Row) : lab m (a ++ b) = lab m a + lab m b := List.countP_append
theorem use_app (m : Nat) (a b : List Row) : use m (a ++ b) = use m a + use m b := List.countP_append
structure Good (k k' : Nat) (l : List Row) : Prop where
  row : ∀ r ∈ l, RowG r
  lab1 : ∀ m, lab m l ≤ 1
  labI : ∀ m, lab m l ≠ 0 → k ≤ m ∧ m < k'
  useI : ∀ m, use m l ≠ 0 → lab m l ≠ 0
theorem Good.nil (k : Nat) : Good k k [] := ⟨(fun _ h => by cases h), fun _ => Nat.zero_le _, fun _ h => absurd rfl h, fun _ h => absurd rfl h⟩
theorem Good.app {k k1 k2 : Nat} {a b : List Row} (x : Good k k1 a) (y : Good k1 k2 b) (h1 : k ≤ k1) (h2 : k1 ≤ k2) : Good k k2 (a ++ b) := by
  refine ⟨fun r hr => (List.mem_append.mp hr).elim (x.row r) (y.row r), fun m => ?_, fun m h => ?_, fun m h => ?_⟩
  · have := x.lab1 m; have := y.lab1 m; have := x.labI m; have := y.labI m
    rw [lab_app]; omega
  · have := x.labI m; have := y.labI m
    rw [lab_app] at h; omega
  · have := x.useI m; have := y.useI m
    rw [use_app] at h
    rw [lab_app]; omega
/-- a row without a mark -/
def Bare (op : Str) (v : V) : Prop := ∃ s, sortOf op = some s ∧ s ≠ "mark" ∧ fitsV s v = true
theorem Bare.noLab {op : Str} {v : V} (h : Bare op v) (m : Nat) (l : Int) : lab m [⟨op, v, l⟩] = 0 := by
  obtain ⟨s, hs, hm, _⟩ := h
  have : op ≠ "label" := fun z => hm (by rw [z, label_sort] at hs; exact (Option.some.inj hs).symm)
  unfold lab
  rw [List.countP_singleton]
  have : isLab m ⟨op, v, l⟩ = false := by unfold isLab; simp [this]
  rw [this]
  rfl
theorem Bare.noUse {op : Str} {v : V} (h : Bare op v) (m : Nat) (l : Int) : use m [⟨op, v, l⟩] = 0 := by
  obtain ⟨s, hs, hm, _⟩ := h
  unfold use
  rw [List.countP_singleton]
  have : isUse m ⟨op, v, l⟩ = false := by
    unfold isUse
    rw [hs]
    have : ¬ (some s = some ("mark" : Str)) := fun z => hm (Option.some.inj z)
    simp [this]
  rw [this]
  rfl
theorem Bare.rowG {op : Str} {v : V} (h : Bare op v) {l : Int} (h0 : 0 ≤ l) (h1 : l ≤ 9999) : RowG ⟨op, v, l⟩ := by
  obtain ⟨s, hs, hm, hf⟩ := h
  exact ⟨s, hs, h0, h1, .inr ⟨hm, hf⟩⟩
theorem Bare.good {op : Str} {v : V} (h : Bare op v) {l : Int} (h0 : 0 ≤ l) (h1 : l ≤ 9999) (k : Nat) : Good k k [⟨op, v, l⟩] :=
  ⟨fun r hr => by rw [List.mem_singleton.mp hr]; exact h.rowG h0 h1, fun m => by rw [h.noLab]; exact Nat.zero_le _, fun m z => absurd (h.noLab m l) z, fun m z => absurd (h.noUse m l) z⟩
/-- a row with a mark that is no label -/
def Uses (op : Str) : Prop := sortOf op = some ("mark" : Str) ∧ op ≠ "label"
theorem Uses.noLab {op : Str} (h : Uses op) (m : Nat) (v : V) (l : Int) : lab m [⟨op, v, l⟩] = 0 := by
  unfold lab
  rw [List.countP_singleton]
  have : isLab m ⟨op, v, l⟩ = false := by unfold isLab; simp [h.2]
  rw [this]
  rfl
def ind (m j : Nat) : Nat := if m = j then 1 else 0
theorem ind_or (m j : Nat) : (m = j ∧ ind m j = 1) ∨ (m ≠ j ∧ ind m j = 0) := by
  unfold ind
  by_cases e : m = j <;> simp [e]
theorem Uses.use {op : Str} (h : Uses op) (m j : Nat) (l : Int) : use m [⟨op, .int (j : Int), l⟩] = ind m j := by
  unfold My.use ind
  rw [List.countP_singleton]
  have : isUse m ⟨op, .int (j : Int), l⟩ = decide (m = j) := by
    unfold isUse
    rw [h.1]
    have : (V.int (j : Int) = V.int (m : Int)) ↔ m = j := ⟨fun z => by injection z with z; omega, fun z => by rw [z]⟩
    simp [h.2, this]
  rw [this]
  by_cases e : m = j <;> simp [e]
theorem Uses.rowG {op : Str} (h : Uses op) {j : Nat} {l : Int} (h0 : 0 ≤ l) (h1 : l ≤ 9999) : RowG ⟨op, .int (j : Int), l⟩ := ⟨"mark", h.1, h0, h1, .inl ⟨rfl, j, rfl⟩⟩
theorem lab_lab (m j : Nat) (l : Int) : lab m [⟨"label", .int (j : Int), l⟩] = ind m j := by
  unfold lab ind
  rw [List.countP_singleton]
  have : isLab m ⟨"label", .int (j : Int), l⟩ = decide (m = j) := by
    unfold isLab
    have : (V.int (j : Int) = V.int (m : Int)) ↔ m = j := ⟨fun z => by injection z with z; omega, fun z => by rw [z]⟩
    simp [this]
  rw [this]
  by_cases e : m = j <;> simp [e]
theorem use_lab (m : Nat) (v : V) (l : Int) : use m [⟨"label", v, l⟩] = 0 := by
  unfold use
  rw [List.countP_singleton]
  have : isUse m ⟨"label", v, l⟩ = false := by unfold isUse; simp
  rw [this]
  rfl
theorem lab_rowG {j : Nat} {l : Int} (h0 : 0 ≤ l) (h1 : l ≤ 9999) : RowG ⟨"label", .int (j : Int), l⟩ := ⟨"mark", label_sort, h0, h1, .inl ⟨rfl, j, rfl⟩⟩
def bV : Nat → Nat
  | 0 => 3
  | d + 1 => 2 * bV d + 25
theorem bV_pos : ∀ d, 3 ≤ bV d
  | 0 => Nat.le_refl _
  | d + 1 => by have := bV_pos d; show 3 ≤ 2 * bV d + 25; omega
theorem lab_nil (m : Nat) : lab m [] = 0 := rfl
theorem use_nil (m : Nat) : use m [] = 0 := rfl
def AllG (l : List Row) : Prop := ∀ r ∈ l, RowG r
theorem AllG.nil : AllG [] := fun _ h => by cases h
theorem AllG.app {a b : List Row} (x : AllG a) (y : AllG b) : AllG (a ++ b) := fun r hr => (List.mem_append.mp hr).elim (x r) (y r)
theorem AllG.one {r : Row} (h : RowG r) : AllG [r] := fun x hx => by rw [List.mem_singleton.mp hx]; exact h
theorem u_try : Uses "try" := ⟨by decide +kernel, by decide +kernel⟩
theorem u_jump : Uses "jump" := ⟨by decide +kernel, by decide +kernel⟩
theorem u_iff : Uses "iffalse" := ⟨by decide +kernel, by decide +kernel⟩
theorem u_ift : Uses "iftrue" := ⟨by decide +kernel, by decide +kernel⟩
theorem u_ort : Uses "ortrue" := ⟨by decide +kernel, by decide +kernel⟩
theorem u_orf : Uses "orfalse" := ⟨by decide +kernel, by decide +kernel⟩
theorem b_none {op : Str} (h : sortOf op = some ("none" : Str)) : Bare op .non := ⟨"none", h, by decide +kernel, by decide +kernel⟩
theorem b_end : Bare "endtry" .non := b_none (by decide +kernel)
theorem b_drop : Bare "drop" .non := b_none (by decide +kernel)
theorem b_tell : Bare "tell" .non := b_none (by decide +kernel)
theorem b_same : Bare "same" .non := b_none (by decide +kernel)
theorem b_raise : Bare "raise" .non := b_none (by decide +kernel)
theorem b_return : Bare "return" .non := b_none (by decide +kernel)
theorem b_push {v : V} (h : pushedV v = true) : Bare "push" v := ⟨"value", by decide +kernel, by decide +kernel, by unfold fitsV; rw [if_pos rfl]; exact h⟩
theorem b_load {v : V} (h : v ∈ ([.str "a", .str "b", .str "c"] : List V)) : Bare "load" v := ⟨"name", by decide +kernel, by decide +kernel, by revert v; decide +kernel⟩
theorem b_store {v : V} (h : v ∈ ([.str "a", .str "b", .str "c"] : List V)) : Bare "store" v := ⟨"name", by decide +kernel, by decide +kernel, by revert v; decide +kernel⟩
theorem b_clear {v : V} (h : v ∈ ([.str "b", .str "c"] : List V)) : Bare "clear" v := ⟨"name", by decide +kernel, by decide +kernel, by revert v; decide +kernel⟩
theorem fits_within {s : Str} {i lo hi : Int} (h : ∀ x, fitsV s x = within x lo hi) (h0 : lo ≤ i) (h1 : i ≤ hi) : fitsV s (.int i) = true := by
  rw [h]
  show (decide (lo ≤ i) && decide (i ≤ hi)) = true
  rw [decide_eq_true h0, decide_eq_true h1]
  rfl
theorem b_swap {i : Int} (h0 : 2 ≤ i) (h1 : i ≤ 9) : Bare "swap" (.int i) := ⟨"swapped", by decide +kernel, by decide +kernel, fits_within (fun x => by
  unfold fitsV; rw [if_neg (by decide +kernel), if_neg (by decide +kernel), if_neg (by decide +kernel), if_pos rfl]; rfl) h0 h1⟩
theorem b_copy {i : Int} (h0 : 1 ≤ i) (h1 : i ≤ 9) : Bare "copy" (.int i) := ⟨"copied", by decide +kernel, by decide +kernel, fits_within (fun x => by
  unfold fitsV; rw [if_neg (by decide +kernel), if_neg (by decide +kernel), if_pos rfl]; rfl) h0 h1⟩
end My

set_option Elab.async false
set_option linter.all false
set_option maxRecDepth 100000
set_option maxHeartbeats 4000000
namespace My
open PySem PySem.Spec PyProof.Rows L2
section
variable {K : PySem.W.Frag} {H H' H1 H2 : Hp} {p : Pl} {c c1 c2 k k1 k2 B B1 B2 : Nat} {rs n1 n2 : List Row}
theorem Step.tick (s : Step K H H1 p c rs k c1 n1 k1 B1) (u : Step K H1 H2 p c1 (rs ++ n1) k1 c2 [] k2 B2) : Step K H H2 p c rs k c2 n1 k2 (B1 + B2) := by
  have := s.trans u
  rw [List.append_nil] at this
  exact this
theorem Step.len (s : Step K H H1 p c rs k c1 n1 k1 B1) : (rs ++ n1).length ≤ rs.length + B1 := by
  have := s.n
  rw [List.length_append]
  omega
end
/-- what a def of the generator promises: rows put behind, the bound B, by e the last argument; C what is asked of e -/
def spGen (K : PySem.W.Frag) (C : Int → Nat → Prop) : Sp := fun vs H Q _ => ∃ (p : Pl) (c : Nat) (rs : List Row) (k : Nat) (e : Int) (B : Nat), vs = [.ref p.a, .ref p.t, .ref p.r, .ref p.m, .int e] ∧ C e B ∧ GS K H p c rs k ∧ c + B ≤ 15000 ∧ rs.length + B ≤ 15000 ∧ k + B ≤ 15000 ∧
  ∀ c' new k' H', Step K H H' p c rs k c' new k' B → Good k k' new → Q .non H'
theorem spGen_len {K : PySem.W.Frag} {C : Int → Nat → Prop} (vs : List V) (H : Hp) (Q : VK) (E : XK) (h : spGen K C vs H Q E) : vs.length = 5 := by
  obtain ⟨p, c, rs, k, e, B, rfl, _⟩ := h
  rfl
/-- _law_value, with fuel n -/
def CV (n : Nat) (e : Int) (B : Nat) : Prop := ∃ d : Nat, e = (d : Int) ∧ d < n ∧ B = bV d
def CTV (n : Nat) (e : Int) (B : Nat) : Prop := ∃ d : Nat, e = (d : Int) + 1 ∧ d < n ∧ B = bV d + 7
def CMV (n : Nat) (_ : Int) (B : Nat) : Prop := 0 < n ∧ B = 30
abbrev gps : List Str := ["_law_script", "_law_town_here", "_law_rows", "_law_marks", "_law_deep"]
theorem line_ok {n : Nat} (h : n ≤ 15000) : (0 : Int) ≤ 10 + (n : Int) / 2 ∧ 10 + (n : Int) / 2 ≤ 9999 := by omega
section
variable {P : Program} {w : World} {K : PySem.W.Frag} {mg : Str → Option Value} {base : Heap}
/-- the small defs of the generator -/
structure Smalls (P : Program) (w : World) (K : PySem.W.Frag) (mg : Str → Option Value) (base : Heap) : Prop where
  draw : FN P w K mg base 1 "_law_draw" ["_law_script", "_law_town_here", "_law_many"] (spDraw K)
  pick : FN P w K mg base 2 "_law_pick" ["_law_script", "_law_town_here", "_law_some"] (spPick K)
  const : FN P w K mg base 3 "_law_const" ["_law_script", "_law_town_here"] (spConst K)
  put3 : FNd P w K mg base 1 "_law_put" ["_law_rows", "_law_op", "_law_arg"] [] spPut
  put2 : FNd P w K mg base 1 "_law_put" ["_law_rows", "_law_op", "_law_arg"] [.non] spPut
  mark : FN P w K mg base 1 "_law_mark" ["_law_marks"] spMk
theorem sc53 : FnScope ["_law_script", "_law_town_here", "_law_rows", "_law_marks", "_law_deep", "_law_mark_here", "_law_end"] gps (defScope (top 53)) := ⟨rfl, rfl, rfl, by decide +kernel, rfl, by decide +kernel, by decide +kernel⟩
theorem fn_tv {n : Nat} (D : HasDef K mg "_law_tried_value" (top 53)) (S : Smalls P w K mg base) (FV : FN P w K mg base (3 + 2 * n) "_law_value" gps (spGen K (CV n))) : FN P w K mg base (4 + 2 * n) "_law_tried_value" gps (spGen K (CTV n)) := by
  have := FN.of (k := 3 + 2 * n) (sp := spGen K (CTV n)) (P := P) (w := w) (base := base) D sc53 (fun _ _ _ _ _ _ us hl => match us, hl with | [_, _, _, _, _], _ => rfl) spGen_len (fun f cdv A outer s H vs Q E hr h => ?_)
  · exact this.mono (by omega)
  obtain ⟨p, c, rs, k, e, B, rfl, ⟨d, he, hd, hB⟩, g, bc, br, bk, q⟩ := h
  have hr1 := hr.mono (show 1 ≤ 3 + 2 * n by omega)
  refine ⟨_, pss_cons (ps_set (i := 5) sc53.nd rfl (Or.inl rfl) (pe_fn S.mark hr1 rfl (pa_cons (pv 3) pa_nil)))
    (pss_cons (ps_set (i := 6) sc53.nd rfl (Or.inl rfl) (pe_fn S.mark hr1 rfl (pa_cons (pv 3) pa_nil)))
    (pss_cons (ps_expr (pe_fnd S.put3 hr1 rfl (pa_cons (pv 2) (pa_cons pe_str (pa_cons (pv 5) pa_nil)))))
    (pss_cons (ps_expr (pe_fn FV hr rfl (pa_cons (pv 0) (pa_cons (pv 1) (pa_cons (pv 2) (pa_cons (pv 3) (pa_cons (pe_op op_sub (pv 4) pe_int) pa_nil)))))))
    (pss_cons (ps_expr (pe_fnd S.put2 hr1 rfl (pa_cons (pv 2) (pa_cons pe_str pa_nil))))
    (pss_cons (ps_expr (pe_fnd S.put3 hr1 rfl (pa_cons (pv 2) (pa_cons pe_str (pa_cons (pv 6) pa_nil)))))
    (pss_cons (ps_expr (pe_fnd S.put3 hr1 rfl (pa_cons (pv 2) (pa_cons pe_str (pa_cons (pv 5) pa_nil)))))
    (pss_one (ps_expr (pe_fnd S.put3 hr1 rfl (pa_cons (pv 2) (pa_cons pe_str (pa_cons (pv 6) pa_nil)))))))))))), ?_⟩
  refine ⟨_, rfl, rd_mk g (by omega) fun H1 s1 => ?_⟩
  refine ⟨_, rfl, rd_mk s1.gs (by omega) fun H2 s2 => ?_⟩
  have t2 := s1.trans s2
  refine ⟨_, rfl, _, rfl, rd_put t2.gs (by have := t2.n; rw [List.length_append]; omega) fun H3 s3 => ?_⟩
  have t3 := t2.trans s3
  refine ⟨_, rfl, _, rfl, _, rfl, _, rfl, _, rfl, _, _, rfl, rfl, p, _, _, _, _, bV d, rfl, ⟨d, (by show e - 1 = _; omega), hd, rfl⟩, t3.gs, (by have := t3.c2; omega), (by have := t3.n; rw [List.length_append]; omega), (by have := t3.k2; omega), fun c4 n4 k4 H4 s4 g4 => ?_⟩
  have t4 := t3.trans s4
  refine ⟨_, rfl, rd_put t4.gs (by have := t4.n; rw [List.length_append]; omega) fun H5 s5 => ?_⟩
  have t5 := t4.trans s5
  refine ⟨_, rfl, _, rfl, rd_put t5.gs (by have := t5.n; rw [List.length_append]; omega) fun H6 s6 => ?_⟩
  have t6 := t5.trans s6
  refine ⟨_, rfl, _, rfl, rd_put t6.gs (by have := t6.n; rw [List.length_append]; omega) fun H7 s7 => ?_⟩
  have t7 := t6.trans s7
  refine ⟨_, rfl, _, rfl, rd_put t7.gs (by have := t7.n; rw [List.length_append]; omega) fun H8 s8 => ?_⟩
  have t8 := t7.trans s8
  have L2 := line_ok (n := (rs ++ ([] ++ [])).length) (by simp; omega)
  have L4 := line_ok (Nat.le_trans t4.len (by omega))
  have L5 := line_ok (Nat.le_trans t5.len (by omega))
  have L6 := line_ok (Nat.le_trans t6.len (by omega))
  have L7 := line_ok (Nat.le_trans t7.len (by omega))
  refine q _ _ _ _ (t8.more (by omega)) ⟨(((((((AllG.nil.app AllG.nil).app (AllG.one (u_try.rowG L2.1 L2.2))).app g4.row).app (AllG.one (b_end.rowG L4.1 L4.2))).app (AllG.one (u_jump.rowG L5.1 L5.2))).app (AllG.one (lab_rowG L6.1 L6.2))).app (AllG.one (lab_rowG L7.1 L7.2))), fun m => ?_, fun m h => ?_, fun m h => ?_⟩
  · simp only [lab_app, lab_nil, lab_lab, u_try.noLab, b_end.noLab, u_jump.noLab]
    have := g4.lab1 m; have := g4.labI m; have := ind_or m k; have := ind_or m (k + 1)
    omega
  · simp only [lab_app, lab_nil, lab_lab, u_try.noLab, b_end.noLab, u_jump.noLab] at h
    have := g4.labI m; have := ind_or m k; have := ind_or m (k + 1); have := s4.k1
    omega
  · simp only [use_app, use_nil, use_lab, u_try.use, b_end.noUse, u_jump.use] at h
    simp only [lab_app, lab_nil, lab_lab, u_try.noLab, b_end.noLab, u_jump.noLab]
    have := g4.useI m
    omega
end
end My

set_option Elab.async false
set_option linter.all false
set_option maxRecDepth 100000
set_option maxHeartbeats 8000000
namespace My
open PySem PySem.Spec PyProof.Rows L2
section
variable {k k1 : Nat} {n1 : List Row}
theorem Good.put (g : Good k k1 n1) (hk : k ≤ k1) {op : Str} {v : V} (h : Bare op v) {l : Int} (h0 : 0 ≤ l) (h1 : l ≤ 9999) : Good k k1 (n1 ++ [⟨op, v, l⟩]) := g.app (h.good h0 h1 k1) hk (Nat.le_refl _)
end
section
variable {P : Program} {w : World} {K : PySem.W.Frag} {mg : Str → Option Value} {base : Heap}
theorem sc54 : FnScope ["_law_script", "_law_town_here", "_law_rows", "_law_marks", "_law_deep", "_law_many", "_law_k"] gps (defScope (top 54)) := ⟨rfl, rfl, rfl, by decide +kernel, rfl, by decide +kernel, by decide +kernel⟩
theorem pick_bare3 {v : V} (h : v ∈ ([.str "drop", .str "tell", .str "same"] : List V)) : ∃ op, v = .str op ∧ Bare op .non := by
  rcases List.mem_cons.mp h with e | h
  · exact ⟨_, e, b_drop⟩
  · rcases List.mem_cons.mp h with e | h
    · exact ⟨_, e, b_tell⟩
    · exact ⟨_, List.mem_singleton.mp h, b_same⟩
theorem fn_mv {n : Nat} (D : HasDef K mg "_law_moved_value" (top 54)) (G : Glo mg) (S : Smalls P w K mg base) (FV : FN P w K mg base (3 + 2 * n) "_law_value" gps (spGen K (CV n))) : FN P w K mg base (4 + 2 * n) "_law_moved_value" gps (spGen K (CMV n)) := by
  have := FN.of (k := 3 + 2 * n) (sp := spGen K (CMV n)) (P := P) (w := w) (base := base) D sc54 (fun _ _ _ _ _ _ us hl => match us, hl with | [_, _, _, _, _], _ => rfl) spGen_len (fun f cdv A outer s H vs Q E hr h => ?_)
  · exact this.mono (by omega)
  obtain ⟨p, c, rs, k, e, B, rfl, ⟨hn, hB⟩, g, bc, br, bk, q⟩ := h
  have hr1 := hr.mono (show 1 ≤ 3 + 2 * n by omega)
  have hr2 := hr.mono (show 2 ≤ 3 + 2 * n by omega)
  refine ⟨_, pss_cons (ps_set (i := 5) sc54.nd rfl (Or.inl rfl) (pe_op op_add pe_int (pe_fn S.draw hr1 rfl (pa_cons (pv 0) (pa_cons (pv 1) (pa_cons pe_int pa_nil))))))
    (pss_cons (ps_for PassesOwn.never rfl (pi_range1 rfl G.range (pa_cons (pv 5) pa_nil)) (pg_name (i := 6) sc54.nd rfl (Or.inl rfl)) (pss_one (ps_expr (pe_fn FV hr rfl (pa_cons (pv 0) (pa_cons (pv 1) (pa_cons (pv 2) (pa_cons (pv 3) (pa_cons pe_int pa_nil)))))))))
    (pss_cons (ps_for PassesOwn.never rfl (pi_range1 rfl G.range (pa_cons (pe_fn S.draw hr1 rfl (pa_cons (pv 0) (pa_cons (pv 1) (pa_cons pe_int pa_nil)))) pa_nil)) (pg_name (i := 6) sc54.nd rfl (Or.inl rfl))
      (pss_one (ps_expr (pe_fnd S.put3 hr1 rfl (pa_cons (pv 2) (pa_cons pe_str (pa_cons (pe_op op_add pe_int (pe_fn S.draw hr1 rfl (pa_cons (pv 0) (pa_cons (pv 1) (pa_cons (pe_op op_sub (pv 5) pe_int) pa_nil))))) pa_nil)))))))
    (pss_cons (ps_if (pt_cmpR op_eq (pe_fn S.draw hr1 rfl (pa_cons (pv 0) (pa_cons (pv 1) (pa_cons pe_int pa_nil)))) pe_int (nomark _))
      (pss_cons (ps_expr (pe_fnd S.put3 hr1 rfl (pa_cons (pv 2) (pa_cons pe_str (pa_cons (pe_op op_add pe_int (pe_fn S.draw hr1 rfl (pa_cons (pv 0) (pa_cons (pv 1) (pa_cons (pv 5) pa_nil))))) pa_nil)))))
        (pss_one (ps_expr (pe_fnd S.put2 hr1 rfl (pa_cons (pv 2) (pa_cons pe_str pa_nil)))))) pss_nil)
    (pss_one (ps_for PassesOwn.never rfl (pi_range1 rfl G.range (pa_cons (pe_op op_sub (pv 5) pe_int) pa_nil)) (pg_name (i := 6) sc54.nd rfl (Or.inl rfl))
      (pss_one (ps_expr (pe_fnd S.put2 hr1 rfl (pa_cons (pv 2) (pa_cons (pe_fn S.pick hr2 rfl (pa_cons (pv 0) (pa_cons (pv 1) (pa_cons (pe_lst (pa_cons pe_str (pa_cons pe_str (pa_cons pe_str pa_nil)))) pa_nil)))) pa_nil)))))))))), ?_⟩
  refine ⟨_, rfl, _, rfl, rd_draw g (by omega) (by decide) (by decide) fun i0 H1 i00 i01 s1 => ?_⟩
  refine ⟨_, _, rfl, rfl, ?_⟩
  have hm0 : 2 ≤ 2 + i0 ∧ 2 + i0 ≤ 4 := ⟨by omega, by omega⟩
  show tSeq _ _ _ [some (.ref p.a), some (.ref p.t), some (.ref p.r), some (.ref p.m), some (.int e), some (.int (2 + i0)), none] H1
  generalize (2 + i0 : Int) = many at *
  refine ⟨_, rfl, many, rfl, by omega, by omega, for_range (lo := 0) (n := many.toNat) (fun i σ H2 => ∃ v c' new k', σ = [some (.ref p.a), some (.ref p.t), some (.ref p.r), some (.ref p.m), some (.int e), some (.int many), v] ∧ Step K H H2 p c rs k c' new k' (1 + 3 * i) ∧ Good k k' new)
    ⟨none, _, _, _, rfl, s1, Good.nil k⟩ ?_ ?_⟩
  · rintro i σ H2 hi ⟨v, c', new, k', rfl, st, gd⟩
    have l := st.len
    refine ⟨_, rfl, _, rfl, _, rfl, _, rfl, p, _, _, _, _, 3, rfl, ⟨0, rfl, hn, rfl⟩, st.gs, (by have := st.c2; omega), (by omega), (by have := st.k2; omega), fun c4 n4 k4 H4 s4 g4 => ?_⟩
    exact ⟨_, c4, new ++ n4, k4, rfl, (st.trans s4).more (by omega), gd.app g4 st.k1 s4.k1⟩
  rintro σ H2 ⟨v, c2, n2, k2, rfl, t2, g2⟩
  have t2 := t2.more (show _ ≤ 13 by omega)
  have l2 := t2.len
  refine ⟨_, rfl, _, rfl, rd_draw t2.gs (by have := t2.c2; omega) (by decide) (by decide) fun j0 H3 j00 j01 s3 => ?_⟩
  have t3 := t2.tick s3
  refine ⟨j0, rfl, by omega, by omega, for_range (lo := 0) (n := j0.toNat) (fun i σ H2 => ∃ v c' new k', σ = [some (.ref p.a), some (.ref p.t), some (.ref p.r), some (.ref p.m), some (.int e), some (.int many), v] ∧ Step K H H2 p c rs k c' new k' (14 + 2 * i) ∧ Good k k' new)
    ⟨v, _, _, _, rfl, t3, g2⟩ ?_ ?_⟩
  · rintro i σ H2 hi ⟨v, c', new, k', rfl, st, gd⟩
    have l := st.len
    refine ⟨_, rfl, _, rfl, _, rfl, _, rfl, _, _, rfl, rfl, rd_draw st.gs (by have := st.c2; omega) (by show 1 ≤ many - 1; omega) (by show many - 1 ≤ 1000; omega) fun x H4 x0 x1 s4 => ?_⟩
    have x1 : x < many - 1 := x1
    have t4 := st.tick s4
    have l4 := t4.len
    refine ⟨_, _, rfl, rfl, rd_put t4.gs (by omega) fun H5 s5 => ?_⟩
    have L := line_ok (show (rs ++ new).length ≤ 15000 by omega)
    exact ⟨_, _, _, _, rfl, (t4.trans s5).more (by omega), gd.put st.k1 (b_swap (by omega) (by omega)) L.1 L.2⟩
  rintro σ H4 ⟨v4, c4, n4, k4, rfl, t4, g4⟩
  have t4 := t4.more (show _ ≤ 20 by omega)
  have l4 := t4.len
  have last : ∀ {v5 : Option V} {c5 : Nat} {n5 : List Row} {k5 : Nat} {H5 : Hp}, Step K H H5 p c rs k c5 n5 k5 24 → Good k k5 n5 →
      tFor (iRng1 (tCons (tOp (rI0 fun i j => .int (i - j)) (tVar 5) (tC (.int 1))) tNil)) (gName 6) (tDrop (tCall spPut [.non] E0 (tCons (tVar 2) (tCons (tCall (spPick K) [] E0 (tCons (tVar 0) (tCons (tVar 1) (tCons (tLst (tCons (tC (.str "drop")) (tCons (tC (.str "tell")) (tCons (tC (.str "same")) tNil)))) tNil)))) tNil))))
        { nx := fun _ H' => Q .non H', rt := Q } [some (.ref p.a), some (.ref p.t), some (.ref p.r), some (.ref p.m), some (.int e), some (.int many), v5] H5 := by
    intro v5 c5 n5 k5 H5 t5 g5
    refine ⟨_, rfl, _, _, rfl, rfl, many - 1, rfl, by omega, by omega, for_range (lo := 0) (n := (many - 1).toNat) (fun i σ H2 => ∃ v c' new k', σ = [some (.ref p.a), some (.ref p.t), some (.ref p.r), some (.ref p.m), some (.int e), some (.int many), v] ∧ Step K H H2 p c rs k c' new k' (24 + 2 * i) ∧ Good k k' new)
      ⟨v5, _, _, _, rfl, t5, g5⟩ ?_ ?_⟩
    · rintro i σ H2 hi ⟨v, c', new, k', rfl, st, gd⟩
      have l := st.len
      refine ⟨_, rfl, _, rfl, _, rfl, by show 3 ≤ sizeLine; decide, fun x hx => ?_⟩
      refine rd_pick st.gs (by have := st.c2; omega) hx (by show 1 ≤ 3; decide) (by show 3 ≤ 1000; decide) fun y H6 hy s6 => ?_
      obtain ⟨op, rfl, hb⟩ := pick_bare3 hy
      have t6 := st.tick s6
      have l6 := t6.len
      refine rd_put t6.gs (by omega) fun H7 s7 => ?_
      have L := line_ok (show (rs ++ new).length ≤ 15000 by omega)
      exact ⟨_, _, _, _, rfl, (t6.trans s7).more (by omega), gd.put st.k1 hb L.1 L.2⟩
    · rintro σ H2 ⟨v, c', new, k', rfl, st, gd⟩
      exact q _ _ _ _ (st.more (by omega)) gd
  refine ⟨_, rfl, _, rfl, rd_draw t4.gs (by have := t4.c2; omega) (by decide) (by decide) fun y0 H5 y00 y01 s5 => ?_⟩
  have t5 := t4.tick s5
  have l5 := t5.len
  refine ⟨rfl, _, rfl, ?_⟩
  refine ite2 (fun _ => ?_) (fun _ => last (t5.more (by omega)) g4)
  refine ⟨_, rfl, _, rfl, _, rfl, _, rfl, rd_draw t5.gs (by have := t5.c2; omega) (by omega) (by omega) fun z H6 z0 z1 s6 => ?_⟩
  have t6 := t5.tick s6
  have l6 := t6.len
  refine ⟨_, _, rfl, rfl, rd_put t6.gs (by omega) fun H7 s7 => ?_⟩
  have t7 := t6.trans s7
  have l7 := t7.len
  refine ⟨_, rfl, rd_put t7.gs (by omega) fun H8 s8 => ?_⟩
  have L6 := line_ok (show (rs ++ n4).length ≤ 15000 by omega)
  have L7 := line_ok (Nat.le_trans t7.len (show _ ≤ 15000 by omega))
  exact last ((t7.trans s8).more (by omega)) ((g4.put t4.k1 (b_copy (by omega) (by omega)) L6.1 L6.2).put t4.k1 b_drop L7.1 L7.2)
end
end My

set_option Elab.async false
set_option linter.all false
set_option maxRecDepth 100000
set_option maxHeartbeats 8000000
namespace My
open PySem PySem.Spec PyProof.Rows L2
section
variable {P : Program} {w : World} {K : PySem.W.Frag} {mg : Str → Option Value} {base : Heap}
theorem sc52 : FnScope ["_law_script", "_law_town_here", "_law_rows", "_law_marks", "_law_deep", "_law_way", "_law_mark_here"] gps (defScope (top 52)) := ⟨rfl, rfl, rfl, by decide +kernel, rfl, by decide +kernel, by decide +kernel⟩
theorem pick_two {v : V} {a b : Str} (h : v ∈ ([.str a, .str b] : List V)) {R : Str → Prop} (ha : R a) (hb : R b) : ∃ op, v = .str op ∧ R op := by
  rcases List.mem_cons.mp h with e | h
  · exact ⟨_, e, ha⟩
  · exact ⟨_, List.mem_singleton.mp h, hb⟩
theorem pick_seven {v : V} (h : v ∈ ([.str "add", .str "sub", .str "mul", .str "div", .str "rest", .str "less", .str "same"] : List V)) : ∃ op, v = .str op ∧ Bare op .non := by
  have all : ∀ v ∈ ([.str "add", .str "sub", .str "mul", .str "div", .str "rest", .str "less", .str "same"] : List V), ∃ op, v = .str op ∧ sortOf op = some ("none" : Str) := by
    intro v h
    simp only [List.mem_cons, List.not_mem_nil, or_false] at h
    rcases h with rfl | rfl | rfl | rfl | rfl | rfl | rfl
    all_goals exact ⟨_, rfl, by decide +kernel⟩
  obtain ⟨op, e, hs⟩ := all v h
  exact ⟨op, e, b_none hs⟩
theorem fn_v {n : Nat} (D : HasDef K mg "_law_value" (top 52)) (S : Smalls P w K mg base) (FV : FN P w K mg base (3 + 2 * n) "_law_value" gps (spGen K (CV n))) (FT : FN P w K mg base (4 + 2 * n) "_law_tried_value" gps (spGen K (CTV n)))
    (FM : FN P w K mg base (4 + 2 * n) "_law_moved_value" gps (spGen K (CMV n))) : FN P w K mg base (3 + 2 * (n + 1)) "_law_value" gps (spGen K (CV (n + 1))) := by
  have := FN.of (k := 4 + 2 * n) (sp := spGen K (CV (n + 1))) (P := P) (w := w) (base := base) D sc52 (fun _ _ _ _ _ _ us hl => match us, hl with | [_, _, _, _, _], _ => rfl) spGen_len (fun f cdv A outer s H vs Q E hr h => ?_)
  · exact this.mono (by omega)
  obtain ⟨p, c, rs, k, e, B, rfl, ⟨d, he, hd, hB⟩, g, bc, br, bk, q⟩ := h
  have hr1 := hr.mono (show 1 ≤ 4 + 2 * n by omega)
  have hr2 := hr.mono (show 2 ≤ 4 + 2 * n by omega)
  have hr3 := hr.mono (show 3 ≤ 4 + 2 * n by omega)
  have hrV := hr.mono (show 3 + 2 * n ≤ 4 + 2 * n by omega)
  have hb3 := bV_pos d
  refine ⟨_, pss_cons (ps_set (i := 5) sc52.nd rfl (Or.inl rfl) (pe_ifExp (pt_cmpR op_gt (pv 4) pe_int (nomark _)) (pe_fn S.draw hr1 rfl (pa_cons (pv 0) (pa_cons (pv 1) (pa_cons pe_int pa_nil)))) (pe_fn S.draw hr1 rfl (pa_cons (pv 0) (pa_cons (pv 1) (pa_cons pe_int pa_nil))))))
    (pss_one (ps_if (pt_cmpR op_lt (pv 5) pe_int (nomark _)) (pss_one (ps_expr (pe_fnd S.put3 hr1 rfl (pa_cons (pv 2) (pa_cons pe_str (pa_cons (pe_fn S.const hr3 rfl (pa_cons (pv 0) (pa_cons (pv 1) pa_nil))) pa_nil))))))
    (pss_one (ps_if (pt_cmpR op_lt (pv 5) pe_int (nomark _)) (pss_one (ps_expr (pe_fnd S.put3 hr1 rfl (pa_cons (pv 2) (pa_cons pe_str (pa_cons (pe_fn S.pick hr2 rfl (pa_cons (pv 0) (pa_cons (pv 1) (pa_cons (pe_lst (pa_cons pe_str (pa_cons pe_str (pa_cons pe_str pa_nil)))) pa_nil)))) pa_nil))))))
    (pss_one (ps_if (pt_cmpR op_lt (pv 5) pe_int (nomark _))
      (pss_cons (ps_expr (pe_fn FV hrV rfl (pa_cons (pv 0) (pa_cons (pv 1) (pa_cons (pv 2) (pa_cons (pv 3) (pa_cons (pe_op op_sub (pv 4) pe_int) pa_nil)))))))
      (pss_cons (ps_expr (pe_fn FV hrV rfl (pa_cons (pv 0) (pa_cons (pv 1) (pa_cons (pv 2) (pa_cons (pv 3) (pa_cons (pe_op op_sub (pv 4) pe_int) pa_nil)))))))
      (pss_one (ps_expr (pe_fnd S.put2 hr1 rfl (pa_cons (pv 2) (pa_cons (pe_fn S.pick hr2 rfl (pa_cons (pv 0) (pa_cons (pv 1) (pa_cons (pe_lst (pa_cons pe_str (pa_cons pe_str (pa_cons pe_str (pa_cons pe_str (pa_cons pe_str (pa_cons pe_str (pa_cons pe_str pa_nil)))))))) pa_nil)))) pa_nil)))))))
    (pss_one (ps_if (pt_cmpR op_eq (pv 5) pe_int (nomark _))
      (pss_cons (ps_expr (pe_fn FV hrV rfl (pa_cons (pv 0) (pa_cons (pv 1) (pa_cons (pv 2) (pa_cons (pv 3) (pa_cons (pe_op op_sub (pv 4) pe_int) pa_nil)))))))
      (pss_one (ps_expr (pe_fnd S.put2 hr1 rfl (pa_cons (pv 2) (pa_cons (pe_fn S.pick hr2 rfl (pa_cons (pv 0) (pa_cons (pv 1) (pa_cons (pe_lst (pa_cons pe_str (pa_cons pe_str pa_nil))) pa_nil)))) pa_nil))))))
    (pss_one (ps_if (pt_cmpR op_eq (pv 5) pe_int (nomark _))
      (pss_cons (ps_set (i := 6) sc52.nd rfl (Or.inl rfl) (pe_fn S.mark hr1 rfl (pa_cons (pv 3) pa_nil)))
      (pss_cons (ps_expr (pe_fn FV hrV rfl (pa_cons (pv 0) (pa_cons (pv 1) (pa_cons (pv 2) (pa_cons (pv 3) (pa_cons (pe_op op_sub (pv 4) pe_int) pa_nil)))))))
      (pss_cons (ps_expr (pe_fnd S.put3 hr1 rfl (pa_cons (pv 2) (pa_cons (pe_fn S.pick hr2 rfl (pa_cons (pv 0) (pa_cons (pv 1) (pa_cons (pe_lst (pa_cons pe_str (pa_cons pe_str pa_nil))) pa_nil)))) (pa_cons (pv 6) pa_nil)))))
      (pss_cons (ps_expr (pe_fn FV hrV rfl (pa_cons (pv 0) (pa_cons (pv 1) (pa_cons (pv 2) (pa_cons (pv 3) (pa_cons (pe_op op_sub (pv 4) pe_int) pa_nil)))))))
      (pss_one (ps_expr (pe_fnd S.put3 hr1 rfl (pa_cons (pv 2) (pa_cons pe_str (pa_cons (pv 6) pa_nil))))))))))
    (pss_one (ps_if (pt_cmpR op_eq (pv 5) pe_int (nomark _))
      (pss_one (ps_expr (pe_fn FT hr rfl (pa_cons (pv 0) (pa_cons (pv 1) (pa_cons (pv 2) (pa_cons (pv 3) (pa_cons (pv 4) pa_nil))))))))
      (pss_one (ps_expr (pe_fn FM hr rfl (pa_cons (pv 0) (pa_cons (pv 1) (pa_cons (pv 2) (pa_cons (pv 3) (pa_cons (pv 4) pa_nil)))))))))))))))))))) , ?_⟩
  refine ⟨_, rfl, _, _, rfl, rfl, _, rfl, ?_⟩
  -- the way, below 12, or below 4 where nothing is left
  refine ite2 (fun c0 => ?_) (fun c0 => ?_)
  all_goals
    refine ⟨_, rfl, _, rfl, rd_draw g (by omega) (by decide) (by decide) fun i H1 i0 i1 s1 => ?_⟩
    have i12 : i < 12 := by omega
    have i4 : e ≤ 0 → i < 4 := fun z => by
      first
        | exact i1
        | (have := of_decide_eq_true c0; omega)
    have l1 := s1.len
    refine ⟨_, rfl, _, _, rfl, rfl, _, rfl, ?_⟩
    refine ite2 (fun c1 => ?_) (fun c1 => ?_)
    · refine ⟨_, rfl, _, rfl, _, rfl, rd_const s1.gs (by have := s1.c2; omega) fun v H2 hv s2 => ?_⟩
      have t2 := s1.tick s2
      have l2 := t2.len
      refine rd_put t2.gs (by omega) fun H3 s3 => ?_
      have L := line_ok (Nat.le_trans t2.len (show _ ≤ 15000 by omega))
      exact q _ _ _ _ ((t2.trans s3).more (by omega)) ((Good.nil k).put (Nat.le_refl _) (b_push hv) L.1 L.2)
    · refine ⟨_, rfl, _, _, rfl, rfl, _, rfl, ?_⟩
      refine ite2 (fun c2 => ?_) (fun c2 => ?_)
      · refine ⟨_, rfl, _, rfl, _, rfl, by show 3 ≤ sizeLine; decide, fun x hx => ?_⟩
        refine rd_pick s1.gs (by have := s1.c2; omega) hx (by show 1 ≤ 3; decide) (by show 3 ≤ 1000; decide) fun v H2 hv s2 => ?_
        have t2 := s1.tick s2
        have l2 := t2.len
        refine rd_put t2.gs (by omega) fun H3 s3 => ?_
        have L := line_ok (Nat.le_trans t2.len (show _ ≤ 15000 by omega))
        exact q _ _ _ _ ((t2.trans s3).more (by omega)) ((Good.nil k).put (Nat.le_refl _) (b_load hv) L.1 L.2)
      · have c2 : ¬ i < 4 := fun z => c2 (decide_eq_true z)
        have e0 : ¬ e ≤ 0 := fun z => c2 (i4 z)
        obtain ⟨d', rfl⟩ : ∃ d', d = d' + 1 := ⟨d - 1, by omega⟩
        have eB : bV (d' + 1) = 2 * bV d' + 25 := rfl
        have cv : CV n (e - 1) (bV d') := ⟨d', by omega, by omega, rfl⟩
        refine ⟨_, rfl, _, _, rfl, rfl, _, rfl, ?_⟩
        refine ite2 (fun c3 => ?_) (fun c3 => ?_)
        · refine ⟨_, rfl, _, rfl, _, rfl, _, rfl, _, rfl, _, _, rfl, rfl, p, _, _, _, _, bV d', rfl, cv, s1.gs, (by have := s1.c2; omega), (by omega), (by have := s1.k2; omega), fun c4 n4 k4 H4 s4 g4 => ?_⟩
          have t4 := s1.trans s4
          have l4 := t4.len
          refine ⟨_, rfl, _, rfl, _, rfl, _, rfl, _, rfl, _, _, rfl, rfl, p, _, _, _, _, bV d', rfl, cv, t4.gs, (by have := t4.c2; omega), (by omega), (by have := t4.k2; omega), fun c5 n5 k5 H5 s5 g5 => ?_⟩
          have t5 := t4.trans s5
          have l5 := t5.len
          refine ⟨_, rfl, _, rfl, _, rfl, by show 7 ≤ sizeLine; decide, fun x hx => ?_⟩
          refine rd_pick t5.gs (by have := t5.c2; omega) hx (by show 1 ≤ 7; decide) (by show 7 ≤ 1000; decide) fun v H6 hv s6 => ?_
          obtain ⟨op, rfl, hb⟩ := pick_seven hv
          have t6 := t5.tick s6
          refine rd_put t6.gs (by have := t6.len; omega) fun H7 s7 => ?_
          have L := line_ok (Nat.le_trans t6.len (show _ ≤ 15000 by omega))
          exact q _ _ _ _ ((t6.trans s7).more (by omega)) ((((Good.nil k).app g4 (Nat.le_refl _) s4.k1).app g5 s4.k1 s5.k1).put t5.k1 hb L.1 L.2)
        · refine ⟨_, rfl, rfl, _, rfl, ?_⟩
          refine ite2 (fun c4 => ?_) (fun c4 => ?_)
          · refine ⟨_, rfl, _, rfl, _, rfl, _, rfl, _, rfl, _, _, rfl, rfl, p, _, _, _, _, bV d', rfl, cv, s1.gs, (by have := s1.c2; omega), (by omega), (by have := s1.k2; omega), fun c4 n4 k4 H4 s4 g4 => ?_⟩
            have t4 := s1.trans s4
            have l4 := t4.len
            refine ⟨_, rfl, _, rfl, _, rfl, by show 2 ≤ sizeLine; decide, fun x hx => ?_⟩
            refine rd_pick t4.gs (by have := t4.c2; omega) hx (by show 1 ≤ 2; decide) (by show 2 ≤ 1000; decide) fun v H6 hv s6 => ?_
            obtain ⟨op, rfl, hb⟩ := pick_two hv (R := fun op => Bare op .non) (b_none (by decide +kernel)) (b_none (by decide +kernel))
            have t6 := t4.tick s6
            refine rd_put t6.gs (by have := t6.len; omega) fun H7 s7 => ?_
            have L := line_ok (Nat.le_trans t6.len (show _ ≤ 15000 by omega))
            exact q _ _ _ _ ((t6.trans s7).more (by omega)) (((Good.nil k).app g4 (Nat.le_refl _) s4.k1).put t4.k1 hb L.1 L.2)
          · refine ⟨_, rfl, rfl, _, rfl, ?_⟩
            refine ite2 (fun c5 => ?_) (fun c5 => ?_)
            · refine ⟨_, rfl, rd_mk s1.gs (by have := s1.k2; omega) fun H2 s2 => ?_⟩
              have t2 := s1.tick s2
              refine ⟨_, rfl, _, rfl, _, rfl, _, rfl, _, rfl, _, _, rfl, rfl, p, _, _, _, _, bV d', rfl, cv, t2.gs, (by have := t2.c2; omega), (by have := t2.len; omega), (by have := t2.k2; omega), fun c4 n4 k4 H4 s4 g4 => ?_⟩
              have t4 := t2.trans s4
              refine ⟨_, rfl, _, rfl, _, rfl, by show 2 ≤ sizeLine; decide, fun x hx => ?_⟩
              refine rd_pick t4.gs (by have := t4.c2; omega) hx (by show 1 ≤ 2; decide) (by show 2 ≤ 1000; decide) fun v H5 hv s5 => ?_
              obtain ⟨op, rfl, hb⟩ := pick_two hv (R := Uses) u_ort u_orf
              have t5 := t4.tick s5
              refine ⟨_, rfl, rd_put t5.gs (by have := t5.len; omega) fun H6 s6 => ?_⟩
              have t6 := t5.trans s6
              refine ⟨_, rfl, _, rfl, _, rfl, _, rfl, _, rfl, _, _, rfl, rfl, p, _, _, _, _, bV d', rfl, cv, t6.gs, (by have := t6.c2; omega), (by have := t6.len; omega), (by have := t6.k2; omega), fun c7 n7 k7 H7 s7 g7 => ?_⟩
              have t7 := t6.trans s7
              refine ⟨_, rfl, _, rfl, rd_put t7.gs (by have := t7.len; omega) fun H8 s8 => ?_⟩
              have L5 := line_ok (Nat.le_trans t5.len (show _ ≤ 15000 by omega))
              have L7 := line_ok (Nat.le_trans t7.len (show _ ≤ 15000 by omega))
              refine q _ _ _ _ ((t7.trans s8).more (by omega)) ⟨((((AllG.nil.app g4.row).app (AllG.one (hb.rowG L5.1 L5.2))).app g7.row).app (AllG.one (lab_rowG L7.1 L7.2))), fun m => ?_, fun m h => ?_, fun m h => ?_⟩
              · simp only [lab_app, lab_nil, lab_lab, hb.noLab]
                have := g4.lab1 m; have := g4.labI m; have := g7.lab1 m; have := g7.labI m; have := ind_or m k; have := s4.k1
                omega
              · simp only [lab_app, lab_nil, lab_lab, hb.noLab] at h
                have := g4.labI m; have := g7.labI m; have := ind_or m k; have := s4.k1; have := s7.k1
                omega
              · simp only [use_app, use_nil, use_lab, hb.use] at h
                simp only [lab_app, lab_nil, lab_lab, hb.noLab]
                have := g4.useI m; have := g7.useI m
                omega
            · refine ⟨_, rfl, rfl, _, rfl, ?_⟩
              refine ite2 (fun c6 => ?_) (fun c6 => ?_)
              · refine ⟨_, rfl, _, rfl, _, rfl, _, rfl, _, rfl, p, _, _, _, _, bV d' + 7, rfl, ⟨d', by omega, by omega, rfl⟩, s1.gs, (by have := s1.c2; omega), (by omega), (by have := s1.k2; omega), fun c4 n4 k4 H4 s4 g4 => ?_⟩
                exact q _ _ _ _ ((s1.trans s4).more (by omega)) ((Good.nil k).app g4 (Nat.le_refl _) s4.k1)
              · refine ⟨_, rfl, _, rfl, _, rfl, _, rfl, _, rfl, p, _, _, _, _, 30, rfl, ⟨by omega, rfl⟩, s1.gs, (by have := s1.c2; have := bV_pos d'; omega), (by have := bV_pos d'; omega), (by have := s1.k2; have := bV_pos d'; omega), fun c4 n4 k4 H4 s4 g4 => ?_⟩
                exact q _ _ _ _ ((s1.trans s4).more (by have := bV_pos d'; omega)) ((Good.nil k).app g4 (Nat.le_refl _) s4.k1)
/-- nothing can be asked with no fuel -/
theorem fn_none0 {name : Str} {st : Stmt} {k : Nat} {C : Int → Nat → Prop} (D : HasDef K mg name st) (hb : ∀ (kV doc pm : Value) (an : Option Addr) (cdv ct : Value) (us : List Value), us.length = gps.length → bindArgs (PySem.W.fnOf name name (defArgs st) (defBody st) (defScope st) .none kV doc pm an cdv ct) ⟨us, []⟩ = pure (gps.zip us))
    (no : ∀ e B, ¬ C e B) : FN P w K mg base k name gps (spGen K C) := by
  obtain ⟨f, fd, F, m⟩ := D
  have no' : ∀ vs H Q E, ¬ spGen K C vs H Q E := fun vs H Q E h => by
    obtain ⟨_, _, _, _, e, B, _, hc, _⟩ := h
    exact no e B hc
  exact ⟨f, fd, m, F.kp, F.binds hb, ⟨fun vs H Q E h => absurd h (no' vs H Q E), fun A outer s H args us vs Q E _ _ _ _ h => absurd h (no' vs H Q E)⟩⟩
theorem fn_values (DV : HasDef K mg "_law_value" (top 52)) (DT : HasDef K mg "_law_tried_value" (top 53)) (DM : HasDef K mg "_law_moved_value" (top 54)) (G : Glo mg) (S : Smalls P w K mg base) : ∀ n, FN P w K mg base (3 + 2 * n) "_law_value" gps (spGen K (CV n))
  | 0 => fn_none0 DV (fun _ _ _ _ _ _ us hl => match us, hl with | [_, _, _, _, _], _ => rfl) fun e B ⟨d, _, h, _⟩ => absurd h (Nat.not_lt_zero _)
  | n + 1 => by
    have ih := fn_values DV DT DM G S n
    exact fn_v DV S ih (fn_tv DT S ih) (fn_mv DM G S ih)
end
end My

set_option Elab.async false
set_option linter.all false
set_option maxRecDepth 100000
set_option maxHeartbeats 8000000
namespace My
open PySem PySem.Spec PyProof.Rows L2
def bD : Nat → Nat
  | 0 => 92
  | d + 1 => 2 * bD d + 200
theorem bD_pos : ∀ d, 92 ≤ bD d
  | 0 => Nat.le_refl _
  | d + 1 => by have := bD_pos d; show 92 ≤ 2 * bD d + 200; omega
def CD (n : Nat) (e : Int) (B : Nat) : Prop := ∃ d : Nat, e = (d : Int) ∧ d < n ∧ B = bD d
def CC (n : Nat) (e : Int) (B : Nat) : Prop := ∃ d : Nat, e = (d : Int) + 1 ∧ d < n ∧ B = 2 * bD d + 150
theorem cv1 : CV 3 1 31 := ⟨1, rfl, by decide, rfl⟩
theorem cv2 : CV 3 2 87 := ⟨2, rfl, by decide, rfl⟩
theorem cv0 : CV 3 0 3 := ⟨0, rfl, by decide, rfl⟩
section
variable {P : Program} {w : World} {K : PySem.W.Frag} {mg : Str → Option Value} {base : Heap}
theorem sc56 : FnScope ["_law_script", "_law_town_here", "_law_rows", "_law_marks", "_law_deep", "_law_other", "_law_end"] gps (defScope (top 56)) := ⟨rfl, rfl, rfl, by decide +kernel, rfl, by decide +kernel, by decide +kernel⟩
theorem fn_choice {n : Nat} (D : HasDef K mg "_law_choice" (top 56)) (S : Smalls P w K mg base) (FV : FN P w K mg base 9 "_law_value" gps (spGen K (CV 3))) (FD : FN P w K mg base (10 + 2 * n) "_law_deed" gps (spGen K (CD n))) : FN P w K mg base (11 + 2 * n) "_law_choice" gps (spGen K (CC n)) := by
  have := FN.of (k := 10 + 2 * n) (sp := spGen K (CC n)) (P := P) (w := w) (base := base) D sc56 (fun _ _ _ _ _ _ us hl => match us, hl with | [_, _, _, _, _], _ => rfl) spGen_len (fun f cdv A outer s H vs Q E hr h => ?_)
  · exact this.mono (by omega)
  obtain ⟨p, c, rs, k, e, B, rfl, ⟨d, he, hd, hB⟩, g, bc, br, bk, q⟩ := h
  have hr1 := hr.mono (show 1 ≤ 10 + 2 * n by omega)
  have hr2 := hr.mono (show 2 ≤ 10 + 2 * n by omega)
  have hr9 := hr.mono (show 9 ≤ 10 + 2 * n by omega)
  have bp := bD_pos d
  have cd : CD n (e - 1) (bD d) := ⟨d, by omega, hd, rfl⟩
  refine ⟨_, pss_cons (ps_par (i := 5) (j := 6) rfl sc56.nd rfl rfl (by decide) rfl rfl (pa_cons (pe_fn S.mark hr1 rfl (pa_cons (pv 3) pa_nil)) (pa_cons (pe_fn S.mark hr1 rfl (pa_cons (pv 3) pa_nil)) pa_nil)) rfl)
    (pss_cons (ps_expr (pe_fn FV hr9 rfl (pa_cons (pv 0) (pa_cons (pv 1) (pa_cons (pv 2) (pa_cons (pv 3) (pa_cons pe_int pa_nil)))))))
    (pss_cons (ps_expr (pe_fnd S.put3 hr1 rfl (pa_cons (pv 2) (pa_cons (pe_fn S.pick hr2 rfl (pa_cons (pv 0) (pa_cons (pv 1) (pa_cons (pe_lst (pa_cons pe_str (pa_cons pe_str pa_nil))) pa_nil)))) (pa_cons (pv 5) pa_nil)))))
    (pss_cons (ps_expr (pe_fn FD hr rfl (pa_cons (pv 0) (pa_cons (pv 1) (pa_cons (pv 2) (pa_cons (pv 3) (pa_cons (pe_op op_sub (pv 4) pe_int) pa_nil)))))))
    (pss_cons (ps_expr (pe_fnd S.put3 hr1 rfl (pa_cons (pv 2) (pa_cons pe_str (pa_cons (pv 6) pa_nil)))))
    (pss_cons (ps_expr (pe_fnd S.put3 hr1 rfl (pa_cons (pv 2) (pa_cons pe_str (pa_cons (pv 5) pa_nil)))))
    (pss_cons (ps_if (pt_cmpR op_eq (pe_fn S.draw hr1 rfl (pa_cons (pv 0) (pa_cons (pv 1) (pa_cons pe_int pa_nil)))) pe_int (nomark _))
      (pss_one (ps_expr (pe_fn FD hr rfl (pa_cons (pv 0) (pa_cons (pv 1) (pa_cons (pv 2) (pa_cons (pv 3) (pa_cons (pe_op op_sub (pv 4) pe_int) pa_nil)))))))) pss_nil)
    (pss_one (ps_expr (pe_fnd S.put3 hr1 rfl (pa_cons (pv 2) (pa_cons pe_str (pa_cons (pv 6) pa_nil))))))))))))  , ?_⟩
  refine ⟨_, rfl, rd_mk g (by omega) fun H1 s1 => ?_⟩
  refine ⟨_, rfl, rd_mk s1.gs (by have := s1.k2; omega) fun H2 s2 => ?_⟩
  refine ⟨_, _, rfl, ?_⟩
  have t2 := s1.tick s2
  refine ⟨_, rfl, _, rfl, _, rfl, _, rfl, p, _, _, _, _, 31, rfl, cv1, t2.gs, (by have := t2.c2; omega), (by have := t2.len; omega), (by have := t2.k2; omega), fun c3 n3 k3 H3 s3 g3 => ?_⟩
  have t3 := t2.trans s3
  refine ⟨_, rfl, _, rfl, _, rfl, by show 2 ≤ sizeLine; decide, fun x hx => ?_⟩
  refine rd_pick t3.gs (by have := t3.c2; omega) hx (by show 1 ≤ 2; decide) (by show 2 ≤ 1000; decide) fun v H4 hv s4 => ?_
  obtain ⟨op, rfl, hb⟩ := pick_two hv (R := Uses) u_iff u_ift
  have t4 := t3.tick s4
  refine ⟨_, rfl, rd_put t4.gs (by have := t4.len; omega) fun H5 s5 => ?_⟩
  have t5 := t4.trans s5
  refine ⟨_, rfl, _, rfl, _, rfl, _, rfl, _, rfl, _, _, rfl, rfl, p, _, _, _, _, bD d, rfl, cd, t5.gs, (by have := t5.c2; omega), (by have := t5.len; omega), (by have := t5.k2; omega), fun c6 n6 k6 H6 s6 g6 => ?_⟩
  have t6 := t5.trans s6
  refine ⟨_, rfl, _, rfl, rd_put t6.gs (by have := t6.len; omega) fun H7 s7 => ?_⟩
  have t7 := t6.trans s7
  refine ⟨_, rfl, _, rfl, rd_put t7.gs (by have := t7.len; omega) fun H8 s8 => ?_⟩
  have t8 := t7.trans s8
  refine ⟨_, rfl, _, rfl, rd_draw t8.gs (by have := t8.c2; omega) (by decide) (by decide) fun y0 H9 y00 y01 s9 => ?_⟩
  have t9 := t8.tick s9
  have L4 := line_ok (Nat.le_trans t4.len (show _ ≤ 15000 by omega))
  have L6 := line_ok (Nat.le_trans t6.len (show _ ≤ 15000 by omega))
  have L7 := line_ok (Nat.le_trans t7.len (show _ ≤ 15000 by omega))
  have all9 := ((((AllG.nil.app g3.row).app (AllG.one (hb.rowG (j := k) L4.1 L4.2))).app g6.row).app (AllG.one (u_jump.rowG (j := k + 1) L6.1 L6.2))).app (AllG.one (lab_rowG (j := k) L7.1 L7.2))
  refine ⟨rfl, _, rfl, ?_⟩
  refine ite2 (fun _ => ?_) (fun _ => ?_)
  · refine ⟨_, rfl, _, rfl, _, rfl, _, rfl, _, rfl, _, _, rfl, rfl, p, _, _, _, _, bD d, rfl, cd, t9.gs, (by have := t9.c2; omega), (by have := t9.len; omega), (by have := t9.k2; omega), fun cA nA kA HA sA gA => ?_⟩
    have tA := t9.trans sA
    refine ⟨_, rfl, _, rfl, rd_put tA.gs (by have := tA.len; omega) fun HB sB => ?_⟩
    have LA := line_ok (Nat.le_trans tA.len (show _ ≤ 15000 by omega))
    refine q _ _ _ _ ((tA.trans sB).more (by omega)) ⟨(all9.app gA.row).app (AllG.one (lab_rowG LA.1 LA.2)), fun m => ?_, fun m h => ?_, fun m h => ?_⟩
    · simp only [lab_app, lab_nil, lab_lab, hb.noLab, u_jump.noLab]
      have := g3.lab1 m; have := g3.labI m; have := g6.lab1 m; have := g6.labI m; have := gA.lab1 m; have := gA.labI m; have := ind_or m k; have := ind_or m (k + 1); have := s3.k1; have := s6.k1
      omega
    · simp only [lab_app, lab_nil, lab_lab, hb.noLab, u_jump.noLab] at h
      have := g3.labI m; have := g6.labI m; have := gA.labI m; have := ind_or m k; have := ind_or m (k + 1); have := s3.k1; have := s6.k1; have := sA.k1
      omega
    · simp only [use_app, use_nil, use_lab, hb.use, u_jump.use] at h
      simp only [lab_app, lab_nil, lab_lab, hb.noLab, u_jump.noLab]
      have := g3.useI m; have := g6.useI m; have := gA.useI m
      omega
  · refine ⟨_, rfl, _, rfl, rd_put t9.gs (by have := t9.len; omega) fun HB sB => ?_⟩
    have LA := line_ok (Nat.le_trans t9.len (show _ ≤ 15000 by omega))
    refine q _ _ _ _ ((t9.trans sB).more (by omega)) ⟨all9.app (AllG.one (lab_rowG LA.1 LA.2)), fun m => ?_, fun m h => ?_, fun m h => ?_⟩
    · simp only [lab_app, lab_nil, lab_lab, hb.noLab, u_jump.noLab]
      have := g3.lab1 m; have := g3.labI m; have := g6.lab1 m; have := g6.labI m; have := ind_or m k; have := ind_or m (k + 1); have := s3.k1
      omega
    · simp only [lab_app, lab_nil, lab_lab, hb.noLab, u_jump.noLab] at h
      have := g3.labI m; have := g6.labI m; have := ind_or m k; have := ind_or m (k + 1); have := s3.k1; have := s6.k1
      omega
    · simp only [use_app, use_nil, use_lab, hb.use, u_jump.use] at h
      simp only [lab_app, lab_nil, lab_lab, hb.noLab, u_jump.noLab]
      have := g3.useI m; have := g6.useI m
      omega
theorem sc57 : FnScope ["_law_script", "_law_town_here", "_law_rows", "_law_marks", "_law_deep", "_law_begin", "_law_end"] gps (defScope (top 57)) := ⟨rfl, rfl, rfl, by decide +kernel, rfl, by decide +kernel, by decide +kernel⟩
theorem fn_round {n : Nat} (D : HasDef K mg "_law_round" (top 57)) (S : Smalls P w K mg base) (FV : FN P w K mg base 9 "_law_value" gps (spGen K (CV 3))) (FD : FN P w K mg base (10 + 2 * n) "_law_deed" gps (spGen K (CD n))) : FN P w K mg base (11 + 2 * n) "_law_round" gps (spGen K (CC n)) := by
  have := FN.of (k := 10 + 2 * n) (sp := spGen K (CC n)) (P := P) (w := w) (base := base) D sc57 (fun _ _ _ _ _ _ us hl => match us, hl with | [_, _, _, _, _], _ => rfl) spGen_len (fun f cdv A outer s H vs Q E hr h => ?_)
  · exact this.mono (by omega)
  obtain ⟨p, c, rs, k, e, B, rfl, ⟨d, he, hd, hB⟩, g, bc, br, bk, q⟩ := h
  have hr1 := hr.mono (show 1 ≤ 10 + 2 * n by omega)
  have hr9 := hr.mono (show 9 ≤ 10 + 2 * n by omega)
  have bp := bD_pos d
  have cd : CD n (e - 1) (bD d) := ⟨d, by omega, hd, rfl⟩
  refine ⟨_, pss_cons (ps_par (i := 5) (j := 6) rfl sc57.nd rfl rfl (by decide) rfl rfl (pa_cons (pe_fn S.mark hr1 rfl (pa_cons (pv 3) pa_nil)) (pa_cons (pe_fn S.mark hr1 rfl (pa_cons (pv 3) pa_nil)) pa_nil)) rfl)
    (pss_cons (ps_expr (pe_fnd S.put3 hr1 rfl (pa_cons (pv 2) (pa_cons pe_str (pa_cons (pv 5) pa_nil)))))
    (pss_cons (ps_expr (pe_fn FV hr9 rfl (pa_cons (pv 0) (pa_cons (pv 1) (pa_cons (pv 2) (pa_cons (pv 3) (pa_cons pe_int pa_nil)))))))
    (pss_cons (ps_expr (pe_fnd S.put3 hr1 rfl (pa_cons (pv 2) (pa_cons pe_str (pa_cons (pv 6) pa_nil)))))
    (pss_cons (ps_expr (pe_fn FD hr rfl (pa_cons (pv 0) (pa_cons (pv 1) (pa_cons (pv 2) (pa_cons (pv 3) (pa_cons (pe_op op_sub (pv 4) pe_int) pa_nil)))))))
    (pss_cons (ps_expr (pe_fnd S.put3 hr1 rfl (pa_cons (pv 2) (pa_cons pe_str (pa_cons (pv 5) pa_nil)))))
    (pss_one (ps_expr (pe_fnd S.put3 hr1 rfl (pa_cons (pv 2) (pa_cons pe_str (pa_cons (pv 6) pa_nil))))))))))), ?_⟩
  refine ⟨_, rfl, rd_mk g (by omega) fun H1 s1 => ?_⟩
  refine ⟨_, rfl, rd_mk s1.gs (by have := s1.k2; omega) fun H2 s2 => ?_⟩
  refine ⟨_, _, rfl, ?_⟩
  have t2 := s1.tick s2
  refine ⟨_, rfl, _, rfl, rd_put t2.gs (by have := t2.len; omega) fun H3 s3 => ?_⟩
  have t3 := t2.trans s3
  refine ⟨_, rfl, _, rfl, _, rfl, _, rfl, p, _, _, _, _, 31, rfl, cv1, t3.gs, (by have := t3.c2; omega), (by have := t3.len; omega), (by have := t3.k2; omega), fun c4 n4 k4 H4 s4 g4 => ?_⟩
  have t4 := t3.trans s4
  refine ⟨_, rfl, _, rfl, rd_put t4.gs (by have := t4.len; omega) fun H5 s5 => ?_⟩
  have t5 := t4.trans s5
  refine ⟨_, rfl, _, rfl, _, rfl, _, rfl, _, rfl, _, _, rfl, rfl, p, _, _, _, _, bD d, rfl, cd, t5.gs, (by have := t5.c2; omega), (by have := t5.len; omega), (by have := t5.k2; omega), fun c6 n6 k6 H6 s6 g6 => ?_⟩
  have t6 := t5.trans s6
  refine ⟨_, rfl, _, rfl, rd_put t6.gs (by have := t6.len; omega) fun H7 s7 => ?_⟩
  have t7 := t6.trans s7
  refine ⟨_, rfl, _, rfl, rd_put t7.gs (by have := t7.len; omega) fun H8 s8 => ?_⟩
  have L2 := line_ok (Nat.le_trans t2.len (show _ ≤ 15000 by omega))
  have L4 := line_ok (Nat.le_trans t4.len (show _ ≤ 15000 by omega))
  have L6 := line_ok (Nat.le_trans t6.len (show _ ≤ 15000 by omega))
  have L7 := line_ok (Nat.le_trans t7.len (show _ ≤ 15000 by omega))
  refine q _ _ _ _ ((t7.trans s8).more (by omega)) ⟨((((((AllG.nil.app (AllG.one (lab_rowG L2.1 L2.2))).app g4.row).app (AllG.one (u_iff.rowG L4.1 L4.2))).app g6.row).app (AllG.one (u_jump.rowG L6.1 L6.2))).app (AllG.one (lab_rowG L7.1 L7.2))), fun m => ?_, fun m h => ?_, fun m h => ?_⟩
  · simp only [lab_app, lab_nil, lab_lab, u_iff.noLab, u_jump.noLab]
    have := g4.lab1 m; have := g4.labI m; have := g6.lab1 m; have := g6.labI m; have := ind_or m k; have := ind_or m (k + 1); have := s4.k1
    omega
  · simp only [lab_app, lab_nil, lab_lab, u_iff.noLab, u_jump.noLab] at h
    have := g4.labI m; have := g6.labI m; have := ind_or m k; have := ind_or m (k + 1); have := s4.k1; have := s6.k1
    omega
  · simp only [use_app, use_nil, use_lab, u_iff.use, u_jump.use] at h
    simp only [lab_app, lab_nil, lab_lab, u_iff.noLab, u_jump.noLab]
    have := g4.useI m; have := g6.useI m
    omega
theorem sc58 : FnScope ["_law_script", "_law_town_here", "_law_rows", "_law_marks", "_law_deep", "_law_hand", "_law_end"] gps (defScope (top 58)) := ⟨rfl, rfl, rfl, by decide +kernel, rfl, by decide +kernel, by decide +kernel⟩
theorem pick_hand {v : V} (h : v ∈ ([.str "drop", .str "tell", .str "raise"] : List V)) : ∃ op, v = .str op ∧ Bare op .non := by
  rcases List.mem_cons.mp h with e | h
  · exact ⟨_, e, b_drop⟩
  · rcases List.mem_cons.mp h with e | h
    · exact ⟨_, e, b_tell⟩
    · exact ⟨_, List.mem_singleton.mp h, b_raise⟩
theorem fn_tried {n : Nat} (D : HasDef K mg "_law_tried" (top 58)) (S : Smalls P w K mg base) (FD : FN P w K mg base (10 + 2 * n) "_law_deed" gps (spGen K (CD n))) : FN P w K mg base (11 + 2 * n) "_law_tried" gps (spGen K (CC n)) := by
  have := FN.of (k := 10 + 2 * n) (sp := spGen K (CC n)) (P := P) (w := w) (base := base) D sc58 (fun _ _ _ _ _ _ us hl => match us, hl with | [_, _, _, _, _], _ => rfl) spGen_len (fun f cdv A outer s H vs Q E hr h => ?_)
  · exact this.mono (by omega)
  obtain ⟨p, c, rs, k, e, B, rfl, ⟨d, he, hd, hB⟩, g, bc, br, bk, q⟩ := h
  have hr1 := hr.mono (show 1 ≤ 10 + 2 * n by omega)
  have hr2 := hr.mono (show 2 ≤ 10 + 2 * n by omega)
  have bp := bD_pos d
  have cd : CD n (e - 1) (bD d) := ⟨d, by omega, hd, rfl⟩
  have cd0 : CD n 0 92 := ⟨0, rfl, by omega, rfl⟩
  refine ⟨_, pss_cons (ps_par (i := 5) (j := 6) rfl sc58.nd rfl rfl (by decide) rfl rfl (pa_cons (pe_fn S.mark hr1 rfl (pa_cons (pv 3) pa_nil)) (pa_cons (pe_fn S.mark hr1 rfl (pa_cons (pv 3) pa_nil)) pa_nil)) rfl)
    (pss_cons (ps_expr (pe_fnd S.put3 hr1 rfl (pa_cons (pv 2) (pa_cons pe_str (pa_cons (pv 5) pa_nil)))))
    (pss_cons (ps_expr (pe_fn FD hr rfl (pa_cons (pv 0) (pa_cons (pv 1) (pa_cons (pv 2) (pa_cons (pv 3) (pa_cons (pe_op op_sub (pv 4) pe_int) pa_nil)))))))
    (pss_cons (ps_expr (pe_fn FD hr rfl (pa_cons (pv 0) (pa_cons (pv 1) (pa_cons (pv 2) (pa_cons (pv 3) (pa_cons pe_int pa_nil)))))))
    (pss_cons (ps_expr (pe_fnd S.put2 hr1 rfl (pa_cons (pv 2) (pa_cons pe_str pa_nil))))
    (pss_cons (ps_expr (pe_fnd S.put3 hr1 rfl (pa_cons (pv 2) (pa_cons pe_str (pa_cons (pv 6) pa_nil)))))
    (pss_cons (ps_expr (pe_fnd S.put3 hr1 rfl (pa_cons (pv 2) (pa_cons pe_str (pa_cons (pv 5) pa_nil)))))
    (pss_cons (ps_expr (pe_fnd S.put2 hr1 rfl (pa_cons (pv 2) (pa_cons (pe_fn S.pick hr2 rfl (pa_cons (pv 0) (pa_cons (pv 1) (pa_cons (pe_lst (pa_cons pe_str (pa_cons pe_str (pa_cons pe_str pa_nil)))) pa_nil)))) pa_nil))))
    (pss_cons (ps_expr (pe_fn FD hr rfl (pa_cons (pv 0) (pa_cons (pv 1) (pa_cons (pv 2) (pa_cons (pv 3) (pa_cons pe_int pa_nil)))))))
    (pss_one (ps_expr (pe_fnd S.put3 hr1 rfl (pa_cons (pv 2) (pa_cons pe_str (pa_cons (pv 6) pa_nil)))))))))))))) , ?_⟩
  refine ⟨_, rfl, rd_mk g (by omega) fun H1 s1 => ?_⟩
  refine ⟨_, rfl, rd_mk s1.gs (by have := s1.k2; omega) fun H2 s2 => ?_⟩
  refine ⟨_, _, rfl, ?_⟩
  have t2 := s1.tick s2
  refine ⟨_, rfl, _, rfl, rd_put t2.gs (by have := t2.len; omega) fun H3 s3 => ?_⟩
  have t3 := t2.trans s3
  refine ⟨_, rfl, _, rfl, _, rfl, _, rfl, _, rfl, _, _, rfl, rfl, p, _, _, _, _, bD d, rfl, cd, t3.gs, (by have := t3.c2; omega), (by have := t3.len; omega), (by have := t3.k2; omega), fun c4 n4 k4 H4 s4 g4 => ?_⟩
  have t4 := t3.trans s4
  refine ⟨_, rfl, _, rfl, _, rfl, _, rfl, p, _, _, _, _, 92, rfl, cd0, t4.gs, (by have := t4.c2; omega), (by have := t4.len; omega), (by have := t4.k2; omega), fun c5 n5 k5 H5 s5 g5 => ?_⟩
  have t5 := t4.trans s5
  refine ⟨_, rfl, rd_put t5.gs (by have := t5.len; omega) fun H6 s6 => ?_⟩
  have t6 := t5.trans s6
  refine ⟨_, rfl, _, rfl, rd_put t6.gs (by have := t6.len; omega) fun H7 s7 => ?_⟩
  have t7 := t6.trans s7
  refine ⟨_, rfl, _, rfl, rd_put t7.gs (by have := t7.len; omega) fun H8 s8 => ?_⟩
  have t8 := t7.trans s8
  refine ⟨_, rfl, _, rfl, _, rfl, by show 3 ≤ sizeLine; decide, fun x hx => ?_⟩
  refine rd_pick t8.gs (by have := t8.c2; omega) hx (by show 1 ≤ 3; decide) (by show 3 ≤ 1000; decide) fun v H9 hv s9 => ?_
  obtain ⟨op, rfl, hb⟩ := pick_hand hv
  have t9 := t8.tick s9
  refine rd_put t9.gs (by have := t9.len; omega) fun HA sA => ?_
  have tA := t9.trans sA
  refine ⟨_, rfl, _, rfl, _, rfl, _, rfl, p, _, _, _, _, 92, rfl, cd0, tA.gs, (by have := tA.c2; omega), (by have := tA.len; omega), (by have := tA.k2; omega), fun cB nB kB HB sB gB => ?_⟩
  have tB := tA.trans sB
  refine ⟨_, rfl, _, rfl, rd_put tB.gs (by have := tB.len; omega) fun HC sC => ?_⟩
  have L2 := line_ok (Nat.le_trans t2.len (show _ ≤ 15000 by omega))
  have L5 := line_ok (Nat.le_trans t5.len (show _ ≤ 15000 by omega))
  have L6 := line_ok (Nat.le_trans t6.len (show _ ≤ 15000 by omega))
  have L7 := line_ok (Nat.le_trans t7.len (show _ ≤ 15000 by omega))
  have L9 := line_ok (Nat.le_trans t9.len (show _ ≤ 15000 by omega))
  have LB := line_ok (Nat.le_trans tB.len (show _ ≤ 15000 by omega))
  refine q _ _ _ _ ((tB.trans sC).more (by omega)) ⟨(((((((((AllG.nil.app (AllG.one (u_try.rowG L2.1 L2.2))).app g4.row).app g5.row).app (AllG.one (b_end.rowG L5.1 L5.2))).app (AllG.one (u_jump.rowG L6.1 L6.2))).app (AllG.one (lab_rowG L7.1 L7.2))).app (AllG.one (hb.rowG L9.1 L9.2))).app gB.row).app (AllG.one (lab_rowG LB.1 LB.2))), fun m => ?_, fun m h => ?_, fun m h => ?_⟩
  · simp only [lab_app, lab_nil, lab_lab, u_try.noLab, u_jump.noLab, b_end.noLab, hb.noLab]
    have := g4.lab1 m; have := g4.labI m; have := g5.lab1 m; have := g5.labI m; have := gB.lab1 m; have := gB.labI m; have := ind_or m k; have := ind_or m (k + 1); have := s4.k1; have := s5.k1
    omega
  · simp only [lab_app, lab_nil, lab_lab, u_try.noLab, u_jump.noLab, b_end.noLab, hb.noLab] at h
    have := g4.labI m; have := g5.labI m; have := gB.labI m; have := ind_or m k; have := ind_or m (k + 1); have := s4.k1; have := s5.k1; have := sB.k1
    omega
  · simp only [use_app, use_nil, use_lab, u_try.use, u_jump.use, b_end.noUse, hb.noUse] at h
    simp only [lab_app, lab_nil, lab_lab, u_try.noLab, u_jump.noLab, b_end.noLab, hb.noLab]
    have := g4.useI m; have := g5.useI m; have := gB.useI m
    omega
end
end My

set_option Elab.async false
set_option linter.all false
set_option maxRecDepth 100000
set_option maxHeartbeats 8000000
namespace My
open PySem PySem.Spec PyProof.Rows L2
section
variable {P : Program} {w : World} {K : PySem.W.Frag} {mg : Str → Option Value} {base : Heap}
theorem sc55 : FnScope ["_law_script", "_law_town_here", "_law_rows", "_law_marks", "_law_deep", "_law_way"] gps (defScope (top 55)) := ⟨rfl, rfl, rfl, by decide +kernel, rfl, by decide +kernel, by decide +kernel⟩
theorem fn_deed {n : Nat} (D : HasDef K mg "_law_deed" (top 55)) (S : Smalls P w K mg base) (FV : FN P w K mg base 9 "_law_value" gps (spGen K (CV 3))) (FC : FN P w K mg base (11 + 2 * n) "_law_choice" gps (spGen K (CC n))) (FR : FN P w K mg base (11 + 2 * n) "_law_round" gps (spGen K (CC n)))
    (FT : FN P w K mg base (11 + 2 * n) "_law_tried" gps (spGen K (CC n))) : FN P w K mg base (10 + 2 * (n + 1)) "_law_deed" gps (spGen K (CD (n + 1))) := by
  have := FN.of (k := 11 + 2 * n) (sp := spGen K (CD (n + 1))) (P := P) (w := w) (base := base) D sc55 (fun _ _ _ _ _ _ us hl => match us, hl with | [_, _, _, _, _], _ => rfl) spGen_len (fun f cdv A outer s H vs Q E hr h => ?_)
  · exact this.mono (by omega)
  obtain ⟨p, c, rs, k, e, B, rfl, ⟨d, he, hd, hB⟩, g, bc, br, bk, q⟩ := h
  have hr1 := hr.mono (show 1 ≤ 11 + 2 * n by omega)
  have hr2 := hr.mono (show 2 ≤ 11 + 2 * n by omega)
  have hr9 := hr.mono (show 9 ≤ 11 + 2 * n by omega)
  have hb3 := bD_pos d
  refine ⟨_, pss_cons (ps_set (i := 5) sc55.nd rfl (Or.inl rfl) (pe_ifExp (pt_cmpR op_gt (pv 4) pe_int (nomark _)) (pe_fn S.draw hr1 rfl (pa_cons (pv 0) (pa_cons (pv 1) (pa_cons pe_int pa_nil)))) (pe_fn S.draw hr1 rfl (pa_cons (pv 0) (pa_cons (pv 1) (pa_cons pe_int pa_nil))))))
    (pss_one (ps_if (pt_cmpR op_lt (pv 5) pe_int (nomark _))
      (pss_cons (ps_expr (pe_fn FV hr9 rfl (pa_cons (pv 0) (pa_cons (pv 1) (pa_cons (pv 2) (pa_cons (pv 3) (pa_cons pe_int pa_nil)))))))
        (pss_one (ps_expr (pe_fnd S.put3 hr1 rfl (pa_cons (pv 2) (pa_cons pe_str (pa_cons (pe_fn S.pick hr2 rfl (pa_cons (pv 0) (pa_cons (pv 1) (pa_cons (pe_lst (pa_cons pe_str (pa_cons pe_str (pa_cons pe_str pa_nil)))) pa_nil)))) pa_nil)))))))
    (pss_one (ps_if (pt_cmpR op_eq (pv 5) pe_int (nomark _))
      (pss_cons (ps_expr (pe_fn FV hr9 rfl (pa_cons (pv 0) (pa_cons (pv 1) (pa_cons (pv 2) (pa_cons (pv 3) (pa_cons pe_int pa_nil)))))))
        (pss_one (ps_expr (pe_fnd S.put2 hr1 rfl (pa_cons (pv 2) (pa_cons pe_str pa_nil))))))
    (pss_one (ps_if (pt_cmpR op_eq (pv 5) pe_int (nomark _))
      (pss_one (ps_expr (pe_fnd S.put3 hr1 rfl (pa_cons (pv 2) (pa_cons pe_str (pa_cons (pe_fn S.pick hr2 rfl (pa_cons (pv 0) (pa_cons (pv 1) (pa_cons (pe_lst (pa_cons pe_str (pa_cons pe_str pa_nil))) pa_nil)))) pa_nil))))))
    (pss_one (ps_if (pt_cmpR op_lt (pv 5) pe_int (nomark _))
      (pss_one (ps_expr (pe_fn FC hr rfl (pa_cons (pv 0) (pa_cons (pv 1) (pa_cons (pv 2) (pa_cons (pv 3) (pa_cons (pv 4) pa_nil))))))))
    (pss_one (ps_if (pt_cmpR op_lt (pv 5) pe_int (nomark _))
      (pss_one (ps_expr (pe_fn FR hr rfl (pa_cons (pv 0) (pa_cons (pv 1) (pa_cons (pv 2) (pa_cons (pv 3) (pa_cons (pv 4) pa_nil))))))))
    (pss_one (ps_if (pt_cmpR op_eq (pv 5) pe_int (nomark _))
      (pss_one (ps_expr (pe_fn FT hr rfl (pa_cons (pv 0) (pa_cons (pv 1) (pa_cons (pv 2) (pa_cons (pv 3) (pa_cons (pv 4) pa_nil))))))))
      (pss_cons (ps_expr (pe_fn FV hr9 rfl (pa_cons (pv 0) (pa_cons (pv 1) (pa_cons (pv 2) (pa_cons (pv 3) (pa_cons pe_int pa_nil)))))))
        (pss_one (ps_expr (pe_fnd S.put2 hr1 rfl (pa_cons (pv 2) (pa_cons pe_str pa_nil)))))))))))))))))) , ?_⟩
  refine ⟨_, rfl, _, _, rfl, rfl, _, rfl, ?_⟩
  refine ite2 (fun c0 => ?_) (fun c0 => ?_)
  all_goals
    refine ⟨_, rfl, _, rfl, rd_draw g (by omega) (by decide) (by decide) fun i H1 i0 i1 s1 => ?_⟩
    have i12 : i < 10 := by omega
    have i4 : e ≤ 0 → i < 4 := fun z => by
      first
        | exact i1
        | (have := of_decide_eq_true c0; omega)
    have l1 := s1.len
    refine ⟨_, rfl, _, _, rfl, rfl, _, rfl, ?_⟩
    refine ite2 (fun c1 => ?_) (fun c1 => ?_)
    · refine ⟨_, rfl, _, rfl, _, rfl, _, rfl, p, _, _, _, _, 31, rfl, cv1, s1.gs, (by have := s1.c2; omega), (by omega), (by have := s1.k2; omega), fun c4 n4 k4 H4 s4 g4 => ?_⟩
      have t4 := s1.trans s4
      refine ⟨_, rfl, _, rfl, _, rfl, by show 3 ≤ sizeLine; decide, fun x hx => ?_⟩
      refine rd_pick t4.gs (by have := t4.c2; omega) hx (by show 1 ≤ 3; decide) (by show 3 ≤ 1000; decide) fun v H5 hv s5 => ?_
      have t5 := t4.tick s5
      refine rd_put t5.gs (by have := t5.len; omega) fun H6 s6 => ?_
      have L := line_ok (Nat.le_trans t5.len (show _ ≤ 15000 by omega))
      exact q _ _ _ _ ((t5.trans s6).more (by omega)) (((Good.nil k).app g4 (Nat.le_refl _) s4.k1).put t4.k1 (b_store hv) L.1 L.2)
    · refine ⟨_, rfl, rfl, _, rfl, ?_⟩
      refine ite2 (fun c2 => ?_) (fun c2 => ?_)
      · refine ⟨_, rfl, _, rfl, _, rfl, _, rfl, p, _, _, _, _, 87, rfl, cv2, s1.gs, (by have := s1.c2; omega), (by omega), (by have := s1.k2; omega), fun c4 n4 k4 H4 s4 g4 => ?_⟩
        have t4 := s1.trans s4
        refine ⟨_, rfl, rd_put t4.gs (by have := t4.len; omega) fun H6 s6 => ?_⟩
        have L := line_ok (Nat.le_trans t4.len (show _ ≤ 15000 by omega))
        exact q _ _ _ _ ((t4.trans s6).more (by omega)) (((Good.nil k).app g4 (Nat.le_refl _) s4.k1).put t4.k1 b_tell L.1 L.2)
      · refine ⟨_, rfl, rfl, _, rfl, ?_⟩
        refine ite2 (fun c3 => ?_) (fun c3 => ?_)
        · refine ⟨_, rfl, _, rfl, _, rfl, by show 2 ≤ sizeLine; decide, fun x hx => ?_⟩
          refine rd_pick s1.gs (by have := s1.c2; omega) hx (by show 1 ≤ 2; decide) (by show 2 ≤ 1000; decide) fun v H5 hv s5 => ?_
          have t5 := s1.tick s5
          refine rd_put t5.gs (by have := t5.len; omega) fun H6 s6 => ?_
          have L := line_ok (Nat.le_trans t5.len (show _ ≤ 15000 by omega))
          exact q _ _ _ _ ((t5.trans s6).more (by omega)) ((Good.nil k).put (Nat.le_refl _) (b_clear hv) L.1 L.2)
        · have d1 : ¬ i < 2 := fun z => c1 (decide_eq_true z)
          have d2 : ¬ i = 2 := fun z => c2 (by rw [z]; rfl)
          have d3 : ¬ i = 3 := fun z => c3 (by rw [z]; rfl)
          have e0 : ¬ e ≤ 0 := fun z => by have := i4 z; omega
          obtain ⟨d', rfl⟩ : ∃ d', d = d' + 1 := ⟨d - 1, by omega⟩
          have eB : bD (d' + 1) = 2 * bD d' + 200 := rfl
          have cc : CC n e (2 * bD d' + 150) := ⟨d', by omega, by omega, rfl⟩
          refine ⟨_, rfl, _, _, rfl, rfl, _, rfl, ?_⟩
          refine ite2 (fun c4 => ?_) (fun c4 => ?_)
          · refine ⟨_, rfl, _, rfl, _, rfl, _, rfl, _, rfl, p, _, _, _, _, _, rfl, cc, s1.gs, (by have := s1.c2; omega), (by omega), (by have := s1.k2; omega), fun c4 n4 k4 H4 s4 g4 => ?_⟩
            exact q _ _ _ _ ((s1.trans s4).more (by omega)) ((Good.nil k).app g4 (Nat.le_refl _) s4.k1)
          · refine ⟨_, rfl, _, _, rfl, rfl, _, rfl, ?_⟩
            refine ite2 (fun c5 => ?_) (fun c5 => ?_)
            · refine ⟨_, rfl, _, rfl, _, rfl, _, rfl, _, rfl, p, _, _, _, _, _, rfl, cc, s1.gs, (by have := s1.c2; omega), (by omega), (by have := s1.k2; omega), fun c4 n4 k4 H4 s4 g4 => ?_⟩
              exact q _ _ _ _ ((s1.trans s4).more (by omega)) ((Good.nil k).app g4 (Nat.le_refl _) s4.k1)
            · refine ⟨_, rfl, rfl, _, rfl, ?_⟩
              refine ite2 (fun c6 => ?_) (fun c6 => ?_)
              · refine ⟨_, rfl, _, rfl, _, rfl, _, rfl, _, rfl, p, _, _, _, _, _, rfl, cc, s1.gs, (by have := s1.c2; omega), (by omega), (by have := s1.k2; omega), fun c4 n4 k4 H4 s4 g4 => ?_⟩
                exact q _ _ _ _ ((s1.trans s4).more (by omega)) ((Good.nil k).app g4 (Nat.le_refl _) s4.k1)
              · refine ⟨_, rfl, _, rfl, _, rfl, _, rfl, p, _, _, _, _, 3, rfl, cv0, s1.gs, (by have := s1.c2; omega), (by omega), (by have := s1.k2; omega), fun c4 n4 k4 H4 s4 g4 => ?_⟩
                have t4 := s1.trans s4
                refine ⟨_, rfl, rd_put t4.gs (by have := t4.len; omega) fun H6 s6 => ?_⟩
                have L := line_ok (Nat.le_trans t4.len (show _ ≤ 15000 by omega))
                exact q _ _ _ _ ((t4.trans s6).more (by omega)) (((Good.nil k).app g4 (Nat.le_refl _) s4.k1).put t4.k1 b_raise L.1 L.2)
theorem fn_deeds (DD : HasDef K mg "_law_deed" (top 55)) (DC : HasDef K mg "_law_choice" (top 56)) (DR : HasDef K mg "_law_round" (top 57)) (DT : HasDef K mg "_law_tried" (top 58)) (S : Smalls P w K mg base) (FV : FN P w K mg base 9 "_law_value" gps (spGen K (CV 3))) :
    ∀ n, FN P w K mg base (10 + 2 * n) "_law_deed" gps (spGen K (CD n))
  | 0 => fn_none0 DD (fun _ _ _ _ _ _ us hl => match us, hl with | [_, _, _, _, _], _ => rfl) fun e B ⟨d, _, h, _⟩ => absurd h (Nat.not_lt_zero _)
  | n + 1 => by
    have ih := fn_deeds DD DC DR DT S FV n
    exact fn_deed DD S FV (fn_choice DC S FV ih) (fn_round DR S FV ih) (fn_tried DT S ih)
/-- _law_code: rows that are a code, but for what stands ahead -/
def spLawCode (K : PySem.W.Frag) : Sp := fun vs H Q _ => ∃ (a t : Addr) (ns : List Int) (c : Nat) (cells : List Int) (many : Int), vs = [.ref a, .ref t, .int many] ∧ Scr K H a (ns.map V.int) ∧ ns.length ≤ 1000 ∧ cells.length = ns.length ∧ H t = some (.lst (townL c cells)) ∧ c ≤ 100 ∧ 1 ≤ many ∧ many ≤ 12 ∧
  ∀ (l : Addr) (as : List Addr) (rs : List Row) (k c' : Nat) (cells' : List Int) H', H' l = some (.lst (as.map V.ref)) → RowsIn H' as rs → Good 0 k rs → k ≤ 90 → 1 ≤ rs.length → rs.length ≤ 140 → l ≠ t → cells'.length = ns.length → H' t = some (.lst (townL c' cells')) → c' ≤ 14000 → Keep1 H H' t → Q (.ref l) H'
theorem sc59 : FnScope ["_law_script", "_law_town_here", "_law_many", "_law_rows", "_law_marks", "_law_k"] ["_law_script", "_law_town_here", "_law_many"] (defScope (top 59)) := ⟨rfl, rfl, rfl, by decide +kernel, rfl, by decide +kernel, by decide +kernel⟩
theorem cd2 : CD 3 2 968 := ⟨2, rfl, by decide, rfl⟩
theorem fn_lawcode (D : HasDef K mg "_law_code" (top 59)) (G : Glo mg) (S : Smalls P w K mg base) (FV : FN P w K mg base 9 "_law_value" gps (spGen K (CV 3))) (FD : FN P w K mg base 16 "_law_deed" gps (spGen K (CD 3))) : FN P w K mg base 17 "_law_code" ["_law_script", "_law_town_here", "_law_many"] (spLawCode K) := by
  refine FN.of D sc59 (fun _ _ _ _ _ _ us hl => match us, hl with | [_, _, _], _ => rfl) (fun vs H Q E h => by obtain ⟨a, t, ns, c, cells, many, rfl, _⟩ := h; rfl) (fun f cdv A outer s H vs Q E hr h => ?_)
  obtain ⟨a, t, ns, c, cells, many, rfl, hS, hns, hcl, hT, hc, hm1, hm2, q⟩ := h
  have hr1 := hr.mono (show 1 ≤ 16 by decide)
  have hr9 := hr.mono (show 9 ≤ 16 by decide)
  refine ⟨_, pss_cons (ps_set (i := 3) sc59.nd rfl (Or.inl rfl) (pe_lst pa_nil))
    (pss_cons (ps_set (i := 4) sc59.nd rfl (Or.inl rfl) (pe_lst pa_nil))
    (pss_cons (ps_for PassesOwn.never rfl (pi_range1 rfl G.range (pa_cons (pe_op op_add pe_int (pe_fn S.draw hr1 rfl (pa_cons (pv 0) (pa_cons (pv 1) (pa_cons (pv 2) pa_nil))))) pa_nil)) (pg_name (i := 5) sc59.nd rfl (Or.inl rfl))
      (pss_one (ps_if (pt_cmpR op_lt (pe_callB call_len_seq rfl G.len boot_len (pa_cons (pv 3) pa_nil)) pe_int (nomark _))
        (pss_one (ps_expr (pe_fn FD hr rfl (pa_cons (pv 0) (pa_cons (pv 1) (pa_cons (pv 3) (pa_cons (pv 4) (pa_cons pe_int pa_nil)))))))) pss_nil)))
    (pss_cons (ps_expr (pe_fn FV hr9 rfl (pa_cons (pv 0) (pa_cons (pv 1) (pa_cons (pv 3) (pa_cons (pv 4) (pa_cons pe_int pa_nil)))))))
    (pss_cons (ps_expr (pe_fnd S.put2 hr1 rfl (pa_cons (pv 3) (pa_cons pe_str pa_nil))))
    (pss_cons (ps_if (PW.pt (pw_or (pt_cmpR op_gt (pe_callB call_len_seq rfl G.len boot_len (pa_cons (pv 3) pa_nil)) pe_int (nomark _)) (pw_or1 (pt_cmpR op_gt (pe_callB call_len_seq rfl G.len boot_len (pa_cons (pv 4) pa_nil)) pe_int (nomark _)))))
      (pss_one (ps_ret (pe_lst (pa_cons (pe_tup (pa_cons pe_str (pa_cons pe_str (pa_cons pe_int pa_nil)))) (pa_cons (pe_tup (pa_cons pe_str (pa_cons pe_non (pa_cons pe_int pa_nil)))) pa_nil))))) pss_nil)
    (pss_one (ps_ret (pv 3)))))))), ?_⟩
  refine ⟨by show 0 ≤ sizeLine; decide, fun r hr0 => ⟨by show 0 ≤ sizeLine; decide, fun m hm0 => ?_⟩⟩
  have sr : Same H (upd H r (.lst [])) := same_new hr0 _
  have sm : Same (upd H r (.lst [])) (upd (upd H r (.lst [])) m (.lst [])) := same_new hm0 _
  have rm : r ≠ m := ne_of_none (H := upd H r (.lst [])) upd_same hm0
  have tr : t ≠ r := ne_of_none hT hr0
  have tm : t ≠ m := ne_of_none (sr _ _ hT) hm0
  have s02 := sr.trans sm
  generalize hH2 : upd (upd H r (.lst [])) m (.lst []) = H2 at *
  have hr2 : H2 r = some (.lst []) := by rw [← hH2, upd_ne rm]; exact upd_same
  have hm2' : H2 m = some (.lst []) := by rw [← hH2]; exact upd_same
  have g : GS K H2 ⟨a, t, r, m, ns⟩ c [] 0 := ⟨hS.keep fun o u e => s02 _ _ e, hns, ⟨cells, hcl, s02 _ _ hT⟩, ⟨[], hr2, .nil⟩, hm2', tr, tm, rm⟩
  generalize hp : (⟨a, t, r, m, ns⟩ : Pl) = p at *
  have pa : p.a = a := by rw [← hp]
  have pt : p.t = t := by rw [← hp]
  have pr : p.r = r := by rw [← hp]
  have pm : p.m = m := by rw [← hp]
  have pn : p.ns = ns := by rw [← hp]
  subst pa pt pr pm pn
  clear hp
  refine ⟨_, rfl, _, rfl, _, rfl, rd_draw g (by omega) (by omega) (by omega) fun j H3 j0 j1 s3 => ?_⟩
  refine ⟨_, _, rfl, rfl, 1 + j, rfl, by omega, by omega, for_range (lo := 0) (n := (1 + j).toNat) (fun i σ H4 => ∃ v c' new k', σ = [some (.ref p.a), some (.ref p.t), some (.int many), some (.ref p.r), some (.ref p.m), v] ∧ Step K H2 H4 p c [] 0 c' new k' (1 + 968 * i) ∧ Good 0 k' new)
    ⟨none, _, _, _, rfl, s3, Good.nil 0⟩ ?_ ?_⟩
  · rintro i σ H4 hi ⟨v, c', new, k', rfl, st, gd⟩
    have hin : i < 12 := by omega
    have l := st.len
    obtain ⟨as, h3, h4⟩ := st.gs.rows
    refine ⟨_, rfl, p.r, _, rfl, .inl (SqL.of h3), _, _, rfl, rfl, _, rfl, ?_⟩
    refine ite2 (fun c4 => ?_) (fun c4 => ?_)
    · refine ⟨_, rfl, _, rfl, _, rfl, _, rfl, p, _, _, _, _, 968, rfl, cd2, st.gs, (by have := st.c2; omega), (by simp at l ⊢; omega), (by have := st.k2; omega), fun c5 n5 k5 H5 s5 g5 => ?_⟩
      exact ⟨_, c5, new ++ n5, k5, rfl, (st.trans s5).more (by omega), gd.app g5 (Nat.zero_le _) s5.k1⟩
    · exact ⟨_, c', new, k', rfl, st.more (by omega), gd⟩
  rintro σ H4 ⟨v4, c4, n4, k4, rfl, t4, g4⟩
  have t4 := t4.more (show _ ≤ 11617 by omega)
  refine ⟨_, rfl, _, rfl, _, rfl, _, rfl, p, _, _, _, _, 31, rfl, cv1, t4.gs, (by have := t4.c2; omega), (by have := t4.len; simp at this ⊢; omega), (by have := t4.k2; omega), fun c5 n5 k5 H5 s5 g5 => ?_⟩
  have t5 := t4.trans s5
  refine ⟨_, rfl, rd_put t5.gs (by have := t5.len; simp at this ⊢; omega) fun H6 s6 => ?_⟩
  have t6 := t5.trans s6
  have L5 := line_ok (Nat.le_trans t5.len (show _ ≤ 15000 by simp))
  have g6 := (g4.app g5 (Nat.zero_le _) s5.k1).put (Nat.zero_le _) b_return L5.1 L5.2
  generalize hn : n4 ++ n5 ++ [(⟨Str.ofString "return", .non, 10 + (([] ++ (n4 ++ n5) : List Row).length : Int) / 2⟩ : Row)] = nn at *
  have hpos : 1 ≤ nn.length := by rw [← hn]; simp only [List.length_append, List.length_cons, List.length_nil, List.length_singleton]; omega
  obtain ⟨as, h3, h4⟩ := t6.gs.rows
  have hal : (as.map V.ref).length = nn.length := by rw [List.length_map, h4.len]; rfl
  obtain ⟨cells', hl', hT'⟩ := t6.gs.town
  have hc6 := t6.c2
  have kp : Keep1 H H6 p.t := fun b o e hb => t6.keep b o (s02 _ _ e) hb (ne_of_none e hr0) (fun z => by
    have := sr _ _ e
    rw [z, hm0] at this
    cases this)
  have two : ∀ H7, Same H6 H7 → ∀ x y l, H7 x = some (.tup [.str "load", .str "a", .int 7]) → H7 y = some (.tup [.str "return", .non, .int 8]) → H7 l = some (.lst [.ref x, .ref y]) → l ≠ p.t → Q (.ref l) H7 := fun H7 s7 x y l hx hy hl hlt => by
    have b1 : Bare "load" (.str "a") := b_load (by simp)
    refine q l [x, y] [⟨"load", .str "a", 7⟩, ⟨"return", .non, 8⟩] 0 _ cells' H7 hl (.cons hx (.cons hy .nil)) ?_ (by decide) (by simp) (by simp) hlt hl' (s7 _ _ hT') (by omega) fun b o e hb => s7 _ _ (kp b o e hb)
    exact (b1.good (by decide) (by decide) 0).put (Nat.le_refl _) b_return (by decide) (by decide)
  have fin : nn.length ≤ 140 → k5 ≤ 90 → Q (.ref p.r) H6 := fun h1 h2 => q p.r as nn k5 _ cells' H6 h3 h4 g6 h2 hpos h1 g.tr.symm hl' hT' (by omega) kp
  refine ⟨_, rfl, p.r, _, rfl, .inl (SqL.of h3), _, _, rfl, rfl, _, rfl, ?_⟩
  have short : tTup (tCons (tC (.str "load")) (tCons (tC (.str "a")) (tCons (tC (.int 7)) tNil))) [some (.ref p.a), some (.ref p.t), some (.int many), some (.ref p.r), some (.ref p.m), v4] H6 (fun x H7 => tTup (tCons (tC (.str "return")) (tCons (tC .non) (tCons (tC (.int 8)) tNil))) [some (.ref p.a), some (.ref p.t), some (.int many), some (.ref p.r), some (.ref p.m), v4] H7 fun y H8 => [x, y].length ≤ sizeLine ∧ ∀ l, H8 l = none → Q (.ref l) (upd H8 l (.lst [x, y]))) := by
    refine ⟨by show 3 ≤ sizeLine; decide, fun x hx => ⟨by show 3 ≤ sizeLine; decide, fun y hy => ⟨by show 2 ≤ sizeLine; decide, fun l hl => ?_⟩⟩⟩
    have sx : Same H6 (upd H6 x (.tup [.str "load", .str "a", .int 7])) := same_new hx _
    have sy := same_new hy (.tup [.str "return", .non, .int 8])
    have sl := same_new hl (.lst [.ref x, .ref y])
    refine two _ (sx.trans (sy.trans sl)) x y l (sl _ _ (sy _ _ upd_same)) (sl _ _ upd_same) upd_same ?_
    exact (ne_of_none (sy _ _ (sx _ _ hT')) hl).symm
  refine ite2 (fun c1 => ?_) (fun c1 => ?_)
  · exact iteT short
  · have hn1 : nn.length ≤ 140 := by
      rw [hal] at c1
      have : ¬ ((140 : Int) < (nn.length : Int)) := fun z => c1 (decide_eq_true z)
      omega
    refine ⟨_, rfl, p.m, _, rfl, .inl (SqL.of t6.gs.marks), _, _, rfl, rfl, _, rfl, ?_⟩
    refine ite2 (fun c2 => short) (fun c2 => ?_)
    rw [marksL_len] at c2
    have hk : k5 ≤ 90 := by
      have : ¬ ((90 : Int) < (k5 : Int)) := fun z => c2 (decide_eq_true z)
      omega
    exact ⟨_, rfl, fin hn1 hk⟩
end
end My

set_option autoImplicit false
set_option linter.unusedVariables false
open PySem PySem.Spec PyProof.Rows L2
namespace My
theorem find_of_count {p : Row → Bool} : ∀ (l : List Row) (i : Nat) (r : Row), l[i]? = some r → p r = true → l.countP p ≤ 1 → l.findIdx? p = some i
  | [], _, _, h, _, _ => by simp at h
  | x :: l, 0, r, h, hp, _ => by
    have e : x = r := by simpa using h
    rw [List.findIdx?_cons, e, if_pos hp]
  | x :: l, i + 1, r, h, hp, hc => by
    have h' : l[i]? = some r := by simpa using h
    have hm := List.mem_of_getElem? h'
    have hpos : 0 < l.countP p := List.countP_pos_iff.mpr ⟨r, hm, hp⟩
    rw [List.countP_cons] at hc
    have hx : ¬ p x = true := fun e => by rw [if_pos e] at hc; omega
    rw [if_neg hx] at hc
    rw [List.findIdx?_cons, if_neg hx, find_of_count l i r h' hp hc]
    rfl
theorem find_some {p : Row → Bool} {l : List Row} (h : l.countP p ≠ 0) : (l.findIdx? p).isSome = true := by
  rw [List.findIdx?_isSome, List.any_eq_true]
  have : 0 < l.countP p := by omega
  obtain ⟨r, h1, h2⟩ := List.countP_pos_iff.mp this
  exact ⟨r, h1, h2⟩
theorem Good.mark {k : Nat} {rs : List Row} (g : Good 0 k rs) {r : Row} (hr : r ∈ rs) (hs : sortOf r.op = some ("mark" : Str)) {m : Nat} (hm : r.arg = .int (m : Int)) : lab m rs ≠ 0 := by
  by_cases c : r.op = "label"
  · have : 0 < rs.countP (isLab m) := List.countP_pos_iff.mpr ⟨r, hr, by unfold isLab; rw [decide_eq_true c, decide_eq_true hm]; rfl⟩
    unfold lab
    omega
  · refine g.useI m ?_
    have : 0 < rs.countP (isUse m) := List.countP_pos_iff.mpr ⟨r, hr, by unfold isUse; rw [decide_eq_true hs, decide_eq_true c, decide_eq_true hm]; rfl⟩
    unfold use
    omega
theorem Good.code {k : Nat} {rs : List Row} (g : Good 0 k rs) (hk : k ≤ 90) (h1 : 1 ≤ rs.length) (h2 : rs.length ≤ 150) : Code rs := by
  refine ⟨fun r hr => ?_, fun i r hi => ?_, h1, h2⟩
  · obtain ⟨s, hs, l0, l1, h⟩ := g.row r hr
    have hf : fitsV s r.arg = true := by
      rcases h with ⟨rfl, m, hm⟩ | ⟨_, hf⟩
      · have := (g.labI m (g.mark hr hs hm)).2
        rw [hm]
        exact fits_within (lo := 0) (hi := 99) (fun x => by rfl) (by omega) (by omega)
      · exact hf
    show rowV r.op r.arg (.int r.line) = true
    unfold rowV argFits
    rw [hs]
    show (true && fitsV s r.arg && within (.int r.line) 0 9999) = true
    rw [hf]
    show within (.int r.line) 0 9999 = true
    show (decide (0 ≤ r.line) && decide (r.line ≤ 9999)) = true
    rw [decide_eq_true l0, decide_eq_true l1]
    rfl
  · have hr := List.mem_of_getElem? hi
    obtain ⟨s, hs, l0, l1, h⟩ := g.row r hr
    unfold fitsAt
    by_cases c : r.op = "label"
    · rw [if_pos c]
      have e : s = "mark" := by
        rw [c, label_sort] at hs
        exact (Option.some.inj hs).symm
      rcases h with ⟨_, m, hm⟩ | ⟨hn, _⟩
      · rw [hm]
        show decide (firstLab rs (m : Int) = some i) = true
        exact decide_eq_true (find_of_count rs i r hi (by show (decide (r.op = "label") && decide (r.arg = .int (m : Int))) = true; rw [decide_eq_true c, decide_eq_true hm]; rfl) (g.lab1 m))
      · exact absurd e hn
    · rw [if_neg c]
      by_cases c2 : sortOf r.op = some ("mark" : Str)
      · rw [if_pos c2]
        have e : s = "mark" := by
          rw [c2] at hs
          exact (Option.some.inj hs).symm
        rcases h with ⟨_, m, hm⟩ | ⟨hn, _⟩
        · rw [hm]
          exact find_some (g.mark hr c2 hm)
        · exact absurd e hn
      · rw [if_neg c2]
end My

set_option Elab.async false
set_option linter.all false
set_option maxRecDepth 100000
set_option maxHeartbeats 8000000
namespace My
open PySem PySem.Spec PyProof.Rows L2
/-! rows as data, and their text -/
def dataV : V → PyData
  | .int i => .int i
  | .str x => .str x
  | .bl b => .bool b
  | _ => .none
def rowD (r : Row) : PyData := .tuple [.str r.op, dataV r.arg, .int r.line]
def rowsD (rs : List Row) : PyData := .list (rs.map rowD)
theorem scal_reads {h : Heap} {x : V} {u : Value} (s : Scal x) (r : RelV x u) : Reads h u (dataV x) [] := by
  cases s with
  | non => cases r; exact .none
  | bl b => cases r; exact .bool b
  | int i => obtain ⟨t, rfl⟩ := r; exact .int i t
  | str z _ => obtain ⟨t, rfl⟩ := r; exact .str z t
theorem row_reads {X : Cx} {pins : List (Addr × Obj)} {σ : L2.St} {H : Hp} {s : Shared} (I : Inv X pins σ H s) {a : Addr} {r : Row} (h : H a = some (.tup (tupV r))) (hs : Scal r.arg) : Reads s.heap (.ref a) (rowD r) [] := by
  obtain ⟨its, rv, ⟨o, ho, hc, n, hd⟩, _⟩ := I.tuple (SqT.of h)
  obtain ⟨u1, u2, u3, rfl, r1, r2, r3⟩ : ∃ u1 u2 u3, its = [u1, u2, u3] ∧ RelV (.str r.op) u1 ∧ RelV r.arg u2 ∧ RelV (.int r.line) u3 := by
    cases rv with
    | cons a b => cases b with
      | cons c d => cases d with
        | cons e f => cases f; exact ⟨_, _, _, rfl, a, c, e⟩
  obtain ⟨t1, rfl⟩ := r1
  obtain ⟨t3, rfl⟩ := r3
  have e : ([] : List Addr) = [] ++ ([] ++ ([] ++ [])) := rfl
  rw [e]
  exact .tuple ho hc hd (.cons (.str _ _) (.cons (scal_reads hs r2) (.cons (.int _ _) .nil)))
theorem rows_reads {X : Cx} {pins : List (Addr × Obj)} {σ : L2.St} {H : Hp} {s : Shared} (I : Inv X pins σ H s) : ∀ {as : List Addr} {rs : List Row}, RowsIn H as rs → (∀ r ∈ rs, RowOk r) → ReadsAll s.heap (as.map Value.ref) (rs.map rowD) []
  | _, _, .nil, _ => .nil
  | _, r :: rs, .cons h t, hk => by
    obtain ⟨_, _, _, _, _, _, hsc⟩ := (hk r (List.mem_cons_self ..)).parts
    have := ReadsAll.cons (row_reads I h hsc) (rows_reads I t fun y hy => hk y (List.mem_cons_of_mem _ hy))
    exact this
theorem ascii_signs {x : Str} (h : Txt.isascii x = true) : ∀ c ∈ x.cps.toList, c < 16 ^ 8 := fun c hc => by
  have := all_cps (x := x) (p := fun c => c < 128) h c hc
  simp only [decide_eq_true_eq] at this
  exact Nat.lt_trans this (by decide)
theorem op_signs {op s : Str} (h : sortOf op = some s) : ∀ c ∈ op.cps.toList, c < 16 ^ 8 := by
  have hm : op ∈ sortTab.map (·.1) := List.mem_map.mpr ⟨_, PySem.mem_of_lookup h, rfl⟩
  have all : ∀ z ∈ sortTab.map (·.1), Txt.isascii z = true := by decide +kernel
  exact ascii_signs (all op hm)
theorem arg_shown {s : Str} {x : V} (h : Arg s x) : (dataV x).shown.length ≤ 82 ∧ (dataV x).showable = true ∧ (dataV x).hasDict = false ∧ (dataV x).depth = 0 := by
  have num : ∀ i : Int, i.natAbs ≤ 10 ^ 9 → (PyData.int i).shown.length ≤ 82 ∧ (PyData.int i).showable = true ∧ (PyData.int i).hasDict = false ∧ (PyData.int i).depth = 0 := fun i hi =>
    ⟨by have := num_len hi; show (num i).length ≤ 82; omega, by simp only [PyData.showable]; exact decide_eq_true (small_log (by omega)), by simp only [PyData.hasDict], by simp only [PyData.depth]⟩
  have txt : ∀ z : Str, z.length ≤ 8 → Txt.isascii z = true → (PyData.str z).shown.length ≤ 82 ∧ (PyData.str z).showable = true ∧ (PyData.str z).hasDict = false ∧ (PyData.str z).depth = 0 := fun z hz ha =>
    ⟨by have := StrLaws.reprText_len z (ascii_signs ha); simp only [PyData.shown]; omega, by simp only [PyData.showable], by simp only [PyData.hasDict], by simp only [PyData.depth]⟩
  cases h with
  | non => exact ⟨by decide +kernel, by decide, by decide, by decide⟩
  | bl b => cases b <;> exact ⟨by decide +kernel, by decide, by decide, by decide⟩
  | int i h => exact num i h
  | kind z _ h8 ha _ => exact txt z h8 ha
  | name z _ h4 ha _ _ => exact txt z (by omega) ha
  | copied i h0 h1 => exact num i (by omega)
  | swapped i h0 h1 => exact num i (by omega)
  | mark i h0 h1 => exact num i (by omega)
  | bare => exact ⟨by decide +kernel, by decide, by decide, by decide⟩
theorem row_shown {r : Row} (h : RowOk r) : (rowD r).shown.length ≤ 200 ∧ (rowD r).showable = true ∧ (rowD r).hasDict = false ∧ (rowD r).depth = 1 := by
  obtain ⟨s, hs, ha, h0, h1, h7⟩ := h.arg
  obtain ⟨a1, a2, a3, a4⟩ := arg_shown ha
  have o1 := StrLaws.reprText_len r.op (op_signs hs)
  have l1 : (num r.line).length ≤ 11 := num_len (by omega)
  have l1' : (Str.ofString (toString r.line)).length ≤ 11 := l1
  refine ⟨?_, ?_, ?_, ?_⟩
  · unfold rowD
    simp only [PyData.shown, PyData.shownAll]
    refine Nat.le_trans (tupleText_len_le _) ?_
    simp only [List.map_cons, List.map_nil, List.sum_cons, List.sum_nil, List.length_cons, List.length_nil]
    omega
  · unfold rowD
    simp only [PyData.showable, PyData.showableAll, a2, Bool.true_and, Bool.and_true]
    exact decide_eq_true (small_log (by omega))
  · unfold rowD
    simp only [PyData.hasDict, PyData.hasDictAll, a3, Bool.or_self]
  · unfold rowD
    simp only [PyData.depth, PyData.depthAll, a4]
    rfl
theorem rows_shown : ∀ {rs : List Row}, (∀ r ∈ rs, RowOk r) → ((PyData.shownAll (rs.map rowD)).map (·.length)).sum ≤ 200 * rs.length ∧ (PyData.shownAll (rs.map rowD)).length = rs.length ∧ PyData.showableAll (rs.map rowD) = true ∧ PyData.hasDictAll (rs.map rowD) = false ∧ PyData.depthAll (rs.map rowD) ≤ 1
  | [], _ => ⟨by simp [PyData.shownAll], by simp [PyData.shownAll], by simp [PyData.showableAll], by simp [PyData.hasDictAll], by simp [PyData.depthAll]⟩
  | r :: rs, h => by
    obtain ⟨a1, a2, a3, a4⟩ := row_shown (h r (List.mem_cons_self ..))
    obtain ⟨b1, b2, b3, b4, b5⟩ := rows_shown fun y hy => h y (List.mem_cons_of_mem _ hy)
    refine ⟨?_, ?_, ?_, ?_, ?_⟩
    · simp only [List.map_cons, PyData.shownAll, List.sum_cons, List.length_cons, Nat.mul_add]
      omega
    · simp only [List.map_cons, PyData.shownAll, List.length_cons, b2]
    · simp only [List.map_cons, PyData.showableAll, a2, b3, Bool.and_self]
    · simp only [List.map_cons, PyData.hasDictAll, a3, b4, Bool.or_self]
    · simp only [List.map_cons, PyData.depthAll, a4]
      omega
def tShow (t : TE) : TE := fun σ H Q => t σ H fun x H1 => ∃ l as rs, x = .ref l ∧ H1 l = some (.lst (as.map V.ref)) ∧ RowsIn H1 as rs ∧ Code rs ∧ Q (.str (rowsD rs).shown) H1
theorem pe_show {X : Cx} {value : Expr} {pos : Pos} {t : TE} (hr : Room 1 X.A) (h : PE X value t) : PE X (.FormattedValue value (-1) none pos) (tShow t) := by
  intro pins s σ H Q I hq
  refine wpAny_FormattedValue_plain (thn (h pins s σ H _ I hq) fun v s1 h1 => ?_)
  have hg := hr.gd
  have hu := hr.un
  obtain ⟨x, H1, I1, r1, l, as, rs, rfl, hl, hR, hc, q⟩ := h1
  cases r1
  obtain ⟨its, rv, ⟨o, n, ho, hcl, _, hd⟩, _⟩ := I1.list (SqL.of hl)
  obtain rfl := vals_refs rv
  have rr : Reads s1.heap (.ref l) (rowsD rs) [l] := .list ho hcl hd (rows_reads I1 hR hc.ok)
  obtain ⟨b1, b2, b3, b4, b5⟩ := rows_shown hc.ok
  have hz := hc.hi
  refine formatField_of_reads rr (by unfold rowsD; simp only [PyData.showable, b3]) (PyData.noDict_hsm (by unfold rowsD; simp only [PyData.hasDict, b4])) hg (by unfold rowsD; simp only [PyData.depth]; omega) (fun _ _ e => e) (fun h' u tk hk => ?_) ?_
  · exact ⟨.str _, H1, I1.kept hk, ⟨_, rfl⟩, q⟩
  · unfold rowsD
    simp only [PyData.shown]
    refine Nat.le_trans (listText_len_le _) ?_
    rw [sizeLine_eq]
    omega
section
variable {P : Program} {w : World} {K : PySem.W.Frag} {mg : Str → Option Value} {base : Heap}
def spShow : Sp := fun vs H Q _ => ∃ l as rs, vs = [.ref l] ∧ H l = some (.lst (as.map V.ref)) ∧ RowsIn H as rs ∧ Code rs ∧ Q (.str (rowsD rs).shown) H
theorem sc60 : FnScope ["_law_thing"] ["_law_thing"] (defScope (top 60)) := ⟨rfl, rfl, rfl, by decide +kernel, rfl, by decide +kernel, by decide +kernel⟩
theorem fn_shown (D : HasDef K mg "_law_shown" (top 60)) : FN P w K mg base 2 "_law_shown" ["_law_thing"] spShow := by
  refine FN.of D sc60 (fun _ _ _ _ _ _ us hl => match us, hl with | [_], _ => rfl) (fun vs H Q E h => by obtain ⟨l, as, rs, rfl, _⟩ := h; rfl) (fun f cdv A outer s H vs Q E hr h => ?_)
  obtain ⟨l, as, rs, rfl, hl, hR, hc, q⟩ := h
  refine ⟨_, pss_one (ps_ret (pe_fstr1 (pe_show hr (pv 0)))), ?_⟩
  exact ⟨_, rfl, l, as, rs, rfl, hl, hR, hc, q⟩
def spTown (K : PySem.W.Frag) : Sp := fun vs H Q _ => ∃ (a : Addr) (ns : List Int), vs = [.ref a] ∧ Scr K H a (ns.map V.int) ∧ ns.length ≤ 1000 ∧ ∀ t H', Same H H' → H t = none → H' t = some (.lst (townL 0 ns)) → Q (.ref t) H'
theorem sc46 : FnScope ["_law_script"] ["_law_script"] (defScope (top 46)) := ⟨rfl, rfl, rfl, by decide +kernel, rfl, by decide +kernel, by decide +kernel⟩
theorem fn_town (D : HasDef K mg "_law_town" (top 46)) (G : Glo mg) : FN P w K mg base 1 "_law_town" ["_law_script"] (spTown K) := by
  refine FN.of D sc46 (fun _ _ _ _ _ _ us hl => match us, hl with | [_], _ => rfl) (fun vs H Q E h => by obtain ⟨a, ns, rfl, _⟩ := h; rfl) (fun f cdv A outer s H vs Q E hr h => ?_)
  obtain ⟨a, ns, rfl, hS, hn, q⟩ := h
  refine ⟨_, pss_one (ps_ret (pe_op op_cat (pe_lst (pa_cons pe_int pa_nil)) (pe_callTy call_list_of rfl G.list boot_list (pa_cons (pv 0) pa_nil)))), ?_⟩
  refine ⟨by show 1 ≤ sizeLine; decide, fun p hp => ?_⟩
  have sp := same_new hp (.lst [.int 0])
  refine ⟨_, rfl, a, ns.map V.int, rfl, .inl (hS.keep fun o u e => sp _ _ e).sq, fun l hl => ?_⟩
  have sl := same_new hl (.lst (ns.map V.int))
  have npl : p ≠ l := ne_of_none (H := upd H p (.lst [.int 0])) upd_same hl
  refine ⟨p, l, [.int 0], ns.map V.int, rfl, rfl, sl _ _ upd_same, upd_same, ?_, fun t ht => ?_⟩
  · rw [List.length_map, sizeLine_eq]
    show 1 + ns.length ≤ _
    omega
  · have st := same_new ht (.lst ([.int 0] ++ ns.map V.int))
    refine q t _ ((sp.trans sl).trans st) ?_ upd_same
    cases e : H t with
    | none => rfl
    | some o => rw [(sp.trans sl) _ _ e] at ht; cases ht
end
end My

set_option Elab.async false
set_option linter.all false
set_option maxRecDepth 100000
set_option maxHeartbeats 8000000
namespace My
open PySem PySem.Spec PyProof.Rows L2
section
variable {P : Program} {w : World} {K : PySem.W.Frag} {mg : Str → Option Value} {base : Heap}
def moreVs : List V := [.int (-(10 ^ (9 : Int).toNat)), .int (10 ^ (9 : Int).toNat), .str "aB", .bl true, .int 1, .int 0, .bl false]
theorem more_ok : ∀ v ∈ moreVs, pushedV v = true := by decide +kernel
def spLaw (K : PySem.W.Frag) : Sp := fun vs H Q _ => ∃ (a : Addr) (ns : List Int), vs = [.ref a] ∧ Scr K H a (ns.map V.int) ∧ ns.length ≤ 63 ∧ ∀ H', Q (.bl true) H'
theorem sc62 : FnScope ["_law_script", "_law_town_here", "_law_code_here", "_law_more", "_law_given_code", "_law_text", "_law_told"] ["_law_script"] (defScope (top 62)) := ⟨rfl, rfl, rfl, by decide +kernel, rfl, by decide +kernel, by decide +kernel⟩
theorem fn_law {f : Addr} {fd : FuncData} (D : Fun K "law" "law" (top 62) f fd) (G : Glo mg) (FT : FN P w K mg base 1 "_law_town" ["_law_script"] (spTown K)) (FLC : FN P w K mg base 17 "_law_code" ["_law_script", "_law_town_here", "_law_many"] (spLawCode K))
    (FP : FN P w K mg base 2 "_law_pick" ["_law_script", "_law_town_here", "_law_some"] (spPick K)) (FC : FN P w K mg base 10 "code_text" ["code"] spCode) (FLL : FN P w K mg base 1 "_law_line" ["_law_row"] spText)
    (FR : FN P w K mg base 9 "read_code" ["text"] spReadCode) (FS : FN P w K mg base 2 "_law_shown" ["_law_thing"] spShow) : FnOk P w K mg base CX0 18 f fd ["_law_script"] (spLaw K) := by
  refine D.ok sc62 (fun vs H Q E h => by obtain ⟨a, ns, rfl, _⟩ := h; rfl) (fun cdv A outer s H vs Q E hr h => ?_)
  obtain ⟨a, ns, rfl, hS, hns, q⟩ := h
  have hr1 := hr.mono (show 1 ≤ 17 by decide)
  have hr2 := hr.mono (show 2 ≤ 17 by decide)
  have hr9 := hr.mono (show 9 ≤ 17 by decide)
  have hr10 := hr.mono (show 10 ≤ 17 by decide)
  have hu : (A.deeper (envOfC "law" (defScope (top 62)) s.heap.objs.size f cdv)).units < cLine := by have := hr.un; omega
  refine ⟨_, pss_cons (ps_set (i := 1) sc62.nd rfl (Or.inl rfl) (pe_fn FT hr1 rfl (pa_cons (pv 0) pa_nil)))
    (pss_cons (ps_set (i := 2) sc62.nd rfl (Or.inl rfl) (pe_fn FLC hr rfl (pa_cons (pv 0) (pa_cons (pv 1) (pa_cons pe_int pa_nil)))))
    (pss_cons (ps_set (i := 3) sc62.nd rfl (Or.inl rfl) (pe_lst (pa_cons (pe_tup (pa_cons pe_str (pa_cons (pe_fn FP hr2 rfl (pa_cons (pv 0) (pa_cons (pv 1) (pa_cons (pe_lst (pa_cons (pe_un un_neg (pe_op op_pow pe_int pe_int)) (pa_cons (pe_op op_pow pe_int pe_int) (pa_cons pe_str (pa_cons pe_bl (pa_cons pe_int (pa_cons pe_int (pa_cons pe_bl pa_nil)))))))) pa_nil)))) (pa_cons pe_int pa_nil))))
      (pa_cons (pe_tup (pa_cons pe_str (pa_cons pe_non (pa_cons pe_int pa_nil)))) pa_nil))))
    (pss_cons (ps_set (i := 2) sc62.nd rfl (Or.inl rfl) (pe_op op_cat (pv 3) (pv 2)))
    (pss_cons (ps_set (i := 4) sc62.nd rfl (Or.inl rfl) (pe_callTy call_list_of rfl G.list boot_list (pa_cons (pv 2) pa_nil)))
    (pss_cons (ps_set (i := 5) sc62.nd rfl (Or.inl rfl) (pe_fn FC hr10 rfl (pa_cons (pv 4) pa_nil)))
    (pss_cons (ps_if (PW.pt (pw_or (pt_cmpR op_ne (pv 5) (pe_bm F.plainAttrs_str F.slot_str_join F.type_str_join mt_join pe_str (pa_cons (pe_comp rfl ⟨by decide +kernel, by decide +kernel, rfl, by decide +kernel, rfl⟩ (pi_list (pv 2))
      (fun _ _ _ _ => pe_op op_add_str (pe_fn FLL hr1 rfl (pa_cons (pv 0) pa_nil)) pe_str)) pa_nil)) (nomark _)) (pw_or1 (pt_cmpR (op_neS hu) (pv 4) (pv 2) (nomark _)))))
      (pss_one (ps_ret pe_bl)) pss_nil)
    (pss_cons (ps_set (i := 6) sc62.nd rfl (Or.inl rfl) (pe_fn FR hr9 rfl (pa_cons (pv 5) pa_nil)))
    (pss_one (ps_ret (pe_and (pe_cmpR op_eq (pe_fn FS hr2 rfl (pa_cons (pv 6) pa_nil)) (pe_fn FS hr2 rfl (pa_cons (pv 2) pa_nil)) (nomark _))
      (pe_and (pe_callB call_isinst rfl G.isinstance boot_isinstance (pa_cons (pv 6) (pa_cons (pe_ty "list" rfl G.list boot_list) pa_nil)))
        (pe_one (pe_cmpR op_eq (pe_fn FC hr10 rfl (pa_cons (pv 6) pa_nil)) (pv 5) (nomark _)))))))))))))), ?_⟩
  refine ⟨_, rfl, a, ns, rfl, hS, by omega, fun t H1 s1 ht hT1 => ?_⟩
  have hS1 : Scr K H1 a (ns.map V.int) := hS.keep fun o u e => s1 _ _ e
  refine ⟨_, rfl, _, rfl, a, t, ns, 0, ns, 5, rfl, hS1, by omega, rfl, hT1, by omega, by decide, by decide, fun l as rs k c2 cells2 H2 hl2 hR2 g hk hlo hhi hlt hcl2 hT2 hc2 kp2 => ?_⟩
  have hS2 := hS1.keep1 kp2 hT1
  refine ⟨_, rfl, _, rfl, _, _, rfl, rfl, ⟨by decide, by decide, by decide⟩, _, rfl, _, _, rfl, rfl, ⟨by decide, by decide, by decide⟩, by show 7 ≤ sizeLine; decide, fun p hp => ?_⟩
  have sp := same_new hp (.lst moreVs)
  refine ⟨a, t, p, ns, c2, cells2, moreVs, rfl, hS2.keep fun o u e => sp _ _ e, by omega, hcl2, sp _ _ hT2, by omega, upd_same, (ne_of_none hT2 hp).symm, by decide, by decide, fun v cells3 H3 hv hcl3 hT3 kp3 => ?_⟩
  have k23 : ∀ b o, H2 b = some o → b ≠ t → H3 b = some o := fun b o e hb => kp3 b o (sp _ _ e) hb
  have hl3 : H3 l = some (.lst (as.map V.ref)) := k23 _ _ hl2 hlt
  have hR3 : RowsIn H3 as rs := hR2.keep fun b xs e => k23 b _ e (ne_of e hT2 nofun)
  refine ⟨by show 3 ≤ sizeLine; decide, fun b1 hb1 => ⟨by show 3 ≤ sizeLine; decide, fun b2 hb2 => ⟨by show 2 ≤ sizeLine; decide, fun m hm => ?_⟩⟩⟩
  have st1 := same_new hb1 (.tup [.str "push", v, .int 0])
  have st2 := same_new hb2 (.tup [.str "drop", .non, .int 9999])
  have st3 := same_new hm (.lst [.ref b1, .ref b2])
  have s3m := (st1.trans st2).trans st3
  have hRm : RowsIn _ [b1, b2] [⟨"push", v, 0⟩, ⟨"drop", .non, 9999⟩] := .cons ((st2.trans st3) _ _ upd_same) (.cons (st3 _ _ upd_same) .nil)
  have hM := hRm.append (hR3.same s3m)
  have hgood : Good 0 k ([⟨"push", v, 0⟩, ⟨"drop", .non, 9999⟩] ++ rs) := by
    have x1 := (b_push (more_ok v hv)).good (l := 0) (by decide) (by decide) 0
    have x2 := b_drop.good (l := 9999) (by decide) (by decide) 0
    exact (x1.app x2 (Nat.zero_le _) (Nat.zero_le _)).app g (Nat.zero_le _) (Nat.zero_le _)
  have hC : Code ([⟨"push", v, 0⟩, ⟨"drop", .non, 9999⟩] ++ rs) := hgood.code hk (by simp) (by simp; omega)
  generalize hrr : ([⟨"push", v, 0⟩, ⟨"drop", .non, 9999⟩] ++ rs : List Row) = rr at *
  have hm4 : upd (upd (upd H3 b1 (.tup [.str "push", v, .int 0])) b2 (.tup [.str "drop", .non, .int 9999])) m (.lst [.ref b1, .ref b2]) m = some (.lst [.ref b1, .ref b2]) := upd_same
  have hl4 := s3m _ _ hl3
  refine ⟨_, rfl, _, rfl, m, l, [.ref b1, .ref b2], as.map V.ref, rfl, rfl, upd_same, hl4, ?_, fun c hc => ?_⟩
  · rw [sizeLine_eq, List.length_map, hR3.len]
    show 2 + rs.length ≤ _
    omega
  have sc := same_new hc (.lst ([.ref b1, .ref b2] ++ as.map V.ref))
  have hlc : upd (upd (upd (upd H3 b1 (.tup [.str "push", v, .int 0])) b2 (.tup [.str "drop", .non, .int 9999])) m (.lst [.ref b1, .ref b2])) c (.lst ([.ref b1, .ref b2] ++ as.map V.ref)) c = some (.lst (([b1, b2] ++ as).map V.ref)) := by rw [List.map_append]; exact upd_same
  have hM5 := hM.same sc
  generalize [b1, b2] ++ as = bs at *
  generalize upd (upd (upd (upd H3 b1 (.tup [.str "push", v, .int 0])) b2 (.tup [.str "drop", .non, .int 9999])) m (.lst [.ref b1, .ref b2])) c (.lst ([.ref b1, .ref b2] ++ as.map V.ref)) = H5 at *
  clear sc hm4 hl4 hRm hM s3m st1 st2 st3 hl3 hR3 k23 kp3 sp
  refine ⟨_, rfl, c, bs.map V.ref, rfl, .inl (SqL.of hlc), fun e he => ?_⟩
  have se := same_new he (.lst (bs.map V.ref))
  refine ⟨_, rfl, e, bs, rr, rfl, upd_same, hM5.same se, hC, fun H7 s7 => ?_⟩
  have hc7 : H7 c = some (.lst (bs.map V.ref)) := s7 _ _ (se _ _ hlc)
  have he7 : H7 e = some (.lst (bs.map V.ref)) := s7 _ _ upd_same
  have hR7 : RowsIn H7 bs rr := (hM5.same se).same s7
  have hS7 : SqL K H7 c (bs.map V.ref) := SqL.of hc7
  have hll : bs.length = rr.length := hR7.len
  have hml : (bs.map V.ref).length = rr.length := by rw [List.length_map]; exact hll
  refine ⟨_, rfl, rfl, _, rfl, c, rfl, ⟨_, hS7⟩, fun p hp => comp_list (K := K) (a := c) (xs := bs.map V.ref) (fun i ys H2 => ys = (rr.take i).map (fun r => V.str (fed r)) ∧ Same H7 H2 ∧ H2 p = some (.lst ys))
    ⟨rfl, same_new hp _, upd_same⟩ (fun i ys H2 _ ⟨_, s2, _⟩ => s2.seq hS7) ?_ ?_⟩
  · rintro i x ys H2 hi ⟨rfl, s2, hp2⟩
    obtain ⟨a, r, rfl, hr1, ha⟩ := (hR7.same s2).get hi
    have hil : i < rr.length := (List.getElem?_eq_some_iff.mp hr1).1
    have hro := hC.ok r (List.mem_of_getElem? hr1)
    have hlen := lineText_len hro
    refine ⟨_, rfl, a, r, rfl, ha, hro, _, _, rfl, rfl, small7 (by rw [len_lf]; omega), hp2, ?_, _, by omega, rfl, by omega, ?_, ?_, upd_same⟩
    · rw [List.length_map, List.length_take]
      have := hC.hi
      exact small1000 (by omega)
    · rw [take_snoc hr1, List.map_append]
      rfl
    · exact My.Same.upd s2 hp _
  · rintro ys H8 ⟨rfl, s8, hp8⟩
    rw [hml, List.take_length] at hp8
    refine ⟨"", p, rr.map fed, rfl, rfl, SqL.of (by rw [List.map_map]; exact hp8), feds_bound hC.ok hC.hi, ?_⟩
    have hc8 : H8 c = some (.lst (bs.map V.ref)) := s8 _ _ hc7
    have he8 : H8 e = some (.lst (bs.map V.ref)) := s8 _ _ he7
    refine ⟨rfl, false, by show V.bl (!decide (V.str (codeText rr) = V.str (codeText rr))) = V.bl false; rw [decide_eq_true rfl]; rfl, iteF ?_⟩
    refine ⟨_, rfl, _, rfl, e, c, bs, rfl, rfl, SqL.of he8, SqL.of hc8, false, rfl, iteF ?_⟩
    refine ⟨_, rfl, rr, rfl, hC, fun l9 as9 H9 s9 hn9 hl9 hR9 => ?_⟩
    have hc9 : H9 c = some (.lst (bs.map V.ref)) := s9 _ _ hc8
    have hR9' : RowsIn H9 bs rr := (hR7.same s8).same s9
    refine ⟨_, rfl, l9, as9, rr, rfl, hl9, hR9, hC, _, rfl, c, bs, rr, rfl, hc9, hR9', hC, rfl, true, ?_, iteT ?_⟩
    · rw [decide_eq_true rfl]
    refine ⟨_, rfl, _, "list", _, true, rfl, .lst hl9, rfl, _, rfl, iteT ?_⟩
    refine ⟨_, rfl, l9, as9, rr, rfl, hl9, hR9, hC, fun H10 s10 => ⟨_, rfl, rfl, ?_⟩⟩
    show Q (.bl (decide (V.str (codeText rr) = V.str (codeText rr)))) H10
    rw [decide_eq_true rfl]
    exact q H10
end
end My

set_option Elab.async false
set_option linter.all false
set_option maxRecDepth 100000
set_option maxHeartbeats 8000000
namespace My
open PySem PySem.Spec PyProof.Rows L2
section
variable {P : Program} {w : World} {K : PySem.W.Frag} {mg : Str → Option Value} {base : Heap}
structure Defs (K : PySem.W.Frag) (mg : Str → Option Value) : Prop where
  d12 : HasDef K mg "is_number" (top 12)
  d13 : HasDef K mg "is_number_within" (top 13)
  d14 : HasDef K mg "is_letters" (top 14)
  d15 : HasDef K mg "is_name" (top 15)
  d16 : HasDef K mg "is_kind" (top 16)
  d17 : HasDef K mg "is_mark" (top 17)
  d18 : HasDef K mg "is_value_within" (top 18)
  d19 : HasDef K mg "is_pushed" (top 19)
  d20 : HasDef K mg "is_copied" (top 20)
  d21 : HasDef K mg "is_swapped_with" (top 21)
  d22 : HasDef K mg "is_none" (top 22)
  d24 : HasDef K mg "is_op" (top 24)
  d25 : HasDef K mg "arg_sort" (top 25)
  d26 : HasDef K mg "arg_fits" (top 26)
  d27 : HasDef K mg "is_row" (top 27)
  d28 : HasDef K mg "label_places" (top 28)
  d29 : HasDef K mg "mark_fits" (top 29)
  d30 : HasDef K mg "first_bad_place" (top 30)
  d31 : HasDef K mg "has_places" (top 31)
  d32 : HasDef K mg "check_code" (top 32)
  d36 : HasDef K mg "value_text" (top 36)
  d37 : HasDef K mg "row_text" (top 37)
  d38 : HasDef K mg "code_text" (top 38)
  d39 : HasDef K mg "guessed_number" (top 39)
  d40 : HasDef K mg "guessed_arg" (top 40)
  d41 : HasDef K mg "guessed_row" (top 41)
  d42 : HasDef K mg "read_row" (top 42)
  d43 : HasDef K mg "written_lines" (top 43)
  d44 : HasDef K mg "read_code" (top 44)
  d46 : HasDef K mg "_law_town" (top 46)
  d47 : HasDef K mg "_law_draw" (top 47)
  d48 : HasDef K mg "_law_pick" (top 48)
  d49 : HasDef K mg "_law_const" (top 49)
  d51 : HasDef K mg "_law_mark" (top 51)
  d52 : HasDef K mg "_law_value" (top 52)
  d53 : HasDef K mg "_law_tried_value" (top 53)
  d54 : HasDef K mg "_law_moved_value" (top 54)
  d55 : HasDef K mg "_law_deed" (top 55)
  d56 : HasDef K mg "_law_choice" (top 56)
  d57 : HasDef K mg "_law_round" (top 57)
  d58 : HasDef K mg "_law_tried" (top 58)
  d59 : HasDef K mg "_law_code" (top 59)
  d60 : HasDef K mg "_law_shown" (top 60)
  d61 : HasDef K mg "_law_line" (top 61)
  d62 : HasDef K mg "law" (top 62)
theorem all_defs {f : Addr} {fd : FuncData} (DL : Fun K "law" "law" (top 62) f fd) (D : Defs K mg) (DP : HasDefN K mg "_law_put" (top 50)) (G : Glo mg) (T : Tabs w K mg) : FnOk P w K mg base CX0 18 f fd ["_law_script"] (spLaw K) := by
  have num := fn_is_number (P := P) (w := w) (base := base) D.d12 G
  have within := fn_within D.d13 G num
  have letters := fn_letters (P := P) (w := w) (base := base) D.d14 G
  have name := fn_name D.d15 G letters
  have kind := fn_kind D.d16 G letters
  have mark := fn_mark D.d17 G within
  have value := fn_value D.d18 G within kind
  have pushed := fn_pushed D.d19 G value
  have copied := fn_copied D.d20 within
  have swapped := fn_swapped D.d21 within
  have none := fn_none (P := P) (w := w) (base := base) D.d22
  have op := fn_op (P := P) (base := base) D.d24 G T
  have sort := fn_sort (P := P) (base := base) D.d25 T
  have fits := fn_fits D.d26 T sort pushed name copied swapped mark none
  have row := fn_row D.d27 G op fits within
  have labs := fn_labs D.d28 G row
  have mfits := fn_mark_fits D.d29 sort
  have bad := fn_bad D.d30 G row labs mfits
  have has := fn_has (P := P) (w := w) (base := base) D.d31 G
  have check := fn_check D.d32 has bad
  have valt := fn_valtext (P := P) (w := w) (base := base) D.d36 G
  have rowt := fn_rowtext D.d37 sort valt
  have code := fn_code D.d38 check rowt
  have guess := fn_guess (P := P) (w := w) (base := base) D.d39 G
  have garg := fn_garg D.d40 T sort guess
  have grow := fn_grow D.d41 G op guess garg
  have read := fn_read D.d42 grow row rowt
  have lines := fn_lines (P := P) (w := w) (base := base) D.d43 G
  have readc := fn_readcode D.d44 lines read bad
  have town := fn_town (P := P) (w := w) (base := base) D.d46 G
  have draw := fn_draw (P := P) (w := w) (base := base) D.d47 G
  have pick := fn_pick D.d48 G draw
  have const := fn_const D.d49 pick
  have put := fn_put (P := P) (w := w) (base := base) DP G
  have mk := fn_mk (P := P) (w := w) (base := base) D.d51 G
  have S : Smalls P w K mg base := ⟨draw, pick, const, put.1, put.2, mk⟩
  have V := fn_values D.d52 D.d53 D.d54 G S 3
  have DD := fn_deeds D.d55 D.d56 D.d57 D.d58 S V 3
  have lcode := fn_lawcode D.d59 G S V DD
  have shown := fn_shown (P := P) (w := w) (base := base) D.d60
  have line := fn_lawline (P := P) (w := w) (base := base) D.d61 G
  exact fn_law DL G town lcode pick code line readc shown
end
theorem hd_mk {K : PySem.W.Frag} {h : Heap} {mg : Str → Option Value} {x : Str} {st : Stmt} {f : Addr} {oc : Value} {od an : Option Addr} {osl : Array (Option Value)} {kV doc pm cdv ct : Value} (X : K.In h) (G : h.Ns mainGlobals mg)
    (a : PySem.W.nsIn K mainGlobals x = some (some (.ref f))) (l : K.lookup f = some ⟨oc, od, .func (PySem.W.fnOf x x (defArgs st) (defBody st) (defScope st) .none kV doc pm an cdv ct), osl⟩) (c : PySem.W.codeIn K cdv x = true) (k : PySem.W.keepIn K (.ref f) = true) : HasDef K mg x st :=
  ⟨f, _, fun_mk l c k, PySem.W.mg_of X G a⟩
theorem all_mk {l : PySem.W.OpenLaw} {w : World} {K : PySem.W.Frag} {h : Heap} {mg : Str → Option Value} {fa : Addr} (X : K.In h) (G : h.Ns mainGlobals mg) (hfa : mg "law" = some (.ref fa))
    {f12 : Addr} {od12 an12 : Option Addr} {sl12 : Array (Option Value)} {oc12 kV12 dc12 pm12 cd12 ct12 : Value}
    {f13 : Addr} {od13 an13 : Option Addr} {sl13 : Array (Option Value)} {oc13 kV13 dc13 pm13 cd13 ct13 : Value}
    {f14 : Addr} {od14 an14 : Option Addr} {sl14 : Array (Option Value)} {oc14 kV14 dc14 pm14 cd14 ct14 : Value}
    {f15 : Addr} {od15 an15 : Option Addr} {sl15 : Array (Option Value)} {oc15 kV15 dc15 pm15 cd15 ct15 : Value}
    {f16 : Addr} {od16 an16 : Option Addr} {sl16 : Array (Option Value)} {oc16 kV16 dc16 pm16 cd16 ct16 : Value}
    {f17 : Addr} {od17 an17 : Option Addr} {sl17 : Array (Option Value)} {oc17 kV17 dc17 pm17 cd17 ct17 : Value}
    {f18 : Addr} {od18 an18 : Option Addr} {sl18 : Array (Option Value)} {oc18 kV18 dc18 pm18 cd18 ct18 : Value}
    {f19 : Addr} {od19 an19 : Option Addr} {sl19 : Array (Option Value)} {oc19 kV19 dc19 pm19 cd19 ct19 : Value}
    {f20 : Addr} {od20 an20 : Option Addr} {sl20 : Array (Option Value)} {oc20 kV20 dc20 pm20 cd20 ct20 : Value}
    {f21 : Addr} {od21 an21 : Option Addr} {sl21 : Array (Option Value)} {oc21 kV21 dc21 pm21 cd21 ct21 : Value}
    {f22 : Addr} {od22 an22 : Option Addr} {sl22 : Array (Option Value)} {oc22 kV22 dc22 pm22 cd22 ct22 : Value}
    {f24 : Addr} {od24 an24 : Option Addr} {sl24 : Array (Option Value)} {oc24 kV24 dc24 pm24 cd24 ct24 : Value}
    {f25 : Addr} {od25 an25 : Option Addr} {sl25 : Array (Option Value)} {oc25 kV25 dc25 pm25 cd25 ct25 : Value}
    {f26 : Addr} {od26 an26 : Option Addr} {sl26 : Array (Option Value)} {oc26 kV26 dc26 pm26 cd26 ct26 : Value}
    {f27 : Addr} {od27 an27 : Option Addr} {sl27 : Array (Option Value)} {oc27 kV27 dc27 pm27 cd27 ct27 : Value}
    {f28 : Addr} {od28 an28 : Option Addr} {sl28 : Array (Option Value)} {oc28 kV28 dc28 pm28 cd28 ct28 : Value}
    {f29 : Addr} {od29 an29 : Option Addr} {sl29 : Array (Option Value)} {oc29 kV29 dc29 pm29 cd29 ct29 : Value}
    {f30 : Addr} {od30 an30 : Option Addr} {sl30 : Array (Option Value)} {oc30 kV30 dc30 pm30 cd30 ct30 : Value}
    {f31 : Addr} {od31 an31 : Option Addr} {sl31 : Array (Option Value)} {oc31 kV31 dc31 pm31 cd31 ct31 : Value}
    {f32 : Addr} {od32 an32 : Option Addr} {sl32 : Array (Option Value)} {oc32 kV32 dc32 pm32 cd32 ct32 : Value}
    {f36 : Addr} {od36 an36 : Option Addr} {sl36 : Array (Option Value)} {oc36 kV36 dc36 pm36 cd36 ct36 : Value}
    {f37 : Addr} {od37 an37 : Option Addr} {sl37 : Array (Option Value)} {oc37 kV37 dc37 pm37 cd37 ct37 : Value}
    {f38 : Addr} {od38 an38 : Option Addr} {sl38 : Array (Option Value)} {oc38 kV38 dc38 pm38 cd38 ct38 : Value}
    {f39 : Addr} {od39 an39 : Option Addr} {sl39 : Array (Option Value)} {oc39 kV39 dc39 pm39 cd39 ct39 : Value}
    {f40 : Addr} {od40 an40 : Option Addr} {sl40 : Array (Option Value)} {oc40 kV40 dc40 pm40 cd40 ct40 : Value}
    {f41 : Addr} {od41 an41 : Option Addr} {sl41 : Array (Option Value)} {oc41 kV41 dc41 pm41 cd41 ct41 : Value}
    {f42 : Addr} {od42 an42 : Option Addr} {sl42 : Array (Option Value)} {oc42 kV42 dc42 pm42 cd42 ct42 : Value}
    {f43 : Addr} {od43 an43 : Option Addr} {sl43 : Array (Option Value)} {oc43 kV43 dc43 pm43 cd43 ct43 : Value}
    {f44 : Addr} {od44 an44 : Option Addr} {sl44 : Array (Option Value)} {oc44 kV44 dc44 pm44 cd44 ct44 : Value}
    {f46 : Addr} {od46 an46 : Option Addr} {sl46 : Array (Option Value)} {oc46 kV46 dc46 pm46 cd46 ct46 : Value}
    {f47 : Addr} {od47 an47 : Option Addr} {sl47 : Array (Option Value)} {oc47 kV47 dc47 pm47 cd47 ct47 : Value}
    {f48 : Addr} {od48 an48 : Option Addr} {sl48 : Array (Option Value)} {oc48 kV48 dc48 pm48 cd48 ct48 : Value}
    {f49 : Addr} {od49 an49 : Option Addr} {sl49 : Array (Option Value)} {oc49 kV49 dc49 pm49 cd49 ct49 : Value}
    {f51 : Addr} {od51 an51 : Option Addr} {sl51 : Array (Option Value)} {oc51 kV51 dc51 pm51 cd51 ct51 : Value}
    {f52 : Addr} {od52 an52 : Option Addr} {sl52 : Array (Option Value)} {oc52 kV52 dc52 pm52 cd52 ct52 : Value}
    {f53 : Addr} {od53 an53 : Option Addr} {sl53 : Array (Option Value)} {oc53 kV53 dc53 pm53 cd53 ct53 : Value}
    {f54 : Addr} {od54 an54 : Option Addr} {sl54 : Array (Option Value)} {oc54 kV54 dc54 pm54 cd54 ct54 : Value}
    {f55 : Addr} {od55 an55 : Option Addr} {sl55 : Array (Option Value)} {oc55 kV55 dc55 pm55 cd55 ct55 : Value}
    {f56 : Addr} {od56 an56 : Option Addr} {sl56 : Array (Option Value)} {oc56 kV56 dc56 pm56 cd56 ct56 : Value}
    {f57 : Addr} {od57 an57 : Option Addr} {sl57 : Array (Option Value)} {oc57 kV57 dc57 pm57 cd57 ct57 : Value}
    {f58 : Addr} {od58 an58 : Option Addr} {sl58 : Array (Option Value)} {oc58 kV58 dc58 pm58 cd58 ct58 : Value}
    {f59 : Addr} {od59 an59 : Option Addr} {sl59 : Array (Option Value)} {oc59 kV59 dc59 pm59 cd59 ct59 : Value}
    {f60 : Addr} {od60 an60 : Option Addr} {sl60 : Array (Option Value)} {oc60 kV60 dc60 pm60 cd60 ct60 : Value}
    {f61 : Addr} {od61 an61 : Option Addr} {sl61 : Array (Option Value)} {oc61 kV61 dc61 pm61 cd61 ct61 : Value}
    {f62 : Addr} {od62 an62 : Option Addr} {sl62 : Array (Option Value)} {oc62 kV62 dc62 pm62 cd62 ct62 : Value}
    {f50 : Addr} {od50 an50 : Option Addr} {sl50 : Array (Option Value)} {oc50 kV50 dc50 pm50 cd50 ct50 : Value}
    {T50 ds dt dw : Addr} {to50 : Obj} {n50 ns nt nw : Nat} {es et ew : Array DictEntry}
    {urows : Value} {uline : Value} {umark : Value} {upushed : Value} {uname : Value} {ukind : Value} {ufigures : Value}
    (a12 : PySem.W.nsIn K mainGlobals "is_number" = some (some (.ref f12))) (l12 : K.lookup f12 = some ⟨oc12, od12, .func (PySem.W.fnOf "is_number" "is_number" (defArgs (top 12)) (defBody (top 12)) (defScope (top 12)) .none kV12 dc12 pm12 an12 cd12 ct12), sl12⟩) (c12 : PySem.W.codeIn K cd12 "is_number" = true) (k12 : PySem.W.keepIn K (.ref f12) = true)
    (a13 : PySem.W.nsIn K mainGlobals "is_number_within" = some (some (.ref f13))) (l13 : K.lookup f13 = some ⟨oc13, od13, .func (PySem.W.fnOf "is_number_within" "is_number_within" (defArgs (top 13)) (defBody (top 13)) (defScope (top 13)) .none kV13 dc13 pm13 an13 cd13 ct13), sl13⟩) (c13 : PySem.W.codeIn K cd13 "is_number_within" = true) (k13 : PySem.W.keepIn K (.ref f13) = true)
    (a14 : PySem.W.nsIn K mainGlobals "is_letters" = some (some (.ref f14))) (l14 : K.lookup f14 = some ⟨oc14, od14, .func (PySem.W.fnOf "is_letters" "is_letters" (defArgs (top 14)) (defBody (top 14)) (defScope (top 14)) .none kV14 dc14 pm14 an14 cd14 ct14), sl14⟩) (c14 : PySem.W.codeIn K cd14 "is_letters" = true) (k14 : PySem.W.keepIn K (.ref f14) = true)
    (a15 : PySem.W.nsIn K mainGlobals "is_name" = some (some (.ref f15))) (l15 : K.lookup f15 = some ⟨oc15, od15, .func (PySem.W.fnOf "is_name" "is_name" (defArgs (top 15)) (defBody (top 15)) (defScope (top 15)) .none kV15 dc15 pm15 an15 cd15 ct15), sl15⟩) (c15 : PySem.W.codeIn K cd15 "is_name" = true) (k15 : PySem.W.keepIn K (.ref f15) = true)
    (a16 : PySem.W.nsIn K mainGlobals "is_kind" = some (some (.ref f16))) (l16 : K.lookup f16 = some ⟨oc16, od16, .func (PySem.W.fnOf "is_kind" "is_kind" (defArgs (top 16)) (defBody (top 16)) (defScope (top 16)) .none kV16 dc16 pm16 an16 cd16 ct16), sl16⟩) (c16 : PySem.W.codeIn K cd16 "is_kind" = true) (k16 : PySem.W.keepIn K (.ref f16) = true)
    (a17 : PySem.W.nsIn K mainGlobals "is_mark" = some (some (.ref f17))) (l17 : K.lookup f17 = some ⟨oc17, od17, .func (PySem.W.fnOf "is_mark" "is_mark" (defArgs (top 17)) (defBody (top 17)) (defScope (top 17)) .none kV17 dc17 pm17 an17 cd17 ct17), sl17⟩) (c17 : PySem.W.codeIn K cd17 "is_mark" = true) (k17 : PySem.W.keepIn K (.ref f17) = true)
    (a18 : PySem.W.nsIn K mainGlobals "is_value_within" = some (some (.ref f18))) (l18 : K.lookup f18 = some ⟨oc18, od18, .func (PySem.W.fnOf "is_value_within" "is_value_within" (defArgs (top 18)) (defBody (top 18)) (defScope (top 18)) .none kV18 dc18 pm18 an18 cd18 ct18), sl18⟩) (c18 : PySem.W.codeIn K cd18 "is_value_within" = true) (k18 : PySem.W.keepIn K (.ref f18) = true)
    (a19 : PySem.W.nsIn K mainGlobals "is_pushed" = some (some (.ref f19))) (l19 : K.lookup f19 = some ⟨oc19, od19, .func (PySem.W.fnOf "is_pushed" "is_pushed" (defArgs (top 19)) (defBody (top 19)) (defScope (top 19)) .none kV19 dc19 pm19 an19 cd19 ct19), sl19⟩) (c19 : PySem.W.codeIn K cd19 "is_pushed" = true) (k19 : PySem.W.keepIn K (.ref f19) = true)
    (a20 : PySem.W.nsIn K mainGlobals "is_copied" = some (some (.ref f20))) (l20 : K.lookup f20 = some ⟨oc20, od20, .func (PySem.W.fnOf "is_copied" "is_copied" (defArgs (top 20)) (defBody (top 20)) (defScope (top 20)) .none kV20 dc20 pm20 an20 cd20 ct20), sl20⟩) (c20 : PySem.W.codeIn K cd20 "is_copied" = true) (k20 : PySem.W.keepIn K (.ref f20) = true)
    (a21 : PySem.W.nsIn K mainGlobals "is_swapped_with" = some (some (.ref f21))) (l21 : K.lookup f21 = some ⟨oc21, od21, .func (PySem.W.fnOf "is_swapped_with" "is_swapped_with" (defArgs (top 21)) (defBody (top 21)) (defScope (top 21)) .none kV21 dc21 pm21 an21 cd21 ct21), sl21⟩) (c21 : PySem.W.codeIn K cd21 "is_swapped_with" = true) (k21 : PySem.W.keepIn K (.ref f21) = true)
    (a22 : PySem.W.nsIn K mainGlobals "is_none" = some (some (.ref f22))) (l22 : K.lookup f22 = some ⟨oc22, od22, .func (PySem.W.fnOf "is_none" "is_none" (defArgs (top 22)) (defBody (top 22)) (defScope (top 22)) .none kV22 dc22 pm22 an22 cd22 ct22), sl22⟩) (c22 : PySem.W.codeIn K cd22 "is_none" = true) (k22 : PySem.W.keepIn K (.ref f22) = true)
    (a24 : PySem.W.nsIn K mainGlobals "is_op" = some (some (.ref f24))) (l24 : K.lookup f24 = some ⟨oc24, od24, .func (PySem.W.fnOf "is_op" "is_op" (defArgs (top 24)) (defBody (top 24)) (defScope (top 24)) .none kV24 dc24 pm24 an24 cd24 ct24), sl24⟩) (c24 : PySem.W.codeIn K cd24 "is_op" = true) (k24 : PySem.W.keepIn K (.ref f24) = true)
    (a25 : PySem.W.nsIn K mainGlobals "arg_sort" = some (some (.ref f25))) (l25 : K.lookup f25 = some ⟨oc25, od25, .func (PySem.W.fnOf "arg_sort" "arg_sort" (defArgs (top 25)) (defBody (top 25)) (defScope (top 25)) .none kV25 dc25 pm25 an25 cd25 ct25), sl25⟩) (c25 : PySem.W.codeIn K cd25 "arg_sort" = true) (k25 : PySem.W.keepIn K (.ref f25) = true)
    (a26 : PySem.W.nsIn K mainGlobals "arg_fits" = some (some (.ref f26))) (l26 : K.lookup f26 = some ⟨oc26, od26, .func (PySem.W.fnOf "arg_fits" "arg_fits" (defArgs (top 26)) (defBody (top 26)) (defScope (top 26)) .none kV26 dc26 pm26 an26 cd26 ct26), sl26⟩) (c26 : PySem.W.codeIn K cd26 "arg_fits" = true) (k26 : PySem.W.keepIn K (.ref f26) = true)
    (a27 : PySem.W.nsIn K mainGlobals "is_row" = some (some (.ref f27))) (l27 : K.lookup f27 = some ⟨oc27, od27, .func (PySem.W.fnOf "is_row" "is_row" (defArgs (top 27)) (defBody (top 27)) (defScope (top 27)) .none kV27 dc27 pm27 an27 cd27 ct27), sl27⟩) (c27 : PySem.W.codeIn K cd27 "is_row" = true) (k27 : PySem.W.keepIn K (.ref f27) = true)
    (a28 : PySem.W.nsIn K mainGlobals "label_places" = some (some (.ref f28))) (l28 : K.lookup f28 = some ⟨oc28, od28, .func (PySem.W.fnOf "label_places" "label_places" (defArgs (top 28)) (defBody (top 28)) (defScope (top 28)) .none kV28 dc28 pm28 an28 cd28 ct28), sl28⟩) (c28 : PySem.W.codeIn K cd28 "label_places" = true) (k28 : PySem.W.keepIn K (.ref f28) = true)
    (a29 : PySem.W.nsIn K mainGlobals "mark_fits" = some (some (.ref f29))) (l29 : K.lookup f29 = some ⟨oc29, od29, .func (PySem.W.fnOf "mark_fits" "mark_fits" (defArgs (top 29)) (defBody (top 29)) (defScope (top 29)) .none kV29 dc29 pm29 an29 cd29 ct29), sl29⟩) (c29 : PySem.W.codeIn K cd29 "mark_fits" = true) (k29 : PySem.W.keepIn K (.ref f29) = true)
    (a30 : PySem.W.nsIn K mainGlobals "first_bad_place" = some (some (.ref f30))) (l30 : K.lookup f30 = some ⟨oc30, od30, .func (PySem.W.fnOf "first_bad_place" "first_bad_place" (defArgs (top 30)) (defBody (top 30)) (defScope (top 30)) .none kV30 dc30 pm30 an30 cd30 ct30), sl30⟩) (c30 : PySem.W.codeIn K cd30 "first_bad_place" = true) (k30 : PySem.W.keepIn K (.ref f30) = true)
    (a31 : PySem.W.nsIn K mainGlobals "has_places" = some (some (.ref f31))) (l31 : K.lookup f31 = some ⟨oc31, od31, .func (PySem.W.fnOf "has_places" "has_places" (defArgs (top 31)) (defBody (top 31)) (defScope (top 31)) .none kV31 dc31 pm31 an31 cd31 ct31), sl31⟩) (c31 : PySem.W.codeIn K cd31 "has_places" = true) (k31 : PySem.W.keepIn K (.ref f31) = true)
    (a32 : PySem.W.nsIn K mainGlobals "check_code" = some (some (.ref f32))) (l32 : K.lookup f32 = some ⟨oc32, od32, .func (PySem.W.fnOf "check_code" "check_code" (defArgs (top 32)) (defBody (top 32)) (defScope (top 32)) .none kV32 dc32 pm32 an32 cd32 ct32), sl32⟩) (c32 : PySem.W.codeIn K cd32 "check_code" = true) (k32 : PySem.W.keepIn K (.ref f32) = true)
    (a36 : PySem.W.nsIn K mainGlobals "value_text" = some (some (.ref f36))) (l36 : K.lookup f36 = some ⟨oc36, od36, .func (PySem.W.fnOf "value_text" "value_text" (defArgs (top 36)) (defBody (top 36)) (defScope (top 36)) .none kV36 dc36 pm36 an36 cd36 ct36), sl36⟩) (c36 : PySem.W.codeIn K cd36 "value_text" = true) (k36 : PySem.W.keepIn K (.ref f36) = true)
    (a37 : PySem.W.nsIn K mainGlobals "row_text" = some (some (.ref f37))) (l37 : K.lookup f37 = some ⟨oc37, od37, .func (PySem.W.fnOf "row_text" "row_text" (defArgs (top 37)) (defBody (top 37)) (defScope (top 37)) .none kV37 dc37 pm37 an37 cd37 ct37), sl37⟩) (c37 : PySem.W.codeIn K cd37 "row_text" = true) (k37 : PySem.W.keepIn K (.ref f37) = true)
    (a38 : PySem.W.nsIn K mainGlobals "code_text" = some (some (.ref f38))) (l38 : K.lookup f38 = some ⟨oc38, od38, .func (PySem.W.fnOf "code_text" "code_text" (defArgs (top 38)) (defBody (top 38)) (defScope (top 38)) .none kV38 dc38 pm38 an38 cd38 ct38), sl38⟩) (c38 : PySem.W.codeIn K cd38 "code_text" = true) (k38 : PySem.W.keepIn K (.ref f38) = true)
    (a39 : PySem.W.nsIn K mainGlobals "guessed_number" = some (some (.ref f39))) (l39 : K.lookup f39 = some ⟨oc39, od39, .func (PySem.W.fnOf "guessed_number" "guessed_number" (defArgs (top 39)) (defBody (top 39)) (defScope (top 39)) .none kV39 dc39 pm39 an39 cd39 ct39), sl39⟩) (c39 : PySem.W.codeIn K cd39 "guessed_number" = true) (k39 : PySem.W.keepIn K (.ref f39) = true)
    (a40 : PySem.W.nsIn K mainGlobals "guessed_arg" = some (some (.ref f40))) (l40 : K.lookup f40 = some ⟨oc40, od40, .func (PySem.W.fnOf "guessed_arg" "guessed_arg" (defArgs (top 40)) (defBody (top 40)) (defScope (top 40)) .none kV40 dc40 pm40 an40 cd40 ct40), sl40⟩) (c40 : PySem.W.codeIn K cd40 "guessed_arg" = true) (k40 : PySem.W.keepIn K (.ref f40) = true)
    (a41 : PySem.W.nsIn K mainGlobals "guessed_row" = some (some (.ref f41))) (l41 : K.lookup f41 = some ⟨oc41, od41, .func (PySem.W.fnOf "guessed_row" "guessed_row" (defArgs (top 41)) (defBody (top 41)) (defScope (top 41)) .none kV41 dc41 pm41 an41 cd41 ct41), sl41⟩) (c41 : PySem.W.codeIn K cd41 "guessed_row" = true) (k41 : PySem.W.keepIn K (.ref f41) = true)
    (a42 : PySem.W.nsIn K mainGlobals "read_row" = some (some (.ref f42))) (l42 : K.lookup f42 = some ⟨oc42, od42, .func (PySem.W.fnOf "read_row" "read_row" (defArgs (top 42)) (defBody (top 42)) (defScope (top 42)) .none kV42 dc42 pm42 an42 cd42 ct42), sl42⟩) (c42 : PySem.W.codeIn K cd42 "read_row" = true) (k42 : PySem.W.keepIn K (.ref f42) = true)
    (a43 : PySem.W.nsIn K mainGlobals "written_lines" = some (some (.ref f43))) (l43 : K.lookup f43 = some ⟨oc43, od43, .func (PySem.W.fnOf "written_lines" "written_lines" (defArgs (top 43)) (defBody (top 43)) (defScope (top 43)) .none kV43 dc43 pm43 an43 cd43 ct43), sl43⟩) (c43 : PySem.W.codeIn K cd43 "written_lines" = true) (k43 : PySem.W.keepIn K (.ref f43) = true)
    (a44 : PySem.W.nsIn K mainGlobals "read_code" = some (some (.ref f44))) (l44 : K.lookup f44 = some ⟨oc44, od44, .func (PySem.W.fnOf "read_code" "read_code" (defArgs (top 44)) (defBody (top 44)) (defScope (top 44)) .none kV44 dc44 pm44 an44 cd44 ct44), sl44⟩) (c44 : PySem.W.codeIn K cd44 "read_code" = true) (k44 : PySem.W.keepIn K (.ref f44) = true)
    (a46 : PySem.W.nsIn K mainGlobals "_law_town" = some (some (.ref f46))) (l46 : K.lookup f46 = some ⟨oc46, od46, .func (PySem.W.fnOf "_law_town" "_law_town" (defArgs (top 46)) (defBody (top 46)) (defScope (top 46)) .none kV46 dc46 pm46 an46 cd46 ct46), sl46⟩) (c46 : PySem.W.codeIn K cd46 "_law_town" = true) (k46 : PySem.W.keepIn K (.ref f46) = true)
    (a47 : PySem.W.nsIn K mainGlobals "_law_draw" = some (some (.ref f47))) (l47 : K.lookup f47 = some ⟨oc47, od47, .func (PySem.W.fnOf "_law_draw" "_law_draw" (defArgs (top 47)) (defBody (top 47)) (defScope (top 47)) .none kV47 dc47 pm47 an47 cd47 ct47), sl47⟩) (c47 : PySem.W.codeIn K cd47 "_law_draw" = true) (k47 : PySem.W.keepIn K (.ref f47) = true)
    (a48 : PySem.W.nsIn K mainGlobals "_law_pick" = some (some (.ref f48))) (l48 : K.lookup f48 = some ⟨oc48, od48, .func (PySem.W.fnOf "_law_pick" "_law_pick" (defArgs (top 48)) (defBody (top 48)) (defScope (top 48)) .none kV48 dc48 pm48 an48 cd48 ct48), sl48⟩) (c48 : PySem.W.codeIn K cd48 "_law_pick" = true) (k48 : PySem.W.keepIn K (.ref f48) = true)
    (a49 : PySem.W.nsIn K mainGlobals "_law_const" = some (some (.ref f49))) (l49 : K.lookup f49 = some ⟨oc49, od49, .func (PySem.W.fnOf "_law_const" "_law_const" (defArgs (top 49)) (defBody (top 49)) (defScope (top 49)) .none kV49 dc49 pm49 an49 cd49 ct49), sl49⟩) (c49 : PySem.W.codeIn K cd49 "_law_const" = true) (k49 : PySem.W.keepIn K (.ref f49) = true)
    (a51 : PySem.W.nsIn K mainGlobals "_law_mark" = some (some (.ref f51))) (l51 : K.lookup f51 = some ⟨oc51, od51, .func (PySem.W.fnOf "_law_mark" "_law_mark" (defArgs (top 51)) (defBody (top 51)) (defScope (top 51)) .none kV51 dc51 pm51 an51 cd51 ct51), sl51⟩) (c51 : PySem.W.codeIn K cd51 "_law_mark" = true) (k51 : PySem.W.keepIn K (.ref f51) = true)
    (a52 : PySem.W.nsIn K mainGlobals "_law_value" = some (some (.ref f52))) (l52 : K.lookup f52 = some ⟨oc52, od52, .func (PySem.W.fnOf "_law_value" "_law_value" (defArgs (top 52)) (defBody (top 52)) (defScope (top 52)) .none kV52 dc52 pm52 an52 cd52 ct52), sl52⟩) (c52 : PySem.W.codeIn K cd52 "_law_value" = true) (k52 : PySem.W.keepIn K (.ref f52) = true)
    (a53 : PySem.W.nsIn K mainGlobals "_law_tried_value" = some (some (.ref f53))) (l53 : K.lookup f53 = some ⟨oc53, od53, .func (PySem.W.fnOf "_law_tried_value" "_law_tried_value" (defArgs (top 53)) (defBody (top 53)) (defScope (top 53)) .none kV53 dc53 pm53 an53 cd53 ct53), sl53⟩) (c53 : PySem.W.codeIn K cd53 "_law_tried_value" = true) (k53 : PySem.W.keepIn K (.ref f53) = true)
    (a54 : PySem.W.nsIn K mainGlobals "_law_moved_value" = some (some (.ref f54))) (l54 : K.lookup f54 = some ⟨oc54, od54, .func (PySem.W.fnOf "_law_moved_value" "_law_moved_value" (defArgs (top 54)) (defBody (top 54)) (defScope (top 54)) .none kV54 dc54 pm54 an54 cd54 ct54), sl54⟩) (c54 : PySem.W.codeIn K cd54 "_law_moved_value" = true) (k54 : PySem.W.keepIn K (.ref f54) = true)
    (a55 : PySem.W.nsIn K mainGlobals "_law_deed" = some (some (.ref f55))) (l55 : K.lookup f55 = some ⟨oc55, od55, .func (PySem.W.fnOf "_law_deed" "_law_deed" (defArgs (top 55)) (defBody (top 55)) (defScope (top 55)) .none kV55 dc55 pm55 an55 cd55 ct55), sl55⟩) (c55 : PySem.W.codeIn K cd55 "_law_deed" = true) (k55 : PySem.W.keepIn K (.ref f55) = true)
    (a56 : PySem.W.nsIn K mainGlobals "_law_choice" = some (some (.ref f56))) (l56 : K.lookup f56 = some ⟨oc56, od56, .func (PySem.W.fnOf "_law_choice" "_law_choice" (defArgs (top 56)) (defBody (top 56)) (defScope (top 56)) .none kV56 dc56 pm56 an56 cd56 ct56), sl56⟩) (c56 : PySem.W.codeIn K cd56 "_law_choice" = true) (k56 : PySem.W.keepIn K (.ref f56) = true)
    (a57 : PySem.W.nsIn K mainGlobals "_law_round" = some (some (.ref f57))) (l57 : K.lookup f57 = some ⟨oc57, od57, .func (PySem.W.fnOf "_law_round" "_law_round" (defArgs (top 57)) (defBody (top 57)) (defScope (top 57)) .none kV57 dc57 pm57 an57 cd57 ct57), sl57⟩) (c57 : PySem.W.codeIn K cd57 "_law_round" = true) (k57 : PySem.W.keepIn K (.ref f57) = true)
    (a58 : PySem.W.nsIn K mainGlobals "_law_tried" = some (some (.ref f58))) (l58 : K.lookup f58 = some ⟨oc58, od58, .func (PySem.W.fnOf "_law_tried" "_law_tried" (defArgs (top 58)) (defBody (top 58)) (defScope (top 58)) .none kV58 dc58 pm58 an58 cd58 ct58), sl58⟩) (c58 : PySem.W.codeIn K cd58 "_law_tried" = true) (k58 : PySem.W.keepIn K (.ref f58) = true)
    (a59 : PySem.W.nsIn K mainGlobals "_law_code" = some (some (.ref f59))) (l59 : K.lookup f59 = some ⟨oc59, od59, .func (PySem.W.fnOf "_law_code" "_law_code" (defArgs (top 59)) (defBody (top 59)) (defScope (top 59)) .none kV59 dc59 pm59 an59 cd59 ct59), sl59⟩) (c59 : PySem.W.codeIn K cd59 "_law_code" = true) (k59 : PySem.W.keepIn K (.ref f59) = true)
    (a60 : PySem.W.nsIn K mainGlobals "_law_shown" = some (some (.ref f60))) (l60 : K.lookup f60 = some ⟨oc60, od60, .func (PySem.W.fnOf "_law_shown" "_law_shown" (defArgs (top 60)) (defBody (top 60)) (defScope (top 60)) .none kV60 dc60 pm60 an60 cd60 ct60), sl60⟩) (c60 : PySem.W.codeIn K cd60 "_law_shown" = true) (k60 : PySem.W.keepIn K (.ref f60) = true)
    (a61 : PySem.W.nsIn K mainGlobals "_law_line" = some (some (.ref f61))) (l61 : K.lookup f61 = some ⟨oc61, od61, .func (PySem.W.fnOf "_law_line" "_law_line" (defArgs (top 61)) (defBody (top 61)) (defScope (top 61)) .none kV61 dc61 pm61 an61 cd61 ct61), sl61⟩) (c61 : PySem.W.codeIn K cd61 "_law_line" = true) (k61 : PySem.W.keepIn K (.ref f61) = true)
    (a62 : PySem.W.nsIn K mainGlobals "law" = some (some (.ref f62))) (l62 : K.lookup f62 = some ⟨oc62, od62, .func (PySem.W.fnOf "law" "law" (defArgs (top 62)) (defBody (top 62)) (defScope (top 62)) .none kV62 dc62 pm62 an62 cd62 ct62), sl62⟩) (c62 : PySem.W.codeIn K cd62 "law" = true) (k62 : PySem.W.keepIn K (.ref f62) = true)
    (a50 : PySem.W.nsIn K mainGlobals "_law_put" = some (some (.ref f50))) (l50 : K.lookup f50 = some ⟨oc50, od50, .func (PySem.W.fnOf "_law_put" "_law_put" (defArgs (top 50)) (defBody (top 50)) (defScope (top 50)) (.ref T50) kV50 dc50 pm50 an50 cd50 ct50), sl50⟩) (c50 : PySem.W.codeIn K cd50 "_law_put" = true) (k50 : PySem.W.keepIn K (.ref f50) = true) (t50 : K.lookup T50 = some to50) (s50 : to50.data = .seq #[Value.none] n50)
    (z_isinstance : PySem.W.nsIn K mainGlobals "isinstance" = some none)
    (z_int : PySem.W.nsIn K mainGlobals "int" = some none)
    (z_bool : PySem.W.nsIn K mainGlobals "bool" = some none)
    (z_str : PySem.W.nsIn K mainGlobals "str" = some none)
    (z_tuple : PySem.W.nsIn K mainGlobals "tuple" = some none)
    (z_list : PySem.W.nsIn K mainGlobals "list" = some none)
    (z_len : PySem.W.nsIn K mainGlobals "len" = some none)
    (z_range : PySem.W.nsIn K mainGlobals "range" = some none)
    (z_enumerate : PySem.W.nsIn K mainGlobals "enumerate" = some none)
    (q_rows : PySem.W.nsIn K mainGlobals "MOST_ROWS" = some (some urows)) (r_rows : RelV (.int 150) urows)
    (q_line : PySem.W.nsIn K mainGlobals "MOST_LINE" = some (some uline)) (r_line : RelV (.int 9999) uline)
    (q_mark : PySem.W.nsIn K mainGlobals "MOST_MARK" = some (some umark)) (r_mark : RelV (.int 99) umark)
    (q_pushed : PySem.W.nsIn K mainGlobals "MOST_PUSHED" = some (some upushed)) (r_pushed : RelV (.int 1000000000) upushed)
    (q_name : PySem.W.nsIn K mainGlobals "LONGEST_NAME" = some (some uname)) (r_name : RelV (.int 4) uname)
    (q_kind : PySem.W.nsIn K mainGlobals "LONGEST_KIND" = some (some ukind)) (r_kind : RelV (.int 8) ukind)
    (q_figures : PySem.W.nsIn K mainGlobals "MOST_FIGURES" = some (some ufigures)) (r_figures : RelV (.int 10) ufigures)
    (a_ds : PySem.W.nsIn K mainGlobals "ARG_SORTS" = some (some (.ref ds))) (l_ds : K.lookup ds = some ⟨.type "dict", none, .dict es ns, #[]⟩) (k_ds : PySem.W.KeysLit w.params es.toList) (m_ds : (ds == sysModules) = false) (p_ds : Paired (fun (p : Str × V) (e : DictEntry) => (∃ t, e.key = .str p.1 t) ∧ RelV p.2 e.val) sortsV es.toList)
    (a_dt : PySem.W.nsIn K mainGlobals "ARG_TESTS" = some (some (.ref dt))) (l_dt : K.lookup dt = some ⟨.type "dict", none, .dict et nt, #[]⟩) (k_dt : PySem.W.KeysLit w.params et.toList) (m_dt : (dt == sysModules) = false) (p_dt : Paired (fun (p : Str × V) (e : DictEntry) => (∃ t, e.key = .str p.1 t) ∧ RelV p.2 e.val) [("value", .ref f19), ("name", .ref f15), ("copied", .ref f20), ("swapped", .ref f21), ("mark", .ref f17), ("none", .ref f22)] et.toList)
    (a_dw : PySem.W.nsIn K mainGlobals "VALUE_WORDS" = some (some (.ref dw))) (l_dw : K.lookup dw = some ⟨.type "dict", none, .dict ew nw, #[]⟩) (k_dw : PySem.W.KeysLit w.params ew.toList) (m_dw : (dw == sysModules) = false) (p_dw : Paired (fun (p : Str × V) (e : DictEntry) => (∃ t, e.key = .str p.1 t) ∧ RelV p.2 e.val) [("none", .non), ("true", .bl true), ("false", .bl false)] ew.toList)
    : ∃ fd : FuncData, (∀ (s : Shared) (v : Value), BindsTo s fd ⟨[v], []⟩ [("_law_script", v)]) ∧ ∀ base : Heap, K.In base → base.Ns mainGlobals mg → FnOk l.prog w K mg base CX0 18 fa fd ["_law_script"] (spLaw K) := by
  have e := hfa.symm.trans (PySem.W.mg_of X G a62)
  cases e
  have D : Defs K mg := ⟨hd_mk X G a12 l12 c12 k12, hd_mk X G a13 l13 c13 k13, hd_mk X G a14 l14 c14 k14, hd_mk X G a15 l15 c15 k15, hd_mk X G a16 l16 c16 k16, hd_mk X G a17 l17 c17 k17, hd_mk X G a18 l18 c18 k18, hd_mk X G a19 l19 c19 k19, hd_mk X G a20 l20 c20 k20, hd_mk X G a21 l21 c21 k21, hd_mk X G a22 l22 c22 k22, hd_mk X G a24 l24 c24 k24, hd_mk X G a25 l25 c25 k25, hd_mk X G a26 l26 c26 k26, hd_mk X G a27 l27 c27 k27, hd_mk X G a28 l28 c28 k28, hd_mk X G a29 l29 c29 k29, hd_mk X G a30 l30 c30 k30, hd_mk X G a31 l31 c31 k31, hd_mk X G a32 l32 c32 k32, hd_mk X G a36 l36 c36 k36, hd_mk X G a37 l37 c37 k37, hd_mk X G a38 l38 c38 k38, hd_mk X G a39 l39 c39 k39, hd_mk X G a40 l40 c40 k40, hd_mk X G a41 l41 c41 k41, hd_mk X G a42 l42 c42 k42, hd_mk X G a43 l43 c43 k43, hd_mk X G a44 l44 c44 k44, hd_mk X G a46 l46 c46 k46, hd_mk X G a47 l47 c47 k47, hd_mk X G a48 l48 c48 k48, hd_mk X G a49 l49 c49 k49, hd_mk X G a51 l51 c51 k51, hd_mk X G a52 l52 c52 k52, hd_mk X G a53 l53 c53 k53, hd_mk X G a54 l54 c54 k54, hd_mk X G a55 l55 c55 k55, hd_mk X G a56 l56 c56 k56, hd_mk X G a57 l57 c57 k57, hd_mk X G a58 l58 c58 k58, hd_mk X G a59 l59 c59 k59, hd_mk X G a60 l60 c60 k60, hd_mk X G a61 l61 c61 k61, hd_mk X G a62 l62 c62 k62⟩
  have DP : HasDefN K mg "_law_put" (top 50) := ⟨f50, T50, oc50, kV50, dc50, pm50, cd50, ct50, od50, an50, sl50, to50, n50, PySem.W.mg_of X G a50, k50, l50, c50, t50, s50⟩
  have GG : Glo mg := ⟨PySem.W.mg_none_of X G z_isinstance, PySem.W.mg_none_of X G z_int, PySem.W.mg_none_of X G z_bool, PySem.W.mg_none_of X G z_str, PySem.W.mg_none_of X G z_tuple, PySem.W.mg_none_of X G z_list, PySem.W.mg_none_of X G z_len, PySem.W.mg_none_of X G z_range, PySem.W.mg_none_of X G z_enumerate, ⟨_, PySem.W.mg_of X G q_rows, r_rows⟩, ⟨_, PySem.W.mg_of X G q_line, r_line⟩, ⟨_, PySem.W.mg_of X G q_mark, r_mark⟩, ⟨_, PySem.W.mg_of X G q_pushed, r_pushed⟩, ⟨_, PySem.W.mg_of X G q_name, r_name⟩, ⟨_, PySem.W.mg_of X G q_kind, r_kind⟩, ⟨_, PySem.W.mg_of X G q_figures, r_figures⟩⟩
  have TT : Tabs w K mg := ⟨⟨ds, PySem.W.mg_of X G a_ds, es, ns, l_ds, k_ds, m_ds, p_ds⟩, ⟨dt, f19, f15, f20, f21, f17, f22, PySem.W.mg_of X G a_dt, ⟨et, nt, l_dt, k_dt, m_dt, p_dt⟩, PySem.W.mg_of X G a19, PySem.W.mg_of X G a15, PySem.W.mg_of X G a20, PySem.W.mg_of X G a21, PySem.W.mg_of X G a17, PySem.W.mg_of X G a22⟩, ⟨dw, PySem.W.mg_of X G a_dw, ew, nw, l_dw, k_dw, m_dw, p_dw⟩⟩
  have F3 := fun_mk (st := top 62) l62 c62 k62
  refine ⟨PySem.W.fnOf "law" "law" (defArgs (top 62)) (defBody (top 62)) (defScope (top 62)) .none kV62 dc62 pm62 an62 cd62 ct62, fun s v => .of_eq rfl, fun base _ _ => ?_⟩
  exact all_defs (P := l.prog) (w := w) (base := base) F3 D DP GG TT
theorem scr_of {K : PySem.W.Frag} {H : Hp} {a : Addr} {xs : List V} (hO : Only H) (h : SqL K H a xs) : Scr K H a xs := by
  rcases h with h | h
  · rcases h with h | ⟨o, h⟩
    · rcases hO a with z | ⟨o, ys, z⟩
      · rw [z] at h; cases h
      · rw [z] at h; cases h
    · exact .inl ⟨o, h⟩
  · exact .inr h
theorem walk {l : PySem.W.OpenLaw} {q : Program} {loose : List Str} {XP : (Str → Option Value) → Heap → Prop} {YP : World → Heap → Prop} {d : DefRec} {K : Params → PySem.W.Frag} (hn : l.most = some 63) (hdf : d.params.defaults = [])
    (hY : ∀ (w : World) (h : Heap), YP w h → (K w.params).In h)
    (F : ∀ (w : World) (mg : Str → Option Value) (fa : Addr) (h : Heap), (K w.params).In h → h.Ns mainGlobals mg → mg d.name = some (.ref fa) →
      ∃ fd : FuncData, (∀ (s : Shared) (u : Value), BindsTo s fd ⟨[u], []⟩ [("_law_script", u)]) ∧ ∀ base : Heap, (K w.params).In base → base.Ns mainGlobals mg → FnOk l.prog w (K w.params) mg base CX0 18 fa fd ["_law_script"] (spLaw (K w.params))) :
    PySem.W.WalkO q loose XP YP l.row.toRowW d [] (fun f vs => PySem.call f vs) :=
  L2.walk_of (n := 63) (k := 18) (x := "_law_script") (CX := fun _ => CX0) (sp := fun w => spLaw (K w.params)) hn (by decide) hdf ⟨rfl, by decide, by decide, rfl⟩ hY F (fun _ _ a ns hl hO hS => ⟨a, ns, rfl, scr_of hO hS, hl, fun _ => rfl⟩) fun _ _ _ _ _ z => z
end My

/-! ### the head: the names below keep its equations of whole heaps from being written out (they make the compiled file too large) -/
def PySem.W.Fast.tw9296360433889664002 : Nat := 0
def PySem.W.Fast.tw9497945907656264259 : Nat := 0
def PySem.W.Fast.tw1176975735165151067 : Nat := 0
def PySem.W.Fast.tw10426125643436316091 : Nat := 0
def PySem.W.Fast.tw9515242367644423802 : Nat := 0
def PySem.W.Fast.tw6397798872860733234 : Nat := 0
def PySem.W.Fast.tw14869557710840242666 : Nat := 0
def PySem.W.Fast.tw17643754061406199020 : Nat := 0
def PySem.W.Fast.tw11187973929812520656 : Nat := 0
def PySem.W.Fast.tw9601000219436670146 : Nat := 0
def PySem.W.Fast.tw15452572443179084588 : Nat := 0
def PySem.W.Fast.tw9156678896304099913 : Nat := 0
def PySem.W.Fast.tw15886500619415505586 : Nat := 0
def PySem.W.Fast.tw3520363519792060846 : Nat := 0
def PySem.W.Fast.tw12048056826642495367 : Nat := 0
def PySem.W.Fast.tw4419873286371483742 : Nat := 0
def PySem.W.Fast.tw9253131784100775993 : Nat := 0
def PySem.W.Fast.tw15221209806709932071 : Nat := 0
def PySem.W.Fast.tw11930311979851757478 : Nat := 0
def PySem.W.Fast.tw12798869161161681673 : Nat := 0
def PySem.W.Fast.tw10209164474934016114 : Nat := 0
def PySem.W.Fast.tw2257529940240947247 : Nat := 0
def PySem.W.Fast.tw12533650973541477374 : Nat := 0
def PySem.W.Fast.tw9840342860782594374 : Nat := 0
def PySem.W.Fast.tw3101917741504857134 : Nat := 0
def PySem.W.Fast.tw16002967266952078866 : Nat := 0
def PySem.W.Fast.tw17704188385166749297 : Nat := 0
def PySem.W.Fast.tw7523194637212750777 : Nat := 0
def PySem.W.Fast.tw4361700775904427359 : Nat := 0
def PySem.W.Fast.tw7498633149979677338 : Nat := 0
def PySem.W.Fast.tw3092117133297227249 : Nat := 0
def PySem.W.Fast.tw13840814423707232359 : Nat := 0
def PySem.W.Fast.tw15515405784836723652 : Nat := 0
def PySem.W.Fast.tw9563574807059059695 : Nat := 0
def PySem.W.Fast.tw17624731456758155189 : Nat := 0
def PySem.W.Fast.tw11519117686961666697 : Nat := 0
def PySem.W.Fast.tw2947586027576077979 : Nat := 0
def PySem.W.Fast.tw16932301668260661676 : Nat := 0
def PySem.W.Fast.tw16915470645016011554 : Nat := 0
def PySem.W.Fast.tw16472409268878238316 : Nat := 0
def PySem.W.Fast.tw10700183255674453818 : Nat := 0
def PySem.W.Fast.tw8164005668110941744 : Nat := 0
def PySem.W.Fast.tw13426244417702134072 : Nat := 0
def PySem.W.Fast.tw529536973988259948 : Nat := 0
def PySem.W.Fast.tw1906743188756502811 : Nat := 0
def PySem.W.Fast.tw8426798971799828003 : Nat := 0
def PySem.W.Fast.tw10335527622381539264 : Nat := 0
def PySem.W.Fast.tw14501001857826371202 : Nat := 0
def PySem.W.Fast.tw17925384258215065573 : Nat := 0
def PySem.W.Fast.tw4026151001005817321 : Nat := 0
def PySem.W.Fast.tw5030944203280556702 : Nat := 0
def PySem.W.Fast.tw7328447075739424539 : Nat := 0
def PySem.W.Fast.tw13517250619966689955 : Nat := 0
def PySem.W.Fast.tw16131593051203169754 : Nat := 0
def PySem.W.Fast.tw8933567498414919238 : Nat := 0
def PySem.W.Fast.tw5623994078177797194 : Nat := 0
def PySem.W.Fast.tw5312734613080425828 : Nat := 0
def PySem.W.Fast.tw10155365746132046468 : Nat := 0
def PySem.W.Fast.tw17849293660312457548 : Nat := 0
def PySem.W.Fast.tw14613296582639449008 : Nat := 0
def PySem.W.Fast.tw12018387782679925087 : Nat := 0
def PySem.W.Fast.tw13703212591675264748 : Nat := 0
def PySem.W.Fast.tw16745343075639119971 : Nat := 0
def PySem.W.Fast.tw16749348522385944071 : Nat := 0
def PySem.W.Fast.tw12996339429388188178 : Nat := 0
def PySem.W.Fast.tw69414778264802052 : Nat := 0
def PySem.W.Fast.tw7215932318001415403 : Nat := 0
def PySem.W.Fast.tw734138898119960010 : Nat := 0
def PySem.W.Fast.tw16950569574821323974 : Nat := 0
def PySem.W.Fast.tw3172541193896328996 : Nat := 0
def PySem.W.Fast.tw16172578528114110199 : Nat := 0
def PySem.W.Fast.tw14046510028866926921 : Nat := 0
def PySem.W.Fast.tw8789256864460932259 : Nat := 0
def PySem.W.Fast.tw15622835117965313283 : Nat := 0
def PySem.W.Fast.tw5388663596951873645 : Nat := 0
def PySem.W.Fast.tw11849525312028181438 : Nat := 0
def PySem.W.Fast.tw10785849952161257653 : Nat := 0
def PySem.W.Fast.tw1268874458988922593 : Nat := 0
def PySem.W.Fast.tw15943592676296772274 : Nat := 0
def PySem.W.Fast.tw7317576523658780031 : Nat := 0
def PySem.W.Fast.tw17312996333117680517 : Nat := 0
def PySem.W.Fast.tw7363425622247834253 : Nat := 0
def PySem.W.Fast.tw12941643214049860704 : Nat := 0
def PySem.W.Fast.tw13056512690104125533 : Nat := 0
def PySem.W.Fast.tw8934421753687110507 : Nat := 0
def PySem.W.Fast.tw4203021270051977171 : Nat := 0
def PySem.W.Fast.tw11418939547134857076 : Nat := 0
def PySem.W.Fast.tw3094701115853657799 : Nat := 0
def PySem.W.Fast.tw305048472116853797 : Nat := 0
def PySem.W.Fast.tw804092199982636349 : Nat := 0
def PySem.W.Fast.tw15508019666092448443 : Nat := 0
def PySem.W.Fast.tw13829591483307370896 : Nat := 0
def PySem.W.Fast.tw17969941481158815411 : Nat := 0
def PySem.W.Fast.tw16469568281967520401 : Nat := 0
def PySem.W.Fast.tw15213048550514571353 : Nat := 0
def PySem.W.Fast.tw17427895641331663283 : Nat := 0
def PySem.W.Fast.tw4033379813872489195 : Nat := 0
def PySem.W.Fast.tw14712817762504950641 : Nat := 0
def PySem.W.Fast.tw8903238766108814736 : Nat := 0
def PySem.W.Fast.tw539595736760451978 : Nat := 0
def PySem.W.Fast.tw16149030986926176842 : Nat := 0
def PySem.W.Fast.tw11622863634709415212 : Nat := 0
def PySem.W.Fast.tw13478877428745155630 : Nat := 0
def PySem.W.Fast.tw8436589768386056944 : Nat := 0
def PySem.W.Fast.tw10097012582147076362 : Nat := 0
def PySem.W.Fast.tw1147522009701800784 : Nat := 0
def PySem.W.Fast.tw17721039672839981703 : Nat := 0
def PySem.W.Fast.tw112567504061534027 : Nat := 0
def PySem.W.Fast.tw9192171586001469603 : Nat := 0
def PySem.W.Fast.tw9455475090630465045 : Nat := 0
def PySem.W.Fast.tw2766794811542550618 : Nat := 0
def PySem.W.Fast.tw17004574920194074796 : Nat := 0
def PySem.W.Fast.tw17845374550828520631 : Nat := 0
def PySem.W.Fast.tw14439765378166140033 : Nat := 0
def PySem.W.Fast.tw8454840944936950519 : Nat := 0
def PySem.W.Fast.tw18221076124747093969 : Nat := 0
def PySem.W.Fast.tw10752687858943698738 : Nat := 0
def PySem.W.Fast.tw17601101962401091345 : Nat := 0
def PySem.W.Fast.tw16629561534657121264 : Nat := 0
def PySem.W.Fast.tw14864845329073380503 : Nat := 0
def PySem.W.Fast.tw16118103595353321548 : Nat := 0
def PySem.W.Fast.tw11712190458185945011 : Nat := 0
def PySem.W.Fast.tw14566440943485919492 : Nat := 0
def PySem.W.Fast.tw14374603453287560736 : Nat := 0
def PySem.W.Fast.tw15069716523494295500 : Nat := 0
def PySem.W.Fast.tw14790834132378566595 : Nat := 0
def PySem.W.Fast.tw2294854397974045510 : Nat := 0
def PySem.W.Fast.tw12221415409051222339 : Nat := 0
def PySem.W.Fast.tw9685044298169568939 : Nat := 0
def PySem.W.Fast.tw13948375290106787362 : Nat := 0
def PySem.W.Fast.tw6664951462986138201 : Nat := 0
def PySem.W.Fast.tw12532165626772418067 : Nat := 0
def PySem.W.Fast.tw15679247252792206210 : Nat := 0
def PySem.W.Fast.tw8160871880118814707 : Nat := 0
def PySem.W.Fast.tw7805864855692585105 : Nat := 0
def PySem.W.Fast.tw9715166753854553471 : Nat := 0
def PySem.W.Fast.tw5613845454599061817 : Nat := 0
def PySem.W.Fast.tw15431134087688302020 : Nat := 0
def PySem.W.Fast.tw9897558803702562313 : Nat := 0
def PySem.W.Fast.tw9508736203920968164 : Nat := 0
def PySem.W.Fast.tw6585068141940680455 : Nat := 0
def PySem.W.Fast.tw11990459337992974956 : Nat := 0
def PySem.W.Fast.tw5036445103931068615 : Nat := 0
def PySem.W.Fast.tw11732214188671553305 : Nat := 0
def PySem.W.Fast.tw13792483299354683862 : Nat := 0
def PySem.W.Fast.tw6834397320308548248 : Nat := 0
def PySem.W.Fast.tw3482820431698744051 : Nat := 0
def PySem.W.Fast.tw11002848052431835627 : Nat := 0
def PySem.W.Fast.tw6737687440995333003 : Nat := 0
def PySem.W.Fast.tw11289143093466461953 : Nat := 0
def PySem.W.Fast.tw13989995598129119793 : Nat := 0
def PySem.W.Fast.tw1948689806639624469 : Nat := 0
def PySem.W.Fast.tw2852278927748849453 : Nat := 0
def PySem.W.Fast.tw10390157646234782899 : Nat := 0
def PySem.W.Fast.tw10042499479572932358 : Nat := 0
def PySem.W.Fast.tw6731276024794131016 : Nat := 0
def PySem.W.Fast.tw4626940704210403192 : Nat := 0
def PySem.W.Fast.tw17996964024917085871 : Nat := 0
def PySem.W.Fast.tw3992908553847606798 : Nat := 0
def PySem.W.Fast.tw7042659310547366237 : Nat := 0
def PySem.W.Fast.tw10015853644003576960 : Nat := 0
def PySem.W.Fast.tw17857563459279650048 : Nat := 0
def PySem.W.Fast.tw4211952112222678748 : Nat := 0
def PySem.W.Fast.tw8864380892348041232 : Nat := 0
def PySem.W.Fast.tw1322031339247656150 : Nat := 0
def PySem.W.Fast.tw7388713464098733815 : Nat := 0
def PySem.W.Fast.tw12434779806091606683 : Nat := 0
def PySem.W.Fast.tw5353813085845620550 : Nat := 0
def PySem.W.Fast.tw12184380411685104690 : Nat := 0
def PySem.W.Fast.tw4475145619620083286 : Nat := 0
def PySem.W.Fast.tw15724745641170818534 : Nat := 0
def PySem.W.Fast.tw5485572742587201778 : Nat := 0
def PySem.W.Fast.tw13481268755573549168 : Nat := 0
def PySem.W.Fast.tw17093224777342109595 : Nat := 0
def PySem.W.Fast.tw8237626310708396552 : Nat := 0
def PySem.W.Fast.tw4211700434839312001 : Nat := 0
def PySem.W.Fast.tw17837415989878807268 : Nat := 0
def PySem.W.Fast.tw9585978970863474492 : Nat := 0
def PySem.W.Fast.tw15862806813707239167 : Nat := 0
def PySem.W.Fast.tw8824595633291508535 : Nat := 0
def PySem.W.Fast.tw1611551182742943237 : Nat := 0
def PySem.W.Fast.tw14199714164133228370 : Nat := 0
def PySem.W.Fast.tw7921918552585031126 : Nat := 0
def PySem.W.Fast.tw726985913927333873 : Nat := 0
def PySem.W.Fast.tw2385268686561707046 : Nat := 0
def PySem.W.Fast.tw2335157872551914648 : Nat := 0
def PySem.W.Fast.tw2927799364441409784 : Nat := 0
def PySem.W.Fast.tw15137687247720179910 : Nat := 0
def PySem.W.Fast.tw17513604867990543079 : Nat := 0
def PySem.W.Fast.tw8605165415444627158 : Nat := 0
def PySem.W.Fast.tw13553050674002434610 : Nat := 0
def PySem.W.Fast.tw7097827964152542560 : Nat := 0
def PySem.W.Fast.tw15632992782082381434 : Nat := 0
def PySem.W.Fast.tw5426448371682200115 : Nat := 0
def PySem.W.Fast.tw17094580856887593759 : Nat := 0
def PySem.W.Fast.tw17119971604622065936 : Nat := 0
def PySem.W.Fast.tw5303833883563521733 : Nat := 0
def PySem.W.Fast.tw2648174423076098445 : Nat := 0
def PySem.W.Fast.tw7317234293075219 : Nat := 0
def PySem.W.Fast.tw10069975712529536831 : Nat := 0
def PySem.W.Fast.tw3373145609055282853 : Nat := 0
def PySem.W.Fast.tw18431155831084640082 : Nat := 0
def PySem.W.Fast.tw14722794537435163219 : Nat := 0
def PySem.W.Fast.tw11069628954808310989 : Nat := 0
def PySem.W.Fast.tw7942853410682446962 : Nat := 0
def PySem.W.Fast.tw17698735102306075112 : Nat := 0
def PySem.W.Fast.tw317932667124481529 : Nat := 0
def PySem.W.Fast.tw11118301316682269745 : Nat := 0
def PySem.W.Fast.tw15078095837771203109 : Nat := 0
def PySem.W.Fast.tw11188117447681078326 : Nat := 0
def PySem.W.Fast.tw11763852733077360975 : Nat := 0
def PySem.W.Fast.tw8526028360262338249 : Nat := 0
def PySem.W.Fast.tw10052001805573714066 : Nat := 0
def PySem.W.Fast.tw1877378965866140348 : Nat := 0
def PySem.W.Fast.tw17882641709403210578 : Nat := 0
def PySem.W.Fast.tw12694589447371642155 : Nat := 0
def PySem.W.Fast.tw4153491320931672185 : Nat := 0
def PySem.W.Fast.tw15545184769064153574 : Nat := 0
def PySem.W.Fast.tw16396790404030501481 : Nat := 0
def PySem.W.Fast.tw17878424488110687958 : Nat := 0
def PySem.W.Fast.tw14267268813261638861 : Nat := 0
def PySem.W.Fast.tw3345597093286824917 : Nat := 0
def PySem.W.Fast.tw5680315236850328200 : Nat := 0
def PySem.W.Fast.tw8174591469460913490 : Nat := 0
def PySem.W.Fast.tw11786325122171474085 : Nat := 0
def PySem.W.Fast.tw15223397061033166810 : Nat := 0
def PySem.W.Fast.tw7343611390307366373 : Nat := 0
def PySem.W.Fast.tw5916140570258018564 : Nat := 0
def PySem.W.Fast.tw7340446101256811000 : Nat := 0
def PySem.W.Fast.tw3121739546393284973 : Nat := 0
def PySem.W.Fast.tw14323227155912201964 : Nat := 0
def PySem.W.Fast.tw14734032772098568817 : Nat := 0
def PySem.W.Fast.tw8553059368797141306 : Nat := 0
def PySem.W.Fast.tw2962324470309885386 : Nat := 0
def PySem.W.Fast.tw16266442582153907279 : Nat := 0
def PySem.W.Fast.tw8667492640987031791 : Nat := 0
def PySem.W.Fast.tw11320351676317602388 : Nat := 0
def PySem.W.Fast.tw6793172497655745189 : Nat := 0
def PySem.W.Fast.tw13952158723898717365 : Nat := 0
def PySem.W.Fast.tw5310652868755799522 : Nat := 0
def PySem.W.Fast.tw7524379617451308511 : Nat := 0
def PySem.W.Fast.tw18167724695441219349 : Nat := 0
def PySem.W.Fast.tw4968929673044707356 : Nat := 0
def PySem.W.Fast.tw1391549112126926301 : Nat := 0
def PySem.W.Fast.tw10846345724684618374 : Nat := 0
def PySem.W.Fast.tw7076977106511060911 : Nat := 0
def PySem.W.Fast.tw274189353798237994 : Nat := 0
def PySem.W.Fast.tw2873748437651673626 : Nat := 0
def PySem.W.Fast.tw10896712999787139778 : Nat := 0
def PySem.W.Fast.tw16655083059833703075 : Nat := 0
def PySem.W.Fast.tw3664731896753646195 : Nat := 0
def PySem.W.Fast.tw10497823618577955822 : Nat := 0
def PySem.W.Fast.tw644751248652905101 : Nat := 0
def PySem.W.Fast.tw2680141511932349947 : Nat := 0
def PySem.W.Fast.tw14279065940840616024 : Nat := 0
def PySem.W.Fast.tw10131873952172028942 : Nat := 0
def PySem.W.Fast.tw18329075359065952542 : Nat := 0
def PySem.W.Fast.tw1267704075650749254 : Nat := 0
def PySem.W.Fast.tw16463793508043411602 : Nat := 0
def PySem.W.Fast.tw5587484289544270231 : Nat := 0
def PySem.W.Fast.tw8131721106225051767 : Nat := 0
def PySem.W.Fast.tw3808584094389355786 : Nat := 0
def PySem.W.Fast.tw10800367221633172730 : Nat := 0
def PySem.W.Fast.tw10134030333460990790 : Nat := 0
def PySem.W.Fast.tw4177351759533223642 : Nat := 0
def PySem.W.Fast.tw2202087279664922802 : Nat := 0
def PySem.W.Fast.tw16925118299729312639 : Nat := 0
def PySem.W.Fast.tw3471986238504059686 : Nat := 0
def PySem.W.Fast.tw4799189423077775474 : Nat := 0
def PySem.W.Fast.tw17456480263006714056 : Nat := 0
def PySem.W.Fast.tw7894344252036594922 : Nat := 0
def PySem.W.Fast.tw7090585071989052306 : Nat := 0
def PySem.W.Fast.tw5845538515087863352 : Nat := 0
def PySem.W.Fast.tw438459731153329746 : Nat := 0
def PySem.W.Fast.tw17338234738716814015 : Nat := 0
def PySem.W.Fast.tw6623812351622530092 : Nat := 0
def PySem.W.Fast.tw12325562205625792791 : Nat := 0
def PySem.W.Fast.tw1998032249293215463 : Nat := 0
def PySem.W.Fast.tw9161490523856799436 : Nat := 0
def PySem.W.Fast.tw6760056911573607715 : Nat := 0
def PySem.W.Fast.tw7618804249908900691 : Nat := 0
def PySem.W.Fast.tw11300376045408061371 : Nat := 0
def PySem.W.Fast.tw18277388166739348960 : Nat := 0
def PySem.W.Fast.tw3133745999044795564 : Nat := 0
def PySem.W.Fast.tw671769174312181376 : Nat := 0
def PySem.W.Fast.tw670427922429333600 : Nat := 0
def PySem.W.Fast.tw3083371992184736890 : Nat := 0
def PySem.W.Fast.tw10354477200866600673 : Nat := 0
def PySem.W.Fast.tw7395645310213146516 : Nat := 0
def PySem.W.Fast.tw3302770140995672700 : Nat := 0
def PySem.W.Fast.tw12079628635447562283 : Nat := 0
def PySem.W.Fast.tw6252695792229605141 : Nat := 0
def PySem.W.Fast.tw12487779173672901959 : Nat := 0
def PySem.W.Fast.tw10393078302967963895 : Nat := 0
def PySem.W.Fast.tw6205024481829086969 : Nat := 0
def PySem.W.Fast.tw16884622931589843948 : Nat := 0
def PySem.W.Fast.tw5015507407206683207 : Nat := 0
def PySem.W.Fast.tw16408362238061914836 : Nat := 0
def PySem.W.Fast.tw8621336744817483243 : Nat := 0
def PySem.W.Fast.tw14064692534454641163 : Nat := 0
def PySem.W.Fast.tw15155859288707382567 : Nat := 0
def PySem.W.Fast.tw11347631108264317165 : Nat := 0
def PySem.W.Fast.tw11586196018267737339 : Nat := 0
def PySem.W.Fast.tw14398365135244066966 : Nat := 0
def PySem.W.Fast.tw17590088832654516399 : Nat := 0
def PySem.W.Fast.tw6606014719576569030 : Nat := 0
def PySem.W.Fast.tw6999941293234460784 : Nat := 0
def PySem.W.Fast.tw10241233070082051121 : Nat := 0
def PySem.W.Fast.tw17960406059949683352 : Nat := 0
def PySem.W.Fast.tw8249347019533418915 : Nat := 0
def PySem.W.Fast.tw12319047049370110589 : Nat := 0
def PySem.W.Fast.tw7158441374720773216 : Nat := 0
def PySem.W.Fast.tw16286715671046524454 : Nat := 0
def PySem.W.Fast.tw12514039047250868702 : Nat := 0
def PySem.W.Fast.tw6788773261714906821 : Nat := 0
def PySem.W.Fast.tw5609530884314319229 : Nat := 0
def PySem.W.Fast.tw2484844197603217540 : Nat := 0
def PySem.W.Fast.tw7717702957765121957 : Nat := 0
def PySem.W.Fast.tw13350131943787299761 : Nat := 0
def PySem.W.Fast.tw11887224372650548316 : Nat := 0
def PySem.W.Fast.tw8078195926588453703 : Nat := 0
def PySem.W.Fast.tw3822784309164373692 : Nat := 0
def PySem.W.Fast.tw5674458297940323589 : Nat := 0
def PySem.W.Fast.tw5011889884212318148 : Nat := 0
def PySem.W.Fast.tw14245618210516037357 : Nat := 0
def PySem.W.Fast.tw6784790241324674965 : Nat := 0
def PySem.W.Fast.tw8697654515486363317 : Nat := 0
def PySem.W.Fast.tw2456577590951144490 : Nat := 0
def PySem.W.Fast.tw12661032092557703082 : Nat := 0
def PySem.W.Fast.tw16607927582987124570 : Nat := 0
def PySem.W.Fast.tw13949155002146243131 : Nat := 0
def PySem.W.Fast.tw4589182232624314844 : Nat := 0
def PySem.W.Fast.tw15772355805533515408 : Nat := 0
def PySem.W.Fast.tw14949513074056673275 : Nat := 0
def PySem.W.Fast.tw13323373534744806615 : Nat := 0
def PySem.W.Fast.tw17960848765466677729 : Nat := 0
def PySem.W.Fast.tw17802128708061929859 : Nat := 0
def PySem.W.Fast.tw9835382159548102362 : Nat := 0
def PySem.W.Fast.tw14650769484350525481 : Nat := 0
def PySem.W.Fast.tw5713610079918043996 : Nat := 0
def PySem.W.Fast.tw18042889414512086050 : Nat := 0
def PySem.W.Fast.tw1833547357909804662 : Nat := 0
def PySem.W.Fast.tw3016012700857477809 : Nat := 0
def PySem.W.Fast.tw5738919822854818926 : Nat := 0
def PySem.W.Fast.tw6728313399510405491 : Nat := 0
def PySem.W.Fast.tw16803143847538834185 : Nat := 0
def PySem.W.Fast.tw15536387163757344236 : Nat := 0
def PySem.W.Fast.tw17108046237660401759 : Nat := 0
open PySem PySem.W PyProof.Rows
set_option maxRecDepth 100000
set_option maxHeartbeats 0
open_top head for PySem.Challenge.rw_codemill_k02_written
theorem PySem.Challenge.cw_codemill_k02_written_holds : PySem.Challenge.rw_codemill_k02_written.Holds :=
  head (by
  k_fill
  refine My.walk (l := PySem.Challenge.rw_codemill_k02_written) rfl rfl (fun w h Y => PySem.W.kIn_of Y) ?F
  case F =>
    intro w mg fa h KX G hmg
    refine' My.all_mk KX G hmg ?a12 ?l12 ?c12 ?k12 ?a13 ?l13 ?c13 ?k13 ?a14 ?l14 ?c14 ?k14 ?a15 ?l15 ?c15 ?k15 ?a16 ?l16 ?c16 ?k16 ?a17 ?l17 ?c17 ?k17 ?a18 ?l18 ?c18 ?k18 ?a19 ?l19 ?c19 ?k19 ?a20 ?l20 ?c20 ?k20 ?a21 ?l21 ?c21 ?k21 ?a22 ?l22 ?c22 ?k22 ?a24 ?l24 ?c24 ?k24 ?a25 ?l25 ?c25 ?k25 ?a26 ?l26 ?c26 ?k26 ?a27 ?l27 ?c27 ?k27 ?a28 ?l28 ?c28 ?k28 ?a29 ?l29 ?c29 ?k29 ?a30 ?l30 ?c30 ?k30 ?a31 ?l31 ?c31 ?k31 ?a32 ?l32 ?c32 ?k32 ?a36 ?l36 ?c36 ?k36 ?a37 ?l37 ?c37 ?k37 ?a38 ?l38 ?c38 ?k38 ?a39 ?l39 ?c39 ?k39 ?a40 ?l40 ?c40 ?k40 ?a41 ?l41 ?c41 ?k41 ?a42 ?l42 ?c42 ?k42 ?a43 ?l43 ?c43 ?k43 ?a44 ?l44 ?c44 ?k44 ?a46 ?l46 ?c46 ?k46 ?a47 ?l47 ?c47 ?k47 ?a48 ?l48 ?c48 ?k48 ?a49 ?l49 ?c49 ?k49 ?a51 ?l51 ?c51 ?k51 ?a52 ?l52 ?c52 ?k52 ?a53 ?l53 ?c53 ?k53 ?a54 ?l54 ?c54 ?k54 ?a55 ?l55 ?c55 ?k55 ?a56 ?l56 ?c56 ?k56 ?a57 ?l57 ?c57 ?k57 ?a58 ?l58 ?c58 ?k58 ?a59 ?l59 ?c59 ?k59 ?a60 ?l60 ?c60 ?k60 ?a61 ?l61 ?c61 ?k61 ?a62 ?l62 ?c62 ?k62 ?a50 ?l50 ?c50 ?k50 ?t50 ?s50 ?z_isinstance ?z_int ?z_bool ?z_str ?z_tuple ?z_list ?z_len ?z_range ?z_enumerate ?q_rows ?r_rows ?q_line ?r_line ?q_mark ?r_mark ?q_pushed ?r_pushed ?q_name ?r_name ?q_kind ?r_kind ?q_figures ?r_figures ?a_ds ?l_ds ?k_ds ?m_ds ?p_ds ?a_dt ?l_dt ?k_dt ?m_dt ?p_dt ?a_dw ?l_dw ?k_dw ?m_dw ?p_dw
    (case a12 => k_is)
    (case l12 => k_is)
    (case c12 => k_is)
    (case k12 => k_is)
    (case a13 => k_is)
    (case l13 => k_is)
    (case c13 => k_is)
    (case k13 => k_is)
    (case a14 => k_is)
    (case l14 => k_is)
    (case c14 => k_is)
    (case k14 => k_is)
    (case a15 => k_is)
    (case l15 => k_is)
    (case c15 => k_is)
    (case k15 => k_is)
    (case a16 => k_is)
    (case l16 => k_is)
    (case c16 => k_is)
    (case k16 => k_is)
    (case a17 => k_is)
    (case l17 => k_is)
    (case c17 => k_is)
    (case k17 => k_is)
    (case a18 => k_is)
    (case l18 => k_is)
    (case c18 => k_is)
    (case k18 => k_is)
    (case a19 => k_is)
    (case l19 => k_is)
    (case c19 => k_is)
    (case k19 => k_is)
    (case a20 => k_is)
    (case l20 => k_is)
    (case c20 => k_is)
    (case k20 => k_is)
    (case a21 => k_is)
    (case l21 => k_is)
    (case c21 => k_is)
    (case k21 => k_is)
    (case a22 => k_is)
    (case l22 => k_is)
    (case c22 => k_is)
    (case k22 => k_is)
    (case a24 => k_is)
    (case l24 => k_is)
    (case c24 => k_is)
    (case k24 => k_is)
    (case a25 => k_is)
    (case l25 => k_is)
    (case c25 => k_is)
    (case k25 => k_is)
    (case a26 => k_is)
    (case l26 => k_is)
    (case c26 => k_is)
    (case k26 => k_is)
    (case a27 => k_is)
    (case l27 => k_is)
    (case c27 => k_is)
    (case k27 => k_is)
    (case a28 => k_is)
    (case l28 => k_is)
    (case c28 => k_is)
    (case k28 => k_is)
    (case a29 => k_is)
    (case l29 => k_is)
    (case c29 => k_is)
    (case k29 => k_is)
    (case a30 => k_is)
    (case l30 => k_is)
    (case c30 => k_is)
    (case k30 => k_is)
    (case a31 => k_is)
    (case l31 => k_is)
    (case c31 => k_is)
    (case k31 => k_is)
    (case a32 => k_is)
    (case l32 => k_is)
    (case c32 => k_is)
    (case k32 => k_is)
    (case a36 => k_is)
    (case l36 => k_is)
    (case c36 => k_is)
    (case k36 => k_is)
    (case a37 => k_is)
    (case l37 => k_is)
    (case c37 => k_is)
    (case k37 => k_is)
    (case a38 => k_is)
    (case l38 => k_is)
    (case c38 => k_is)
    (case k38 => k_is)
    (case a39 => k_is)
    (case l39 => k_is)
    (case c39 => k_is)
    (case k39 => k_is)
    (case a40 => k_is)
    (case l40 => k_is)
    (case c40 => k_is)
    (case k40 => k_is)
    (case a41 => k_is)
    (case l41 => k_is)
    (case c41 => k_is)
    (case k41 => k_is)
    (case a42 => k_is)
    (case l42 => k_is)
    (case c42 => k_is)
    (case k42 => k_is)
    (case a43 => k_is)
    (case l43 => k_is)
    (case c43 => k_is)
    (case k43 => k_is)
    (case a44 => k_is)
    (case l44 => k_is)
    (case c44 => k_is)
    (case k44 => k_is)
    (case a46 => k_is)
    (case l46 => k_is)
    (case c46 => k_is)
    (case k46 => k_is)
    (case a47 => k_is)
    (case l47 => k_is)
    (case c47 => k_is)
    (case k47 => k_is)
    (case a48 => k_is)
    (case l48 => k_is)
    (case c48 => k_is)
    (case k48 => k_is)
    (case a49 => k_is)
    (case l49 => k_is)
    (case c49 => k_is)
    (case k49 => k_is)
    (case a51 => k_is)
    (case l51 => k_is)
    (case c51 => k_is)
    (case k51 => k_is)
    (case a52 => k_is)
    (case l52 => k_is)
    (case c52 => k_is)
    (case k52 => k_is)
    (case a53 => k_is)
    (case l53 => k_is)
    (case c53 => k_is)
    (case k53 => k_is)
    (case a54 => k_is)
    (case l54 => k_is)
    (case c54 => k_is)
    (case k54 => k_is)
    (case a55 => k_is)
    (case l55 => k_is)
    (case c55 => k_is)
    (case k55 => k_is)
    (case a56 => k_is)
    (case l56 => k_is)
    (case c56 => k_is)
    (case k56 => k_is)
    (case a57 => k_is)
    (case l57 => k_is)
    (case c57 => k_is)
    (case k57 => k_is)
    (case a58 => k_is)
    (case l58 => k_is)
    (case c58 => k_is)
    (case k58 => k_is)
    (case a59 => k_is)
    (case l59 => k_is)
    (case c59 => k_is)
    (case k59 => k_is)
    (case a60 => k_is)
    (case l60 => k_is)
    (case c60 => k_is)
    (case k60 => k_is)
    (case a61 => k_is)
    (case l61 => k_is)
    (case c61 => k_is)
    (case k61 => k_is)
    (case a62 => k_is)
    (case l62 => k_is)
    (case c62 => k_is)
    (case k62 => k_is)
    (case a50 => k_is)
    (case l50 => k_is)
    (case c50 => k_is)
    (case k50 => k_is)
    (case t50 => k_is)
    (case s50 => exact rfl)
    (case z_isinstance => k_is)
    (case z_int => k_is)
    (case z_bool => k_is)
    (case z_str => k_is)
    (case z_tuple => k_is)
    (case z_list => k_is)
    (case z_len => k_is)
    (case z_range => k_is)
    (case z_enumerate => k_is)
    (case q_rows => k_is)
    (case r_rows => first | exact ⟨_, rfl⟩ | exact rfl)
    (case q_line => k_is)
    (case r_line => first | exact ⟨_, rfl⟩ | exact rfl)
    (case q_mark => k_is)
    (case r_mark => first | exact ⟨_, rfl⟩ | exact rfl)
    (case q_pushed => k_is)
    (case r_pushed => first | exact ⟨_, rfl⟩ | exact rfl)
    (case q_name => k_is)
    (case r_name => first | exact ⟨_, rfl⟩ | exact rfl)
    (case q_kind => k_is)
    (case r_kind => first | exact ⟨_, rfl⟩ | exact rfl)
    (case q_figures => k_is)
    (case r_figures => first | exact ⟨_, rfl⟩ | exact rfl)
    (case a_ds => k_is)
    (case l_ds => k_is)
    (case k_ds => k_keys)
    (case m_ds => first | exact rfl | decide)
    (case p_ds => repeat (first | exact .nil | refine .cons ⟨⟨_, rfl⟩, (by first | exact rfl | exact ⟨_, rfl⟩)⟩ ?_))
    (case a_dt => k_is)
    (case l_dt => k_is)
    (case k_dt => k_keys)
    (case m_dt => first | exact rfl | decide)
    (case p_dt => repeat (first | exact .nil | refine .cons ⟨⟨_, rfl⟩, (by first | exact rfl | exact ⟨_, rfl⟩)⟩ ?_))
    (case a_dw => k_is)
    (case l_dw => k_is)
    (case k_dw => k_keys)
    (case m_dw => first | exact rfl | decide)
    (case p_dw => repeat (first | exact .nil | refine .cons ⟨⟨_, rfl⟩, (by first | exact rfl | exact ⟨_, rfl⟩)⟩ ?_)))
