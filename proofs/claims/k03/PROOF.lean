import PyProof.Rows.All
import Wide.All
import OpenK.AllK
import Wide.FinOn
import Lean
import PyProof.EqAt
import PyProof.EqKinds
import PyProof.TupleCall
import PyProof.P3In
import PyProof.Rows.EqDataRows
import KE.KTryMore
import PySem.Challenge.RW_snugfit_k03_quotients_and_order
set_option Elab.async false
set_option linter.all false
set_option maxRecDepth 100000
/-! THE HAND LAYER, for ints, bools, texts, own classes, LISTS and tuples (index, slices, in, append, pop ..), calls, loops. Paste it whole ahead of your own text; what your proof does not reach may be deleted. -/
namespace L2
open PySem PySem.Spec PyProof.Rows

/-- a key: an int or a str -/
abbrev Key := Sum Int Str
def keyIs : Key → Value → Bool
  | .inl k, v => Value.isInt k v
  | .inr x, v => Value.isStrOf x v
def keyH (w : World) : Key → Int
  | .inl k => hashInt k
  | .inr x => hashStr w x
theorem keyIs_shape : ∀ {k : Key} {v : Value}, keyIs k v = true → (∃ i t, k = Sum.inl i ∧ v = Value.int i t) ∨ (∃ x t, k = Sum.inr x ∧ v = Value.str x t)
  | .inl i, v, h => by
    obtain ⟨t, e⟩ := Value.isInt_shape (k := i) (v := v) h
    exact .inl ⟨i, t, rfl, e⟩
  | .inr x, v, h => by
    obtain ⟨t, e⟩ := Value.isStrOf_shape (x := x) (v := v) h
    exact .inr ⟨x, t, rfl, e⟩
theorem keyIs_int (i : Int) (t : Tok) : keyIs (.inl i) (.int i t) = true := by simp [keyIs, Value.isInt]
theorem keyIs_str (x : Str) (t : Tok) : keyIs (.inr x) (.str x t) = true := by simp [keyIs, Value.isStrOf]
theorem key_ll (a b : Int) : decide ((Sum.inl a : Key) = Sum.inl b) = (a == b) := by
  by_cases e : a = b
  · subst e; simp
  · have h : ¬ (Sum.inl a : Key) = Sum.inl b := fun q => e (Sum.inl.inj q)
    rw [decide_eq_false h]
    exact (beq_eq_false_iff_ne.mpr e).symm
theorem key_rr (a b : Str) : decide ((Sum.inr a : Key) = Sum.inr b) = decide (a = b) := by
  by_cases e : a = b
  · subst e; simp
  · have h : ¬ (Sum.inr a : Key) = Sum.inr b := fun q => e (Sum.inr.inj q)
    rw [decide_eq_false h, decide_eq_false e]
theorem key_lr (a : Int) (b : Str) : decide ((Sum.inl a : Key) = Sum.inr b) = false := decide_eq_false (fun q => nomatch q)
theorem key_rl (a : Str) (b : Int) : decide ((Sum.inr a : Key) = Sum.inl b) = false := decide_eq_false (fun q => nomatch q)

def mixKind (prog : Program) (w : World) : PySem.KeyKind prog w Key where
  is := keyIs
  hash := keyH w
  inj := fun v a b ha hb => by
    rcases keyIs_shape ha with ⟨i, t, rfl, rfl⟩ | ⟨x, t, rfl, rfl⟩
    · rcases keyIs_shape hb with ⟨j, u, rfl, e⟩ | ⟨y, u, rfl, e⟩
      · injection e with e1 _; rw [e1]
      · exact nomatch e
    · rcases keyIs_shape hb with ⟨j, u, rfl, e⟩ | ⟨y, u, rfl, e⟩
      · exact nomatch e
      · injection e with e1 _; rw [e1]
  byValue := fun k v h => by
    rcases keyIs_shape h with ⟨i, t, rfl, rfl⟩ | ⟨x, t, rfl, rfl⟩ <;> rfl
  pyHash := fun hv h => by
    rcases keyIs_shape hv with ⟨i, t, rfl, rfl⟩ | ⟨x, t, rfl, rfl⟩
    · exact wpAny_pyHash_int h
    · exact wpAny_pyHash_str h
  eqBool := fun hu hv h => by
    rcases keyIs_shape hu with ⟨i, t, rfl, rfl⟩ | ⟨x, t, rfl, rfl⟩
    · rcases keyIs_shape hv with ⟨j, u, rfl, rfl⟩ | ⟨y, u, rfl, rfl⟩
      · rw [key_ll] at h; exact wpAny_eqBool_int h
      · rw [key_lr] at h; exact SeqAt.EqAt.int_str i t y u _ _ _ _ h
    · rcases keyIs_shape hv with ⟨j, u, rfl, rfl⟩ | ⟨y, u, rfl, rfl⟩
      · rw [key_rl] at h; exact SeqAt.EqAt.str_int x t j u _ _ _ _ h
      · rw [key_rr] at h; exact wpAny_eqBool_str h
  «strs» := fun k x t v h => by
    rcases keyIs_shape h with ⟨i, u, rfl, e⟩ | ⟨y, u, rfl, e⟩
    · exact nomatch e
    · injection e with e1 _
      subst e1
      cases v <;> rfl

theorem mixKind_is (prog : Program) (w : World) (k : Key) (v : Value) : (mixKind prog w).is k v = keyIs k v := rfl
theorem mixKind_int (prog : Program) (w : World) (i : Int) (t : Tok) : (mixKind prog w).is (.inl i) (.int i t) = true := keyIs_int i t
theorem mixKind_str (prog : Program) (w : World) (x : Str) (t : Tok) : (mixKind prog w).is (.inr x) (.str x t) = true := keyIs_str x t
end L2

namespace L2
open PySem PySem.Spec PyProof.Rows

/-- a value, without the heap -/
inductive V where
  | non | bl (b : Bool) | int (i : Int) | str (x : Str) | byt (b : Array UInt8) | flt (b : UInt64) | ref (a : Addr) | ty (n : String)
  deriving DecidableEq

def RelV : V → Value → Prop
  | .non, u => u = Value.none
  | .bl b, u => u = Value.bool b
  | .int i, u => ∃ t, u = Value.int i t
  | .str x, u => ∃ t, u = Value.str x t
  | .byt b, u => ∃ t, u = Value.bytes b t
  | .flt b, u => ∃ t, u = Value.float b t
  | .ref a, u => u = Value.ref a
  | .ty n, u => u = Value.type n

abbrev Vals : List V → List Value → Prop := Paired RelV
theorem Vals.length {xs : List V} {us : List Value} (r : Vals xs us) : xs.length = us.length := Paired.length r
theorem Vals.get : ∀ {xs : List V} {us : List Value} {i : Nat} {x : V}, Vals xs us → xs[i]? = some x → ∃ u, us[i]? = some u ∧ RelV x u
  | _, _, _, _, .nil, e => by simp at e
  | _, _, 0, _, .cons r _, e => by simp at e; subst e; exact ⟨_, rfl, r⟩
  | _, _, i + 1, x, .cons _ t, e => by
    obtain ⟨u, h1, h2⟩ := Vals.get (i := i) (x := x) t (by simpa using e)
    exact ⟨u, by simpa using h1, h2⟩
theorem Vals.set {x : V} {u : Value} (r : RelV x u) : ∀ {xs : List V} {us : List Value} (i : Nat), Vals xs us → Vals (xs.set i x) (us.set i u)
  | _, _, _, .nil => .nil
  | _, _, 0, .cons _ t => .cons r t
  | _, _, i + 1, .cons q t => .cons q (Vals.set r i t)
theorem Vals.append : ∀ {xs ys : List V} {us ws : List Value}, Vals xs us → Vals ys ws → Vals (xs ++ ys) (us ++ ws)
  | _, _, _, _, .nil, s => s
  | _, _, _, _, .cons r t, s => .cons r (Vals.append t s)
theorem Vals.take : ∀ {xs : List V} {us : List Value} (n : Nat), Vals xs us → Vals (xs.take n) (us.take n)
  | _, _, 0, _ => .nil
  | _, _, _ + 1, .nil => .nil
  | _, _, n + 1, .cons r t => .cons r (Vals.take n t)
theorem Vals.drop : ∀ {xs : List V} {us : List Value} (n : Nat), Vals xs us → Vals (xs.drop n) (us.drop n)
  | _, _, 0, r => r
  | _, _, _ + 1, .nil => .nil
  | _, _, n + 1, .cons _ t => Vals.drop n t
theorem Vals.none_of : ∀ {xs : List V} {us : List Value} {i : Nat}, Vals xs us → xs[i]? = none → us[i]? = none := fun {xs us i} r e => by
  have h1 := r.length
  have h2 : xs.length ≤ i := List.getElem?_eq_none_iff.mp e
  exact List.getElem?_eq_none_iff.mpr (by omega)

def RelO : Option V → Option Value → Prop
  | some v, some u => RelV v u
  | none, none => True
  | _, _ => False
def KV {κ : Type} : List (κ × V) → List (κ × Value) → Prop := Paired fun (p : κ × V) (q : κ × Value) => p.1 = q.1 ∧ RelV p.2 q.2

/-- a key of a dict (00_mix): an int or a text -/
def kV : Key → V
  | .inl i => .int i
  | .inr x => .str x

/-- what stands at a tracked address -/
inductive HO where
  /-- a list -/
  | lst (xs : List V)
  /-- a tuple (never changes) -/
  | tup (xs : List V)
  /-- a dict whose keys are ints and texts; one whose keys are tuples of ints and texts (the empty one is both) -/
  | dK (kvs : List (Key × V)) | dT (kvs : List (List Key × V))
  /-- a set of ints: its members, its size -/
  | set (S : Int → Bool) (n : Nat)
  /-- an instance of the class at C, its dict at dx, its attributes -/
  | ins (C dx : Addr) (fs : List (Str × V))
  /-- the dict of the instance at x -/
  | own (x : Addr)
  /-- the dict of an exception -/
  | xd (fs : List (Str × V))
  /-- a bound method, f of x -/
  | met (f x : Addr)
  /-- a range object lo, lo + 1, .. below hi -/
  | rng (lo hi : Int)
  /-- a thing that is known to the object (the script; a dict while a loop walks it): read, never written while it is so -/
  | frz (o : Obj) (u : HO)
  /-- a code object's table -/
  | tbl (ps : Array Value)
  /-- any other thing, by what is true of its one object (a def of one's own: SetO a S n := HO.ext fun h => ..) -/
  | ext (φ : Heap → Prop)

abbrev Hp := Addr → Option HO
def upd (H : Hp) (a : Addr) (o : HO) : Hp := fun b => if b = a then some o else H b
theorem upd_same {H : Hp} {a : Addr} {o : HO} : upd H a o a = some o := by unfold upd; rw [if_pos rfl]
theorem upd_ne {H : Hp} {a b : Addr} {o : HO} (h : b ≠ a) : upd H a o b = H b := by unfold upd; rw [if_neg h]
theorem upd_upd {H : Hp} {a : Addr} {o u : HO} : upd (upd H a o) a u = upd H a u := by
  funext b; unfold upd; split <;> rfl
/-- two objects of different content stand apart -/
theorem ne_of {H : Hp} {a b : Addr} {o u : HO} (h : H a = some o) (h' : H b = some u) (d : o ≠ u) : a ≠ b := by
  intro e; subst e; rw [h] at h'; exact d (Option.some.inj h')
theorem ne_of_none {H : Hp} {a b : Addr} {o : HO} (h : H a = some o) (h' : H b = none) : a ≠ b := by
  intro e; subst e; rw [h] at h'; cases h'

section
variable (P : Program) (w : World)
def ObjOk (H : Hp) (h : Heap) (a : Addr) : HO → Prop
  | .lst xs => xs.length ≤ sizeLine ∧ ∃ (its : List Value) (n : Nat), Vals xs its ∧ h.get? a = some { cls := .type "list", data := .seq its.toArray n }
  | .tup xs => xs.length ≤ sizeLine ∧ ∃ its : List Value, Vals xs its ∧ IsTup h a its.toArray
  | .dK kvs => kvs.length ≤ sizeLine ∧ (a == sysModules) = false ∧ ∃ vs, KV kvs vs ∧ h.DictOf (mixKind P w) a vs
  | .dT kvs => kvs.length ≤ sizeLine ∧ (a == sysModules) = false ∧ ∃ xs : List (List Key × Addr × Value),
      Paired (fun (p : List Key × V) (q : List Key × Addr × Value) => p.1 = q.1 ∧ H q.2.1 = some (.tup (p.1.map kV)) ∧ RelV p.2 q.2.2) kvs xs ∧
      ∃ o es ep, h.get? a = some o ∧ o.ExactDict ∧ o.data = .dict es ep ∧ es.toList = xs.map (entryOfKey (tupleKind (mixKind P w))) ∧ (xs.map (·.1)).Nodup
  | .set S n => h.SetOf (intKind P w) a S n
  | .ins C dx fs => H dx = some (.own a) ∧ fs.length ≤ 1000 ∧ dx ≠ a ∧ h.get? a = some (PySem.W.instObj C dx) ∧
      ∃ mA, h.Ns1 dx mA ∧ (∀ f, RelO (fs.lookup f) (mA f)) ∧ PySem.Within mA (fs.map (·.1))
  | .own _ => ∃ o, h.get? a = some o
  | .xd fs => ∃ mA, h.Ns1 a mA ∧ ∀ f, RelO (fs.lookup f) (mA f)
  | .rng lo hi => ∃ t u v, h.get? a = some { cls := .type "range", data := .fields #[.int lo t, .int hi u, .int 1 v] }
  | .frz o u => h.get? a = some o ∧ ObjOk H h a u
  | .tbl ps => h.get? a = some { cls := .none, data := .fields ps }
  | .met f x => h.get? a = some (PySem.W.methodObj (.ref f) (.ref x))
  | .ext φ => φ h ∧ (∃ o, h.get? a = some o) ∧ ∀ h1 h2 : Heap, φ h1 → (∀ o, h1.get? a = some o → h2.get? a = some o) → φ h2
/-- the abstract heap is held -/
def HOk (H : Hp) (h : Heap) : Prop := ∀ a o, H a = some o → ObjOk P w H h a o
end

section
variable {P : Program} {w : World} {H H' : Hp} {h h' : Heap} {a : Addr} {o : HO}
theorem ObjOk.lt (x : ObjOk P w H h a o) : a < h.objs.size := by
  cases o with
  | lst xs => obtain ⟨_, _, _, _, e⟩ := x; exact Heap.lt_size e
  | tup xs => obtain ⟨_, _, _, p⟩ := x; exact p.lt
  | dK kvs => obtain ⟨_, _, _, _, o, _, _, e, _⟩ := x; exact Heap.lt_size e
  | dT kvs => obtain ⟨_, _, _, _, o, _, _, e, _⟩ := x; exact Heap.lt_size e
  | set S n => obtain ⟨o, _, _, _, e, _⟩ := x; exact Heap.lt_size e
  | ins C dx fs => obtain ⟨_, _, _, e, _⟩ := x; exact Heap.lt_size e
  | own y => obtain ⟨_, e⟩ := x; exact Heap.lt_size e
  | xd fs => obtain ⟨_, ⟨_, _, _, e, _⟩, _⟩ := x; exact Heap.lt_size e
  | rng lo hi => obtain ⟨_, _, _, e⟩ := x; exact Heap.lt_size e
  | frz ob u => obtain ⟨e, _⟩ := x; exact Heap.lt_size e
  | tbl ps => exact Heap.lt_size (show h.get? a = some _ from x)
  | met f y => exact Heap.lt_size (show h.get? a = some _ from x)
  | ext φ => obtain ⟨_, ⟨_, e⟩, _⟩ := x; exact Heap.lt_size e
theorem Paired.mapP {α β : Type} {F G : α → β → Prop} : ∀ {l₁ : List α} {l₂ : List β}, Paired F l₁ l₂ → (∀ a b, F a b → G a b) → Paired G l₁ l₂
  | _, _, .nil, _ => .nil
  | _, _, .cons r t, f => .cons (f _ _ r) (Paired.mapP t f)
theorem Paired.imp' {α β : Type} {F G : α → β → Prop} (f : ∀ a b, F a b → G a b) {l₁ : List α} {l₂ : List β} (r : Paired F l₁ l₂) : Paired G l₁ l₂ := Paired.mapP r f
/-- what an object's description leans on: its own object, its own dict, the tuples -/
theorem ObjOk.stay (x : ObjOk P w H h a o) (k : ∀ b u, (b = a ∨ H b = some (.own a)) → h.get? b = some u → h'.get? b = some u)
    (ho : ∀ b, H b = some (.own a) → H' b = some (.own a)) (ht : ∀ b xs, H b = some (.tup xs) → H' b = some (.tup xs)) : ObjOk P w H' h' a o := by
  induction o with
  | lst xs => obtain ⟨z, its, n, r, e⟩ := x; exact ⟨z, its, n, r, k _ _ (.inl rfl) e⟩
  | tup xs => obtain ⟨z, its, r, ob, e, c⟩ := x; exact ⟨z, its, r, ob, k _ _ (.inl rfl) e, c⟩
  | dK kvs => obtain ⟨z, y, vs, r, ob, es, ep, e, c⟩ := x; exact ⟨z, y, vs, r, ob, es, ep, k _ _ (.inl rfl) e, c⟩
  | dT kvs =>
    obtain ⟨z, y, xs, r, ob, es, ep, e, c⟩ := x
    exact ⟨z, y, xs, Paired.mapP r fun p q z => ⟨z.1, ht _ _ z.2.1, z.2.2⟩, ob, es, ep, k _ _ (.inl rfl) e, c⟩
  | set S n => obtain ⟨ob, es, ep, t, e, c⟩ := x; exact ⟨ob, es, ep, t, k _ _ (.inl rfl) e, c⟩
  | ins C dx fs =>
    obtain ⟨d, z, ne, e, mA, ⟨od, es, ep, e2, c⟩, r⟩ := x
    exact ⟨ho _ d, z, ne, k _ _ (.inl rfl) e, mA, ⟨od, es, ep, k _ _ (.inr d) e2, c⟩, r⟩
  | own y => obtain ⟨ob, e⟩ := x; exact ⟨ob, k _ _ (.inl rfl) e⟩
  | xd fs => obtain ⟨mA, ⟨od, es, ep, e, c⟩, r⟩ := x; exact ⟨mA, ⟨od, es, ep, k _ _ (.inl rfl) e, c⟩, r⟩
  | rng lo hi => obtain ⟨t, u, v, e⟩ := x; exact ⟨t, u, v, k _ _ (.inl rfl) e⟩
  | frz ob u ih => obtain ⟨e, q⟩ := x; exact ⟨k _ _ (.inl rfl) e, ih q⟩
  | tbl ps =>
    have e : h.get? a = some { cls := .none, data := .fields ps } := x
    show h'.get? a = some { cls := .none, data := .fields ps }
    exact k a _ (.inl rfl) e
  | met f y =>
    have e : h.get? a = some (PySem.W.methodObj (.ref f) (.ref y)) := x
    show h'.get? a = some (PySem.W.methodObj (.ref f) (.ref y))
    exact k a _ (.inl rfl) e
  | ext φ => obtain ⟨p, ⟨o, e⟩, st⟩ := x; exact ⟨st _ _ p fun o q => k _ _ (.inl rfl) q, ⟨o, k _ _ (.inl rfl) e⟩, st⟩
theorem HOk.lt (x : HOk P w H h) (e : H a = some o) : a < h.objs.size := (x a o e).lt
theorem HOk.fresh (x : HOk P w H h) (e : h.objs.size ≤ a) : H a = none := by
  cases q : H a with
  | none => rfl
  | some u => exact absurd (Nat.lt_of_lt_of_le (x.lt q) e) (Nat.lt_irrefl _)
/-- every object of the heap is kept -/
theorem HOk.kept (x : HOk P w H h) (k : ∀ b u, h.get? b = some u → h'.get? b = some u) : HOk P w H h' := fun a o e =>
  (x a o e).stay (fun b u _ q => k b u q) (fun _ q => q) fun _ _ q => q
/-- a new object is laid and tracked -/
theorem HOk.laid (x : HOk P w H h) (k : ∀ b u, h.get? b = some u → h'.get? b = some u) (hp : h.objs.size ≤ a) (new : ObjOk P w (upd H a o) h' a o) : HOk P w (upd H a o) h' := fun b u e => by
  have hn := x.fresh hp
  by_cases hb : b = a
  · subst hb; rw [upd_same] at e; cases e; exact new
  · rw [upd_ne hb] at e
    exact (x b u e).stay (fun c v _ q => k c v q) (fun c q => by rw [upd_ne (ne_of_none q hn)]; exact q) fun c xs q => by rw [upd_ne (ne_of_none q hn)]; exact q
end

/-- what may be read as u: it is u, or a known u -/
def Rd (H : Hp) (a : Addr) (u : HO) : Prop := H a = some u ∨ ∃ o, H a = some (.frz o u)
theorem Rd.of {H : Hp} {a : Addr} {u : HO} (h : H a = some u) : Rd H a u := .inl h
theorem Rd.ok {P : Program} {w : World} {H : Hp} {h : Heap} {a : Addr} {u : HO} (r : Rd H a u) (x : HOk P w H h) : ObjOk P w H h a u := by
  rcases r with r | ⟨o, r⟩
  · exact x a u r
  · obtain ⟨_, q⟩ := x a _ r
    exact q
/-- what may be written -/
def Mut : Option HO → Prop
  | some (.lst _) => True
  | some (.dK _) => True
  | some (.dT _) => True
  | some (.set _ _) => True
  | some (.ins _ _ _) => True
  | some (.ext _) => True
  | _ => False
section
variable {P : Program} {w : World} {H : Hp} {h h' : Heap} {x e : Addr} {o' : HO}
/-- the object at e is changed: x itself, or the dict of the instance x -/
theorem HOk.write (ok : HOk P w H h) (mu : Mut (H x)) (he : e = x ∨ H e = some (.own x)) (k : ∀ b u, b ≠ e → h.get? b = some u → h'.get? b = some u) (heo : ∃ u, h'.get? e = some u)
    (new : ObjOk P w (upd H x o') h' x o') : HOk P w (upd H x o') h' := fun b u q => by
  have nown : ∀ c y, H c = some (.own y) → c ≠ x := fun c y r z => by subst z; rw [r] at mu; exact mu
  have ntup : ∀ c xs, H c = some (.tup xs) → c ≠ x := fun c xs r z => by subst z; rw [r] at mu; exact mu
  by_cases hb : b = x
  · subst hb; rw [upd_same] at q; cases q; exact new
  · rw [upd_ne hb] at q
    by_cases hbe : b = e
    · have q' : H b = some (.own x) := by
        rcases he with z | z
        · exact absurd (hbe.trans z) hb
        · rw [hbe]; exact z
      rw [q] at q'; cases q'
      obtain ⟨v, hv⟩ := heo
      exact ⟨v, by rw [hbe]; exact hv⟩
    · refine (ok b u q).stay (fun c v hc r => k c v ?_ r) (fun c r => by rw [upd_ne (nown c b r)]; exact r) fun c xs r => by rw [upd_ne (ntup c xs r)]; exact r
      rcases hc with rfl | hc
      · exact hbe
      · rintro rfl
        rcases he with z | z
        · exact nown c b hc z
        · rw [hc] at z; cases z; exact hb rfl
end

/-! ### kept unless tracked; of the frames at fs (the callers') the slots may change (an exception that passes writes there); of the records at ex (iterators) nothing is said -/
structure Un (fs ex : List Addr) (H H' : Hp) (h h' : Heap) : Prop where
  keep : ∀ b o, h.get? b = some o → H b = none → b ∉ fs → b ∉ ex → h'.get? b = some o
  slot : ∀ b o, h.get? b = some o → H b = none → b ∈ fs → b ∉ ex → ∃ sl, h'.get? b = some { o with slots := sl }
  free : ∀ b o, h.get? b = some o → H b = none → b ∉ ex → H' b = none
  there : ∀ b o, h.get? b = some o → b ∉ ex → ∃ o', h'.get? b = some o'
  tups : ∀ b xs, H b = some (.tup xs) → H' b = some (.tup xs)
  frzs : ∀ b o u, H b = some (.frz o u) → H' b = some (.frz o u)
  tbls : ∀ b ps, H b = some (.tbl ps) → ∃ more, H' b = some (.tbl (ps ++ more))
section
variable {fs fs' ex ex' : List Addr} {H H1 H2 : Hp} {h h1 h2 h' : Heap} {a x e : Addr} {o : HO}
theorem Un.any (u : Un fs ex H H1 h h1) {b : Addr} {ob : Obj} (q : h.get? b = some ob) (n : H b = none) (hx : b ∉ ex) : ∃ sl, h1.get? b = some { ob with slots := sl } := by
  by_cases hb : b ∈ fs
  · exact u.slot b ob q n hb hx
  · exact ⟨ob.slots, u.keep b ob q n hb hx⟩
theorem Un.trans (a : Un fs ex H H1 h h1) (b : Un fs ex H1 H2 h1 h2) : Un fs ex H H2 h h2 where
  keep := fun c ob q n hc hx => b.keep c ob (a.keep c ob q n hc hx) (a.free c ob q n hx) hc hx
  slot := fun c ob q n hc hx => by
    obtain ⟨sl, e1⟩ := a.slot c ob q n hc hx
    obtain ⟨sl', e2⟩ := b.slot c _ e1 (a.free c ob q n hx) hc hx
    exact ⟨sl', e2⟩
  free := fun c ob q n hx => by
    obtain ⟨o', e1⟩ := a.there c ob q hx
    exact b.free c o' e1 (a.free c ob q n hx) hx
  there := fun c ob q hx => by
    obtain ⟨o', e1⟩ := a.there c ob q hx
    exact b.there c o' e1 hx
  tups := fun c xs q => b.tups c xs (a.tups c xs q)
  frzs := fun c ob xs q => b.frzs c ob xs (a.frzs c ob xs q)
  tbls := fun c ps q => by
    obtain ⟨m1, e1⟩ := a.tbls c ps q
    obtain ⟨m2, e2⟩ := b.tbls c _ e1
    exact ⟨m1 ++ m2, by rw [e2, Array.append_assoc]⟩
theorem Un.kept (k : ∀ b u, h.get? b = some u → h'.get? b = some u) : Un fs ex H H h h' :=
  ⟨fun b ob q _ _ _ => k b ob q, fun b ob q _ _ _ => ⟨ob.slots, k b ob q⟩, fun _ _ _ n _ => n, fun b ob q _ => ⟨ob, k b ob q⟩, fun _ _ q => q, fun _ _ _ q => q, fun _ ps q => ⟨#[], by rw [q]; simp⟩⟩
theorem Un.refl : Un fs ex H H h h := Un.kept fun _ _ q => q
theorem Un.laid (k : ∀ b u, h.get? b = some u → h'.get? b = some u) (hp : h.objs.size ≤ a) (hn : H a = none) : Un fs ex H (upd H a o) h h' where
  keep := fun b u q _ _ _ => k b u q
  slot := fun b u q _ _ _ => ⟨u.slots, k b u q⟩
  free := fun b u q n _ => by rw [upd_ne (Nat.ne_of_lt (Nat.lt_of_lt_of_le (Heap.lt_size q) hp))]; exact n
  there := fun b u q _ => ⟨u, k b u q⟩
  tups := fun b xs q => by rw [upd_ne (ne_of_none q hn)]; exact q
  frzs := fun b u xs q => by rw [upd_ne (ne_of_none q hn)]; exact q
  tbls := fun b ps q => ⟨#[], by rw [upd_ne (ne_of_none q hn), q]; simp⟩
theorem Un.write (mu : Mut (H x)) (he : e = x ∨ H e = some (.own x)) (k : ∀ b u, b ≠ e → h.get? b = some u → h'.get? b = some u) (heo : ∃ u, h'.get? e = some u) : Un fs ex H (upd H x o) h h' := by
  have hx : ∀ b, H b = none → b ≠ x := fun b n z => by subst z; rw [n] at mu; exact mu
  have hb : ∀ b, H b = none → b ≠ e := fun b n z => by
    subst z
    rcases he with r | r
    · exact hx b n r
    · rw [n] at r; cases r
  have hm : ∀ b u, H b = some u → ¬ Mut (some u) → b ≠ x := fun b u q nm z => by subst z; rw [q] at mu; exact nm mu
  refine ⟨fun b u q n _ _ => k b u (hb b n) q, fun b u q n _ _ => ⟨u.slots, k b u (hb b n) q⟩, fun b u q n _ => by rw [upd_ne (hx b n)]; exact n, fun b u q _ => ?_,
    fun b xs q => by rw [upd_ne (hm b _ q fun z => z)]; exact q, fun b u xs q => by rw [upd_ne (hm b _ q fun z => z)]; exact q, fun b ps q => ⟨#[], by rw [upd_ne (hm b _ q fun z => z), q]; simp⟩⟩
  by_cases hbe : b = e
  · subst hbe; exact heo
  · exact ⟨u, k b u hbe q⟩
theorem Un.mono (u : Un fs ex H H1 h h1) (hs : ∀ b ∈ fs, b ∈ fs') (hx : ∀ b ∈ ex, b ∈ ex') : Un fs' ex' H H1 h h1 :=
  ⟨fun b ob q n hb he => u.keep b ob q n (fun z => hb (hs b z)) fun z => he (hx b z), fun _ _ q n _ he => u.any q n fun z => he (hx _ z), fun b ob q n he => u.free b ob q n fun z => he (hx b z), fun b ob q he => u.there b ob q fun z => he (hx b z), u.tups, u.frzs, u.tbls⟩
end

/-! ### the heap without what is tracked -/
def trk (h : Heap) (H : Hp) : List Addr := (List.range h.objs.size).filter fun a => (H a).isSome
def hidT (h : Heap) (H : Hp) : Heap := PySem.W.hideAll h (trk h H)
theorem hidT_size (h : Heap) (H : Hp) : (hidT h H).objs.size = h.objs.size := PySem.W.hideAll_size _ _
theorem hidT_get {h : Heap} {H : Hp} {b : Addr} {o : Obj} (e : h.get? b = some o) (n : H b = none) : (hidT h H).get? b = some o :=
  PySem.W.hideAll_get _ e fun hm => by
    have q : (H b).isSome = true := (List.mem_filter.mp hm).2
    rw [n] at q; simp at q
theorem of_hidT {h : Heap} {H : Hp} {b : Addr} {o : Obj} (e : (hidT h H).get? b = some o) : h.get? b = some o ∧ H b = none := by
  have e' : h.get? b = some o := PySem.W.of_hideAll (trk h H) e
  refine ⟨e', ?_⟩
  cases q : H b with
  | none => rfl
  | some x =>
    have hm : b ∈ trk h H := List.mem_filter.mpr ⟨List.mem_range.mpr (Heap.lt_size e'), by simp [q]⟩
    have z : (hidT h H).get? b = none := PySem.W.hideAll_none (trk h H) hm
    rw [z] at e; cases e

/-! ### OpenK's ledger, filled with every new object but one -/
def allNews (g h : Heap) (L : Addr) : List (Addr × Obj) := (List.range h.objs.size).filterMap fun a => if a = L ∨ (g.get? a).isSome = true then none else (h.get? a).map fun o => (a, o)
theorem mem_allNews {g h : Heap} {L a : Addr} {o : Obj} (h1 : a ≠ L) (h2 : g.get? a = none) (h3 : h.get? a = some o) : (a, o) ∈ allNews g h L :=
  List.mem_filterMap.mpr ⟨a, List.mem_range.mpr (Heap.lt_size h3), by simp [h1, h2, h3]⟩
theorem of_mem_allNews {g h : Heap} {L : Addr} {p : Addr × Obj} (hp : p ∈ allNews g h L) : p.1 ≠ L ∧ g.get? p.1 = none ∧ h.get? p.1 = some p.2 := by
  obtain ⟨b, _, e⟩ := List.mem_filterMap.mp hp
  split at e
  · cases e
  · rename_i hn
    cases q : h.get? b with
    | none => rw [q] at e; simp at e
    | some u =>
      rw [q] at e
      simp only [Option.map_some, Option.some.injEq] at e
      subst e
      refine ⟨fun z => hn (.inl z), ?_, q⟩
      show g.get? b = none
      cases r : g.get? b with
      | none => rfl
      | some v => exact (hn (.inr (by simp [r]))).elim
def rest (g h : Heap) (L d : Addr) : List (Addr × Obj) := (allNews g h L).filter fun p => decide (p.1 ≠ d)
theorem rest_ne {g h : Heap} {L d : Addr} : ∀ p ∈ rest g h L d, p.1 ≠ d := fun p hp => of_decide_eq_true (List.mem_filter.mp hp).2
theorem mem_rest {g h : Heap} {L d a : Addr} {o : Obj} (h1 : a ≠ L) (h2 : g.get? a = none) (h3 : h.get? a = some o) (h4 : a ≠ d) : (a, o) ∈ rest g h L d :=
  List.mem_filter.mpr ⟨mem_allNews h1 h2 h3, decide_eq_true h4⟩
theorem news_all {g h : Heap} {L : Addr} : News g L h (allNews g h L) := fun p hp => let ⟨a, b, c⟩ := of_mem_allNews hp; ⟨c, a, b⟩
theorem news_at {g h : Heap} {L d : Addr} {o : Obj} (h1 : d ≠ L) (h2 : g.get? d = none) (h3 : h.get? d = some o) : News g L h ((d, o) :: rest g h L d) := fun p hp => by
  rcases List.mem_cons.mp hp with rfl | hp
  · exact ⟨h3, h1, h2⟩
  · exact news_all p (List.mem_filter.mp hp).1
/-- behind a rule that changed d alone: all else but the frame is kept -/
theorem kept_of_news {g h h' : Heap} {L d : Addr} {m : Str → Option Value} (k : ∀ b o, g.get? b = some o → h.get? b = some o) (F : Fr g L h' m) (N : News g L h' (rest g h L d)) :
    ∀ b o, b ≠ L → b ≠ d → h.get? b = some o → h'.get? b = some o := fun b o h1 h2 e => by
  cases q : g.get? b with
  | some u =>
    have := k b u q
    rw [e] at this; cases this
    exact F.keep b _ q
  | none => exact (N (b, o) (mem_rest h1 q e h2)).1
end L2

namespace L2
open PySem PySem.Spec PyProof.Rows

/-- the module's facts, over the base: the heap at the law's entry without what is tracked there -/
structure Mod (K : PySem.W.Frag) (mg : Str → Option Value) (base : Heap) : Prop where
  kin : K.In base
  glob : base.Ns mainGlobals mg
  blt : ∃ mb, base.Ns builtinsNs mb ∧ ∀ x : Str, x ≠ "__name__" → mb x = bootBuiltins x
  nolimit : base.NoLimit

/-- the context: a def's body (or a comprehension's block) running. base: fixed through the whole law; s₀, H₀: the entry; outer: the frames whose slots others may change (a def's callers); stack: all frames that run;
   ex: iterators that were made ahead of the entry and are walked here (a comprehension's); fn: the names whose cells were made at the entry (a def: all; a comprehension's block: its own); calm: not within an except suite; pn: pins that every state bears; xe: what is wanted of an exception that leaves the code -/
structure Cx where
  prog : Program
  w : World
  K : PySem.W.Frag
  mg : Str → Option Value
  base : Heap
  A : Around
  N : List Str
  s₀ : Shared
  H₀ : Hp
  env : Env
  outer : List Env
  stack : List Env
  ex : List Addr
  fn : Str → Bool
  calm : Bool
  pn : List (Addr × Obj)
  xe : Value → Shared → Prop
/-- the callers' frames -/
def frs (l : List Env) : List Addr := l.filterMap (·.frame)
abbrev Cx.fs (X : Cx) : List Addr := frs X.outer

def Vis (sc : Scope) (x : Str) : Prop := sc.names.lookup x = some .local ∨ sc.names.lookup x = some .cell ∨ sc.names.lookup x = some .free
def Loc (sc : Scope) (x : Str) : Prop := sc.names.lookup x = some .local ∨ sc.names.lookup x = some .cell
def Look (env : Env) (h : Heap) (m : Str → Option Value) (x : Str) (u : Value) : Prop :=
  (env.kindOf x = some .local ∧ m x = some u) ∨ ((env.kindOf x = some .cell ∨ env.kindOf x = some .free) ∧ ∃ c, env.cells.lookup x = some c ∧ h.IsCell c (some u))

structure Cx.Ok (X : Cx) : Prop where
  mod : Mod X.K X.mg X.base
  kind : X.env.scope.kind = .function
  glob : X.env.globals = mainGlobals
  blt : X.env.builtins = builtinsNs
  above : X.s₀.heap.objs.size ≤ X.env.locals
  inj : ∀ x y c, X.env.cells.lookup x = some c → X.env.cells.lookup y = some c → x = y
  has : ∀ x, (X.env.kindOf x = some .cell ∨ X.env.kindOf x = some .free) → ∃ c, X.env.cells.lookup x = some c
  cab : ∀ x c, X.fn x = true → X.env.cells.lookup x = some c → X.s₀.heap.objs.size ≤ c
  hd : X.calm = true → X.A.handled = none
  frames : X.A.frames = some X.stack
  stk : X.stack = X.outer ∨ (X.stack = X.env :: X.outer ∧ X.env.frame = some X.env.locals)
  exf : ∀ b ∈ X.ex, b ≠ X.env.locals ∧ ∀ x c, X.env.cells.lookup x = some c → c ≠ b
  bs : ∀ b o, X.base.get? b = some o → X.s₀.heap.get? b = some o ∧ X.H₀ b = none
  bsz : X.base.objs.size ≤ X.s₀.heap.objs.size
  noex : ∀ b o, X.base.get? b = some o → b ∉ X.ex
  exfs : ∀ b ∈ X.ex, b ∉ X.fs
  funs : X.s₀.heap.FunFrames X.base X.outer
  frf : ∀ b ∈ X.fs, X.H₀ b = none

structure Inv (X : Cx) (pins : List (Addr × Obj)) (σ : List (Option V)) (H : Hp) (s : Shared) : Prop where
  ok : X.Ok
  os : s.os = X.s₀.os
  bare : AllBare s.gens
  base : Un X.fs X.ex X.H₀ H X.s₀.heap s.heap
  loc : ∃ m, s.heap.Ns X.env.locals m ∧ ∀ (i : Nat) (x : Str) (v : V), X.N[i]? = some x → σ[i]? = some (some v) → Vis X.env.scope x → ∃ u, RelV v u ∧ Look X.env s.heap m x u
  cell : ∀ x c, X.env.cells.lookup x = some c → ∃ v, s.heap.IsCell c v
  free : H X.env.locals = none
  freeC : ∀ x c, X.env.cells.lookup x = some c → H c = none
  pin : ∀ p ∈ X.pn ++ pins, s.heap.get? p.1 = some p.2 ∧ H p.1 = none ∧ p.1 ≠ X.env.locals ∧ p.1 ∉ X.fs ∧ ∀ v, p.2.data ≠ .cell v
  hok : HOk X.prog X.w H s.heap
  len : σ.length = X.N.length

section
variable {X : Cx} {pins : List (Addr × Obj)} {σ : List (Option V)} {H H' : Hp} {s : Shared} {h' : Heap}

theorem Cx.Ok.nofr (ok : X.Ok) {b : Addr} {o : Obj} (e : X.base.get? b = some o) : b ∉ X.fs := fun hb => by
  have := (ok.funs.mem hb).1
  rw [e] at this; cases this
theorem Inv.bs (I : Inv X pins σ H s) : ∀ b o, X.base.get? b = some o → s.heap.get? b = some o ∧ H b = none := fun b o e =>
  ⟨I.base.keep b o (I.ok.bs b o e).1 (I.ok.bs b o e).2 (I.ok.nofr e) (I.ok.noex b o e), I.base.free b o (I.ok.bs b o e).1 (I.ok.bs b o e).2 (I.ok.noex b o e)⟩
theorem Inv.bk (I : Inv X pins σ H s) : ∀ b o, X.base.get? b = some o → s.heap.get? b = some o := fun b o e => (I.bs b o e).1
theorem Inv.mod (I : Inv X pins σ H s) : Mod X.K X.mg X.base := I.ok.mod
theorem Inv.kIn (I : Inv X pins σ H s) : X.K.In s.heap := I.ok.mod.kin.keeps I.bk
theorem Inv.nolimit (I : Inv X pins σ H s) : s.heap.NoLimit := I.ok.mod.nolimit.keeps I.bk
/-- the frame over the base: for OpenK's rules (K.In X.base is I.mod.kin) -/
theorem Inv.fr (I : Inv X pins σ H s) : ∃ m, Fr X.base X.env.locals s.heap m :=
  let ⟨m, hn, _⟩ := I.loc
  ⟨m, hn, I.bk, Nat.le_trans I.ok.bsz I.ok.above⟩
theorem Inv.lt (I : Inv X pins σ H s) : X.env.locals < s.heap.objs.size := let ⟨_, hn, _⟩ := I.loc; hn.lt
theorem Inv.sz (I : Inv X pins σ H s) : X.s₀.heap.objs.size ≤ s.heap.objs.size := Nat.le_trans I.ok.above (Nat.le_of_lt I.lt)
theorem Inv.nofs (I : Inv X pins σ H s) {a : Addr} (h : s.heap.objs.size ≤ a) : a ∉ X.fs := fun hb => by
  obtain ⟨_, o, ho, _⟩ := I.ok.funs.mem hb
  exact absurd (Nat.lt_of_lt_of_le (Heap.lt_size ho) (Nat.le_trans I.sz h)) (Nat.lt_irrefl _)
theorem Inv.cne (I : Inv X pins σ H s) : ∀ x c, X.env.cells.lookup x = some c → c ≠ X.env.locals := fun x c e z => by
  obtain ⟨v, o, ho, hd⟩ := I.cell x c e
  obtain ⟨m, ⟨o', es, ep, ho', hd', _⟩, _⟩ := I.loc
  rw [z, ho'] at ho; cases ho; rw [hd'] at hd; cases hd
theorem Inv.funs (I : Inv X pins σ H s) : s.heap.FunFrames X.base X.outer := by
  have all : ∀ (l : List Env), (∀ b ∈ frs l, b ∈ X.fs) → X.s₀.heap.FunFrames X.base l → s.heap.FunFrames X.base l := by
    intro l
    induction l with
    | nil => intro _ _; trivial
    | cons env r ih =>
      intro hs hl
      obtain ⟨hk, ⟨L, o, hf, hn, ho, hd⟩, hr⟩ := hl
      have hL : L ∈ X.fs := hs L (by unfold frs; rw [List.filterMap_cons, hf]; exact List.mem_cons_self)
      obtain ⟨sl, e⟩ := I.base.slot L o ho (I.ok.frf L hL) hL fun z => I.ok.exfs L z hL
      exact ⟨hk, ⟨L, _, hf, hn, e, hd⟩, ih (fun b hb => hs b (by unfold frs; rw [List.filterMap_cons, hf]; exact List.mem_cons_of_mem _ hb)) hr⟩
  exact all X.outer (fun _ hb => hb) I.ok.funs

/-- the frames that run, for a call -/
theorem Inv.stack (I : Inv X pins σ H s) : s.heap.FunFrames X.base X.stack := by
  rcases I.ok.stk with e | ⟨e, hf⟩
  · rw [e]; exact I.funs
  · rw [e]
    obtain ⟨m, hn, _⟩ := I.loc
    refine .cons (by rw [I.ok.kind]; decide) hf hn ?_ I.funs
    exact Heap.get?_none_of_le (Nat.le_trans I.ok.bsz I.ok.above)
theorem Inv.stkSub (I : Inv X pins σ H s) : ∀ b ∈ frs X.stack, b ∈ X.env.locals :: X.fs := fun b hb => by
  rcases I.ok.stk with e | ⟨e, hf⟩
  · rw [e] at hb; exact List.mem_cons_of_mem _ hb
  · rw [e] at hb
    unfold frs at hb
    rw [List.filterMap_cons, hf] at hb
    exact hb
theorem Inv.stkFree (I : Inv X pins σ H s) : ∀ b ∈ frs X.stack, H b = none := fun b hb => by
  rcases List.mem_cons.mp (I.stkSub b hb) with e | hb
  · rw [e]; exact I.free
  · obtain ⟨_, o, ho, _⟩ := I.ok.funs.mem hb
    exact I.base.free b o ho (I.ok.frf b hb) fun z => I.ok.exfs b z hb

/-- THE STEP: the untracked objects but the frame and the records at ch are kept (the callers' frames up to slots), the frame's map is kept, the new abstract heap is held -/
theorem Inv.step {g' : Array GenState} {t' : Nat} {d' : Drawn} {ch : List Addr} (I : Inv X pins σ H s)
    (hch : ∀ b ∈ ch, (b ∈ X.ex ∨ X.s₀.heap.objs.size ≤ b) ∧ b ≠ X.env.locals ∧ (∀ x c, X.env.cells.lookup x = some c → c ≠ b) ∧ ∀ p ∈ X.pn ++ pins, p.1 ≠ b)
    (keep : ∀ b o, b ≠ X.env.locals → b ∉ X.fs → b ∉ ch → s.heap.get? b = some o → H b = none → h'.get? b = some o)
    (slot : ∀ b o, b ≠ X.env.locals → b ∈ X.fs → b ∉ ch → s.heap.get? b = some o → H b = none → ∃ sl, h'.get? b = some { o with slots := sl }) (free : ∀ b o, b ∉ ch → s.heap.get? b = some o → H b = none → H' b = none)
    (there : ∀ b o, b ∉ ch → s.heap.get? b = some o → ∃ o', h'.get? b = some o')
    (tups : ∀ b xs, H b = some (.tup xs) → H' b = some (.tup xs)) (frzs : ∀ b o u, H b = some (.frz o u) → H' b = some (.frz o u)) (tbls : ∀ b ps, H b = some (.tbl ps) → ∃ more, H' b = some (.tbl (ps ++ more)))
    (ns : ∀ m, s.heap.Ns X.env.locals m → h'.Ns X.env.locals m) (hok : HOk X.prog X.w H' h') (hg : AllBare g') :
    Inv X pins σ H' { s with heap := h', gens := g', drawn := d', toks := t' } := by
  have neL : ∀ b o, X.s₀.heap.get? b = some o → b ≠ X.env.locals := fun b o e => Nat.ne_of_lt (Nat.lt_of_lt_of_le (Heap.lt_size e) I.ok.above)
  have neC : ∀ b o, X.s₀.heap.get? b = some o → b ∉ X.ex → b ∉ ch := fun b o e hx hb => by
    rcases (hch b hb).1 with z | z
    · exact hx z
    · exact absurd (Nat.lt_of_lt_of_le (Heap.lt_size e) z) (Nat.lt_irrefl _)
  have cellK : ∀ x c, X.env.cells.lookup x = some c → ∀ v, s.heap.IsCell c v → h'.IsCell c v := fun x c e v ⟨o, ho, hd⟩ => by
    have nch : c ∉ ch := fun z => (hch c z).2.2.1 x c e rfl
    by_cases hc : c ∈ X.fs
    · obtain ⟨sl, q⟩ := slot c o (I.cne x c e) hc nch ho (I.freeC x c e)
      exact ⟨_, q, hd⟩
    · exact ⟨o, keep c o (I.cne x c e) hc nch ho (I.freeC x c e), hd⟩
  refine ⟨I.ok, I.os, hg, ⟨fun b o e n hb hx => ?_, fun b o e n hb hx => ?_, fun b o e n hx => ?_, fun b o e hx => ?_, fun b xs e => tups b xs (I.base.tups b xs e), fun b o xs e => frzs b o xs (I.base.frzs b o xs e), fun b ps e => ?_⟩, ?_, fun x c e => ?_, ?_, fun x c e => ?_, fun p hp => ?_, hok, I.len⟩
  · exact keep b o (neL b o e) hb (neC b o e hx) (I.base.keep b o e n hb hx) (I.base.free b o e n hx)
  · obtain ⟨sl, e1⟩ := I.base.slot b o e n hb hx
    obtain ⟨sl', e2⟩ := slot b _ (neL b o e) hb (neC b o e hx) e1 (I.base.free b o e n hx)
    exact ⟨sl', e2⟩
  · obtain ⟨o', e1⟩ := I.base.there b o e hx
    exact free b o' (neC b o e hx) e1 (I.base.free b o e n hx)
  · obtain ⟨o', e1⟩ := I.base.there b o e hx
    exact there b o' (neC b o e hx) e1
  · obtain ⟨m1, e1⟩ := I.base.tbls b ps e
    obtain ⟨m2, e2⟩ := tbls b _ e1
    exact ⟨m1 ++ m2, by rw [e2, Array.append_assoc]⟩
  · obtain ⟨m, hn, hl⟩ := I.loc
    refine ⟨m, ns m hn, fun i x v e1 e2 e3 => ?_⟩
    obtain ⟨u, r, l⟩ := hl i x v e1 e2 e3
    refine ⟨u, r, ?_⟩
    rcases l with l | ⟨k, c, e, z⟩
    · exact .inl l
    · exact .inr ⟨k, c, e, cellK x c e _ z⟩
  · obtain ⟨v, z⟩ := I.cell x c e
    exact ⟨v, cellK x c e v z⟩
  · obtain ⟨m, ⟨o, _, _, ho, _⟩, _⟩ := I.loc
    exact free _ o (fun z => (hch _ z).2.1 rfl) ho I.free
  · obtain ⟨v, o, ho, hd⟩ := I.cell x c e
    exact free c o (fun z => (hch c z).2.2.1 x c e rfl) ho (I.freeC x c e)
  · obtain ⟨e, n, ne, nf, d⟩ := I.pin p hp
    have nch : p.1 ∉ ch := fun z => (hch p.1 z).2.2.2 p hp rfl
    exact ⟨keep p.1 p.2 ne nf nch e n, free p.1 p.2 nch e n, ne, nf, d⟩
/-- .. where the frame's own object is kept too -/
theorem Inv.un {t' : Nat} (I : Inv X pins σ H s) (u : Un X.fs [] H H' s.heap h') (hok : HOk X.prog X.w H' h') : Inv X pins σ H' { s with heap := h', toks := t' } := by
  obtain ⟨m, ⟨o, es, ep, ho, r⟩, _⟩ := id I.loc
  obtain ⟨sl, hL⟩ := u.any ho I.free (by simp)
  exact I.step (g' := s.gens) (d' := s.drawn) (ch := []) (fun _ z => nomatch z) (fun b o _ hb _ e n => u.keep b o e n hb (by simp)) (fun b o _ hb _ e n => u.slot b o e n hb (by simp)) (fun b o _ e n => u.free b o e n (by simp)) (fun b o _ e => u.there b o e (by simp)) u.tups u.frzs u.tbls (fun m' hm => by
    obtain ⟨o', es', ep', ho', r'⟩ := hm
    rw [ho] at ho'; cases ho'
    exact ⟨_, es', ep', hL, r'⟩) hok I.bare
/-- behind a call (or a comprehension's block): the slots of this frame may have changed too, the records at ch may have turned -/
theorem Inv.call {g' : Array GenState} {t' : Nat} {d' : Drawn} {ch : List Addr} (I : Inv X pins σ H s) (u : Un (frs X.stack) ch H H' s.heap h') (hok : HOk X.prog X.w H' h') (hg : AllBare g')
    (hch : ∀ b ∈ ch, (b ∈ X.ex ∨ X.s₀.heap.objs.size ≤ b) ∧ b ≠ X.env.locals ∧ (∀ x c, X.env.cells.lookup x = some c → c ≠ b) ∧ ∀ p ∈ X.pn ++ pins, p.1 ≠ b) :
    Inv X pins σ H' { s with heap := h', gens := g', drawn := d', toks := t' } := by
  obtain ⟨m, ⟨o, es, ep, ho, r⟩, _⟩ := id I.loc
  obtain ⟨sl, hL⟩ := u.any ho I.free fun z => (hch _ z).2.1 rfl
  exact I.step (ch := ch) hch (fun b o hL hb hc e n => u.keep b o e n (fun z => (List.mem_cons.mp (I.stkSub b z)).elim hL hb) hc) (fun b o _ _ hc e n => u.any e n hc) (fun b o hc e n => u.free b o e n hc) (fun b o hc e => u.there b o e hc) u.tups u.frzs u.tbls (fun m' hm => by
    obtain ⟨o', es', ep', ho', r'⟩ := hm
    rw [ho] at ho'; cases ho'
    exact ⟨_, es', ep', hL, r'⟩) hok hg
/-- an untracked record of ours (an iterator) has turned -/
theorem Inv.turned {t' : Nat} {it : Addr} (I : Inv X pins σ H s) (k : ∀ b o, b ≠ it → s.heap.get? b = some o → h'.get? b = some o) (hn : H it = none) (hL : it ≠ X.env.locals)
    (h1 : it ∈ X.ex ∨ X.s₀.heap.objs.size ≤ it) (h2 : ∀ x c, X.env.cells.lookup x = some c → c ≠ it) (h3 : ∀ p ∈ X.pn ++ pins, p.1 ≠ it) : Inv X pins σ H { s with heap := h', toks := t' } := by
  have nit : ∀ b u, H b = some u → b ≠ it := fun b u e z => by rw [z, hn] at e; cases e
  refine I.step (g' := s.gens) (d' := s.drawn) (ch := [it]) (fun b hb => ?_) (fun b o _ _ hc e _ => k b o (fun z => hc (by simp [z])) e) (fun b o _ _ hc e _ => ⟨o.slots, k b o (fun z => hc (by simp [z])) e⟩) (fun _ _ _ _ n => n)
    (fun b o hc e => ⟨o, k b o (fun z => hc (by simp [z])) e⟩) (fun _ _ e => e) (fun _ _ _ e => e) (fun b ps e => ⟨#[], by rw [e]; simp⟩) (fun m hm => ?_) (fun b u e => ?_) I.bare
  · have e : b = it := by simpa using hb
    subst e
    exact ⟨h1, hL, h2, h3⟩
  · obtain ⟨o, es, ep, ho, r⟩ := hm
    exact ⟨o, es, ep, k _ o (Ne.symm hL) ho, r⟩
  · refine (I.hok b u e).stay (fun c v hc q => k c v ?_ q) (fun _ q => q) fun _ _ q => q
    rcases hc with z | z
    · rw [z]; exact nit b u e
    · exact nit c _ z
theorem Inv.tok (I : Inv X pins σ H s) (t : Nat) : Inv X pins σ H { s with toks := t } := I.un (h' := s.heap) (t' := t) Un.refl I.hok
/-- all objects kept -/
theorem Inv.kept {t' : Nat} (I : Inv X pins σ H s) (k : ∀ b u, s.heap.get? b = some u → h'.get? b = some u) : Inv X pins σ H { s with heap := h', toks := t' } := I.un (Un.kept k) (I.hok.kept k)
/-- a new object laid and tracked -/
theorem Inv.laid {a : Addr} {o : HO} {t' : Nat} (I : Inv X pins σ H s) (k : ∀ b u, s.heap.get? b = some u → h'.get? b = some u) (hp : s.heap.objs.size ≤ a) (new : ObjOk X.prog X.w (upd H a o) h' a o) :
    Inv X pins σ (upd H a o) { s with heap := h', toks := t' } := I.un (Un.laid k hp (I.hok.fresh hp)) (I.hok.laid k hp new)
/-- an object written -/
theorem Inv.write {x e : Addr} {o : HO} {t' : Nat} (I : Inv X pins σ H s) (mu : Mut (H x)) (he : e = x ∨ H e = some (.own x)) (k : ∀ b u, b ≠ e → s.heap.get? b = some u → h'.get? b = some u) (heo : ∃ u, h'.get? e = some u)
    (new : ObjOk X.prog X.w (upd H x o) h' x o) : Inv X pins σ (upd H x o) { s with heap := h', toks := t' } := I.un (Un.write mu he k heo) (I.hok.write mu he k heo new)
/-- forgetting slots, pins -/
theorem Inv.weak {σ' : List (Option V)} (I : Inv X pins σ H s) (hl : σ'.length = σ.length) (w : ∀ (i : Nat) v, σ'[i]? = some (some v) → σ[i]? = some (some v)) : Inv X pins σ' H s :=
  ⟨I.ok, I.os, I.bare, I.base, let ⟨m, hn, hl'⟩ := I.loc; ⟨m, hn, fun i x v e1 e2 e3 => hl' i x v e1 (w i v e2) e3⟩, I.cell, I.free, I.freeC, I.pin, I.hok, hl.trans I.len⟩
theorem Inv.pins_of {pins' : List (Addr × Obj)} (I : Inv X pins σ H s) (h : ∀ p ∈ pins', s.heap.get? p.1 = some p.2 ∧ H p.1 = none ∧ p.1 ≠ X.env.locals ∧ p.1 ∉ X.fs ∧ ∀ v, p.2.data ≠ .cell v) : Inv X pins' σ H s :=
  ⟨I.ok, I.os, I.bare, I.base, I.loc, I.cell, I.free, I.freeC, fun p hp => (List.mem_append.mp hp).elim (fun z => I.pin p (List.mem_append_left _ z)) (h p), I.hok, I.len⟩

theorem nodup_ix {N : List Str} (hN : N.Nodup) {i j : Nat} {x : Str} (a : N[i]? = some x) (b : N[j]? = some x) : i = j := by
  obtain ⟨h1, e1⟩ := List.getElem?_eq_some_iff.mp a
  obtain ⟨h2, e2⟩ := List.getElem?_eq_some_iff.mp b
  exact (List.getElem_inj hN).mp (e1.trans e2.symm)

/-- a name is stored; what changed -/
theorem store_ok2 {M : Model} {A : Around} {E : Value → Shared → Prop} {i : Nat} {x : Str} {v : V} {u : Value} {Q : Unit → Shared → Prop} (I : Inv X pins σ H s) (hN : X.N.Nodup) (hi : X.N[i]? = some x) (hx : Loc X.env.scope x) (r : RelV v u)
    (h : ∀ s', Inv X pins (σ.set i (some v)) H s' → (∃ a, Heap.SameBut a s.heap s'.heap ∧ (a = X.env.locals ∨ X.env.cells.lookup x = some a)) → Q () s') (hf : X.fn x = true ∨ X.env.scope.names.lookup x = some .local := by first | exact .inl rfl | exact .inr rfl | assumption) : wpAny M A (storeName X.env x u) Q E s := by
  obtain ⟨m, hn, hl⟩ := id I.loc
  have hcls : (X.env.scope.kind == .class || (X.env.scope.kind == .module && X.env.locals != X.env.globals)) = false := by rw [I.ok.kind]; rfl
  have hiσ : i < σ.length := by rw [I.len]; exact (List.getElem?_eq_some_iff.mp hi).1
  have cne := I.cne
  have tracked : ∀ {a : Addr} {h' : Heap}, (∃ o, s.heap.get? a = some o ∧ H a = none) → Heap.SameBut a s.heap h' → HOk X.prog X.w H h' := fun {a h'} ha hs b ob e => by
    obtain ⟨_, _, hfree⟩ := ha
    refine (I.hok b ob e).stay (fun c w' hc q => (hs.2 c ?_).trans q) (fun _ q => q) fun _ _ q => q
    rintro rfl
    rcases hc with rfl | hc
    · rw [hfree] at e; cases e
    · rw [hfree] at hc; cases hc
  rcases hx with hk | hk
  · refine wpAny_storeName_local hk hn (fun h' hn' hs => ?_) hcls
    obtain ⟨oL, _, _, hoL, _⟩ := id hn
    refine h _ ⟨I.ok, I.os, I.bare, ⟨fun b o e n hb hx => ?_, fun b o e n hb hx => ?_, I.base.free, fun b o e hx => ?_, I.base.tups, I.base.frzs, I.base.tbls⟩, ⟨_, hn', fun j y v' e1 e2 e3 => ?_⟩, fun y c e => ?_, I.free, I.freeC, fun p hp => ?_, tracked ⟨oL, hoL, I.free⟩ hs, by simpa using I.len⟩ ⟨_, hs, .inl rfl⟩
    · exact (hs.2 b (Nat.ne_of_lt (Nat.lt_of_lt_of_le (Heap.lt_size e) I.ok.above))).trans (I.base.keep b o e n hb hx)
    · obtain ⟨sl, e1⟩ := I.base.slot b o e n hb hx
      exact ⟨sl, (hs.2 b (Nat.ne_of_lt (Nat.lt_of_lt_of_le (Heap.lt_size e) I.ok.above))).trans e1⟩
    · obtain ⟨o', e1⟩ := I.base.there b o e hx
      exact ⟨o', (hs.2 b (Nat.ne_of_lt (Nat.lt_of_lt_of_le (Heap.lt_size e) I.ok.above))).trans e1⟩
    · by_cases hj : j = i
      · subst hj
        rw [hi] at e1; cases e1
        rw [List.getElem?_set_self hiσ] at e2
        cases e2
        exact ⟨u, r, .inl ⟨hk, by simp⟩⟩
      · rw [List.getElem?_set_ne (Ne.symm hj)] at e2
        obtain ⟨u', r', q⟩ := hl j y v' e1 e2 e3
        refine ⟨u', r', ?_⟩
        rcases q with ⟨k, e⟩ | ⟨k, c, e, z⟩
        · refine .inl ⟨k, ?_⟩
          have : y ≠ x := fun e => hj (nodup_ix hN e1 (e ▸ hi))
          simp [this, e]
        · exact .inr ⟨k, c, e, z.sameBut hs (cne y c e)⟩
    · obtain ⟨w', z⟩ := I.cell y c e
      exact ⟨w', z.sameBut hs (cne y c e)⟩
    · obtain ⟨e, n, ne, nf, d⟩ := I.pin p hp
      exact ⟨(hs.2 p.1 ne).trans e, n, ne, nf, d⟩
  · have hfn : X.fn x = true := by
      rcases hf with z | z
      · exact z
      · rw [z] at hk; cases hk
    obtain ⟨c, hc⟩ := I.ok.has x (.inl hk)
    obtain ⟨w', z⟩ := I.cell x c hc
    refine wpAny_storeName_cell I.ok.kind hk hc z (fun h' hc' hs => ?_)
    obtain ⟨oc, hoc, hocd⟩ := id z
    refine h { s with heap := h' } ⟨I.ok, I.os, I.bare, ⟨fun b o e n hb hx => ?_, fun b o e n hb hx => ?_, I.base.free, fun b o e hx => ?_, I.base.tups, I.base.frzs, I.base.tbls⟩, ⟨m, hn.sameBut hs (Ne.symm (cne x c hc)), fun j y v' e1 e2 e3 => ?_⟩, fun y c' e => ?_, I.free, I.freeC, fun p hp => ?_, tracked ⟨oc, hoc, I.freeC x c hc⟩ hs, by simpa using I.len⟩ ⟨c, hs, .inr hc⟩
    · exact (hs.2 b (Nat.ne_of_lt (Nat.lt_of_lt_of_le (Heap.lt_size e) (I.ok.cab x c hfn hc)))).trans (I.base.keep b o e n hb hx)
    · obtain ⟨sl, e1⟩ := I.base.slot b o e n hb hx
      exact ⟨sl, (hs.2 b (Nat.ne_of_lt (Nat.lt_of_lt_of_le (Heap.lt_size e) (I.ok.cab x c hfn hc)))).trans e1⟩
    · obtain ⟨o', e1⟩ := I.base.there b o e hx
      exact ⟨o', (hs.2 b (Nat.ne_of_lt (Nat.lt_of_lt_of_le (Heap.lt_size e) (I.ok.cab x c hfn hc)))).trans e1⟩
    · by_cases hj : j = i
      · subst hj
        rw [hi] at e1; cases e1
        rw [List.getElem?_set_self hiσ] at e2
        cases e2
        exact ⟨u, r, .inr ⟨.inl hk, c, hc, hc'⟩⟩
      · rw [List.getElem?_set_ne (Ne.symm hj)] at e2
        obtain ⟨u', r', q⟩ := hl j y v' e1 e2 e3
        refine ⟨u', r', ?_⟩
        rcases q with q | ⟨k, c', e, z'⟩
        · exact .inl q
        · refine .inr ⟨k, c', e, z'.sameBut hs ?_⟩
          rintro rfl
          exact hj (nodup_ix hN e1 (I.ok.inj _ _ _ e hc ▸ hi))
    · by_cases hcc : c' = c
      · subst hcc; exact ⟨_, hc'⟩
      · obtain ⟨w2, z2⟩ := I.cell y c' e
        exact ⟨w2, z2.sameBut hs hcc⟩
    · obtain ⟨e, n, ne, nf, d⟩ := I.pin p hp
      refine ⟨(hs.2 p.1 ?_).trans e, n, ne, nf, d⟩
      intro q
      rw [q, hoc] at e
      have q' : oc = p.2 := Option.some.inj e
      exact d w' (by rw [← q']; exact hocd)
theorem store_ok {M : Model} {A : Around} {E : Value → Shared → Prop} {i : Nat} {x : Str} {v : V} {u : Value} {Q : Unit → Shared → Prop} (I : Inv X pins σ H s) (hN : X.N.Nodup) (hi : X.N[i]? = some x) (hx : Loc X.env.scope x) (r : RelV v u)
    (h : ∀ s', Inv X pins (σ.set i (some v)) H s' → Q () s') (hf : X.fn x = true ∨ X.env.scope.names.lookup x = some .local := by first | exact .inl rfl | exact .inr rfl | assumption) : wpAny M A (storeName X.env x u) Q E s :=
  store_ok2 I hN hi hx r (fun s' I' _ => h s' I') hf
/-- behind a call or a block, the state as it is -/
theorem Inv.call' {s' : Shared} {ch : List Addr} (I : Inv X pins σ H s) (ho : s'.os = s.os) (u : Un (frs X.stack) ch H H' s.heap s'.heap) (hok : HOk X.prog X.w H' s'.heap) (hg : AllBare s'.gens)
    (hch : ∀ b ∈ ch, (b ∈ X.ex ∨ X.s₀.heap.objs.size ≤ b) ∧ b ≠ X.env.locals ∧ (∀ x c, X.env.cells.lookup x = some c → c ≠ b) ∧ ∀ p ∈ X.pn ++ pins, p.1 ≠ b) : Inv X pins σ H' s' := by
  obtain ⟨h', g', d', t', o'⟩ := s'
  have e : o' = s.os := ho
  subst e
  exact I.call (g' := g') (t' := t') (d' := d') u hok hg hch
end

/-! ### the judgements -/
/-- an exception: its class, its own dict's address (where it has one), the abstract heap behind it -/
abbrev XK := Value → Option Addr → Hp → Prop
abbrev St := List (Option V)
abbrev VK := V → Hp → Prop
/-- an expression's reading; a test's; an argument list's -/
abbrev TE := St → Hp → VK → Prop
abbrev TT := St → Hp → (Bool → Hp → Prop) → Prop
abbrev TA := St → Hp → (List V → Hp → Prop) → Prop
/-- what is wanted behind a statement -/
structure Ends where
  nx : St → Hp → Prop
  rt : VK
  bk : St → Hp → Prop := fun _ _ => False
  ct : St → Hp → Prop := fun _ _ => False
abbrev TS := Ends → St → Hp → Prop

def EP (X : Cx) (pins : List (Addr × Obj)) (σ : St) (Q : VK) (u : Value) (s' : Shared) : Prop := ∃ v H', Inv X pins σ H' s' ∧ RelV v u ∧ Q v H'
def TP (X : Cx) (pins : List (Addr × Obj)) (σ : St) (Q : Bool → Hp → Prop) (b : Bool) (s' : Shared) : Prop := ∃ H', Inv X pins σ H' s' ∧ Q b H'
def AP (X : Cx) (pins : List (Addr × Obj)) (σ : St) (Q : List V → Hp → Prop) (us : List Value) (s' : Shared) : Prop := ∃ vs H', Inv X pins σ H' s' ∧ Vals vs us ∧ Q vs H'
def SP (X : Cx) (pins : List (Addr × Obj)) (D : Ends) (f : Flow) (s' : Shared) : Prop :=
  match f with
  | .next => ∃ σ' H', Inv X pins σ' H' s' ∧ D.nx σ' H'
  | .brk => ∃ σ' H', Inv X pins σ' H' s' ∧ D.bk σ' H'
  | .cont => ∃ σ' H', Inv X pins σ' H' s' ∧ D.ct σ' H'
  | .ret u => ∃ v σ' H', Inv X pins σ' H' s' ∧ RelV v u ∧ D.rt v H'

def PE (X : Cx) (e : Expr) (t : TE) : Prop :=
  ∀ (pins : List (Addr × Obj)) (s : Shared) (σ : St) (H : Hp) (Q : VK), Inv X pins σ H s → t σ H Q → wpAny (model X.prog X.w) X.A (eval e X.env) (EP X pins σ Q) X.xe s
def PT (X : Cx) (e : Expr) (t : TT) : Prop :=
  ∀ (pins : List (Addr × Obj)) (s : Shared) (σ : St) (H : Hp) (Q : Bool → Hp → Prop), Inv X pins σ H s → t σ H Q → wpAny (model X.prog X.w) X.A (isTrue e X.env (eval e X.env)) (TP X pins σ Q) X.xe s
/-- a test whatever its 'whole' is (and, or) -/
def PW (X : Cx) (e : Expr) (t : TT) : Prop :=
  ∀ (whole : Sem Value) (pins : List (Addr × Obj)) (s : Shared) (σ : St) (H : Hp) (Q : Bool → Hp → Prop), Inv X pins σ H s → t σ H Q → wpAny (model X.prog X.w) X.A (isTrue e X.env whole) (TP X pins σ Q) X.xe s
theorem PW.pt {X : Cx} {e : Expr} {t : TT} (h : PW X e t) : PT X e t := h _
/-- an argument list (no star), from the left -/
def PA (X : Cx) (es : List Expr) (t : TA) : Prop :=
  ∀ (pos : Pos) (pins : List (Addr × Obj)) (s : Shared) (σ : St) (H : Hp) (Q : List V → Hp → Prop), Inv X pins σ H s → t σ H Q → wpAny (model X.prog X.w) X.A (spliced (backTo pos (starEach es X.env))) (AP X pins σ Q) X.xe s
def PS (X : Cx) (st : Stmt) (t : TS) : Prop :=
  ∀ (pins : List (Addr × Obj)) (s : Shared) (σ : St) (H : Hp) (D : Ends), Inv X pins σ H s → t D σ H → wpAny (model X.prog X.w) X.A (exec st X.env) (SP X pins D) X.xe s
def PSs (X : Cx) (st : List Stmt) (t : TS) : Prop :=
  ∀ (pins : List (Addr × Obj)) (s : Shared) (σ : St) (H : Hp) (D : Ends), Inv X pins σ H s → t D σ H → wpAny (model X.prog X.w) X.A (execs st X.env) (SP X pins D) X.xe s
/-- weaken the end -/
theorem thn {α : Type} {t : Sem α} {Q Q' : α → Shared → Prop} {M : Model} {A : Around} {E : Value → Shared → Prop} {s : Shared} (h : wpAny M A t Q E s) (hQ : ∀ a s, Q a s → Q' a s) : wpAny M A t Q' E s := wpAny_mono h hQ fun _ _ x => x
end L2

namespace L2
open PySem PySem.Spec PyProof.Rows
section
variable {X : Cx}

/-- two expressions in a row -/
theorem bin {a b : Expr} {ta tb : TE} (ha : PE X a ta) (hb : PE X b tb) {pins : List (Addr × Obj)} {s : Shared} {σ : St} {H : Hp} {R : V → V → Hp → Prop} (I : Inv X pins σ H s) (h : ta σ H fun x H1 => tb σ H1 fun y H2 => R x y H2)
    {α : Type} {Q : α → Shared → Prop} {f : Value → Value → Sem α}
    (hf : ∀ v u s2 x y H2, Inv X pins σ H2 s2 → RelV x v → RelV y u → R x y H2 → wpAny (model X.prog X.w) X.A (f v u) Q X.xe s2) :
    wpAny (model X.prog X.w) X.A (eval a X.env) (fun v s₁ => wpAny (model X.prog X.w) X.A (eval b X.env) (fun u s₂ => wpAny (model X.prog X.w) X.A (f v u) Q X.xe s₂) X.xe s₁) X.xe s := by
  refine thn (ha pins s σ H _ I h) fun v s1 ⟨x, H1, I1, r1, q1⟩ => ?_
  refine thn (hb pins s1 σ H1 _ I1 q1) fun u s2 ⟨y, H2, I2, r2, q2⟩ => ?_
  exact hf v u s2 x y H2 I2 r1 r2 q2

/-! ### names and constants -/
def tVar (i : Nat) : TE := fun σ H Q => ∃ v, σ[i]? = some (some v) ∧ Q v H
def tC (v : V) : TE := fun _ H Q => Q v H
theorem pe_var {i : Nat} {x : Str} {pos : Pos} (hN : X.N[i]? = some x) (hv : Vis X.env.scope x) (hd : (x == ("__debug__" : Str)) = false := by decide) (hcd : (x == ("__classdict__" : Str)) = false := by decide) : PE X (.Name x pos) (tVar i) := by
  intro pins s σ H Q I h
  obtain ⟨v, e, h⟩ := h
  obtain ⟨m, hn, hl⟩ := I.loc
  obtain ⟨u, r, l⟩ := hl i x v hN e hv
  have fin : EP X pins σ Q u s := ⟨v, H, I, r, h⟩
  rcases l with ⟨hk, hm⟩ | ⟨hk, c, hc, hcell⟩
  · exact wpAny_Name (wpAny_loadName_local I.ok.kind hk hn hm fin) hd
  · rcases hk with hk | hk
    · exact wpAny_Name (wpAny_loadName_cell I.ok.kind hk hc hcell fin) hd
    · exact wpAny_Name (wpAny_loadName_free I.ok.kind hk hc hcell fin hcd) hd
theorem pe_int {i j pos} : PE X (.Constant (.int i) j pos) (tC (.int i)) := fun _ _ _ H _ I h => wpAny_Constant_int ⟨.int i, H, I.tok _, ⟨_, rfl⟩, h⟩
theorem pe_bl {b j pos} : PE X (.Constant (.bool b) j pos) (tC (.bl b)) := fun _ _ _ H _ I h => Constant_bool ⟨.bl b, H, I, rfl, h⟩
theorem pe_non {j pos} : PE X (.Constant .none j pos) (tC .non) := fun _ _ _ H _ I h => Constant_none ⟨.non, H, I, rfl, h⟩
theorem pe_str {x j pos} : PE X (.Constant (.str x) j pos) (tC (.str x)) := fun _ _ _ H _ I h => Calls.Constant_str ⟨.str x, H, I.tok _, ⟨_, rfl⟩, h⟩

/-- a global name of the def -/
def Gl (X : Cx) (x : Str) : Prop := X.env.kindOf x = some .globalImplicit
theorem ld_glob {E : Value → Shared → Prop} {pins : List (Addr × Obj)} {s : Shared} {σ : St} {H : Hp} {x : Str} {u : Value} {pos : Pos} {Q : Value → Shared → Prop} (I : Inv X pins σ H s) (hg : Gl X x) (hm : X.mg x = some u) (h : Q u s)
    (hd : (x == ("__debug__" : Str)) = false := by decide) : wpAny (model X.prog X.w) X.A (eval (.Name x pos) X.env) Q E s :=
  Calls.Name_function_global I.ok.kind hg (Calls.loadGlobal_global (by rw [I.ok.glob]; exact I.mod.glob.keeps I.bk) hm h) hd
theorem ld_blt {E : Value → Shared → Prop} {pins : List (Addr × Obj)} {s : Shared} {σ : St} {H : Hp} {x : Str} {u : Value} {pos : Pos} {Q : Value → Shared → Prop} (I : Inv X pins σ H s) (hg : Gl X x) (hm : X.mg x = none) (hv : bootBuiltins x = some u) (h : Q u s)
    (hn : x ≠ "__name__" := by decide) (hd : (x == ("__debug__" : Str)) = false := by decide) : wpAny (model X.prog X.w) X.A (eval (.Name x pos) X.env) Q E s := by
  obtain ⟨mb, h1, h2⟩ := I.mod.blt
  exact Calls.Name_function_global I.ok.kind hg (Calls.loadGlobal_builtin (by rw [I.ok.glob]; exact I.mod.glob.keeps I.bk) hm (by rw [I.ok.blt]; exact h1.keeps I.bk) ((h2 x hn).trans hv) h) hd
/-- a module's constant, a class, a function, as a value -/
theorem pe_glob {x : Str} {v : V} {u : Value} {pos : Pos} (hg : Gl X x) (hm : X.mg x = some u) (r : RelV v u) (hd : (x == ("__debug__" : Str)) = false := by decide) : PE X (.Name x pos) (tC v) :=
  fun _ _ _ H _ I h => ld_glob I hg hm ⟨v, H, I, r, h⟩ hd
theorem pe_bltn {x : Str} {v : V} {u : Value} {pos : Pos} (hg : Gl X x) (hm : X.mg x = none) (hv : bootBuiltins x = some u) (r : RelV v u) (hn : x ≠ "__name__" := by decide) (hd : (x == ("__debug__" : Str)) = false := by decide) : PE X (.Name x pos) (tC v) :=
  fun _ _ _ H _ I h => ld_blt I hg hm hv ⟨v, H, I, r, h⟩ hn hd

/-! ### arithmetic -/
/-- two ints -/
def t2I (ta tb : TE) (k : Int → Int → Hp → Prop) : St → Hp → Prop := fun σ H => ta σ H fun x H1 => tb σ H1 fun y H2 => ∃ i j, x = .int i ∧ y = .int j ∧ k i j H2
def tAdd (ta tb : TE) : TE := fun σ H Q => t2I ta tb (fun i j H2 => Q (.int (i + j)) H2) σ H
def tSub (ta tb : TE) : TE := fun σ H Q => t2I ta tb (fun i j H2 => Q (.int (i - j)) H2) σ H
/-- the left factor below 2^64 -/
def tMul (ta tb : TE) : TE := fun σ H Q => t2I ta tb (fun i j H2 => (-(2 ^ 64) < i ∧ i < 2 ^ 64) ∧ Q (.int (i * j)) H2) σ H
variable {a b : Expr} {ta tb : TE} {pos : Pos}
theorem pe_add (ha : PE X a ta) (hb : PE X b tb) : PE X (.BinOp a .Add b pos) (tAdd ta tb) := by
  intro pins s σ H Q I h
  refine wpAny_BinOp (bin ha hb I h fun v u s2 x y H2 I2 rx ry q => ?_)
  obtain ⟨i, j, rfl, rfl, q⟩ := q
  obtain ⟨t, rfl⟩ := rx
  obtain ⟨t', rfl⟩ := ry
  exact add_int ⟨.int _, H2, I2.tok _, ⟨_, rfl⟩, q⟩
theorem pe_sub (ha : PE X a ta) (hb : PE X b tb) : PE X (.BinOp a .Sub b pos) (tSub ta tb) := by
  intro pins s σ H Q I h
  refine wpAny_BinOp (bin ha hb I h fun v u s2 x y H2 I2 rx ry q => ?_)
  obtain ⟨i, j, rfl, rfl, q⟩ := q
  obtain ⟨t, rfl⟩ := rx
  obtain ⟨t', rfl⟩ := ry
  exact sub_int ⟨.int _, H2, I2.tok _, ⟨_, rfl⟩, q⟩
theorem pe_mul (ha : PE X a ta) (hb : PE X b tb) : PE X (.BinOp a .Mult b pos) (tMul ta tb) := by
  intro pins s σ H Q I h
  refine wpAny_BinOp (bin ha hb I h fun v u s2 x y H2 I2 rx ry q => ?_)
  obtain ⟨i, j, rfl, rfl, ⟨q1, q2⟩, q⟩ := q
  obtain ⟨t, rfl⟩ := rx
  obtain ⟨t', rfl⟩ := ry
  exact mul_int ⟨.int _, H2, I2.tok _, ⟨_, rfl⟩, q⟩ (.of_left (intBits_le_64 q1 q2))

/-! ### comparisons -/
def PC (X : Cx) (op : CmpOp) (a b : Expr) (t : TE) : Prop :=
  ∀ (pins : List (Addr × Obj)) (s : Shared) (σ : St) (H : Hp) (Q : VK), Inv X pins σ H s → t σ H Q →
    wpAny (model X.prog X.w) X.A (eval a X.env) (fun v s₁ => wpAny (model X.prog X.w) X.A (eval b X.env) (fun u s₂ => wpAny (model X.prog X.w) X.A (compareOp op v u) (EP X pins σ Q) X.xe s₂) X.xe s₁) X.xe s
theorem nobehind (b : Expr) {op : CmpOp} (h : op ≠ .In) (h2 : op ≠ .NotIn) : behindInMarks op b = false := by
  have e1 : (op == CmpOp.In) = false := by cases op <;> first | rfl | exact absurd rfl h
  have e2 : (op == CmpOp.NotIn) = false := by cases op <;> first | rfl | exact absurd rfl h2
  cases b <;> simp [behindInMarks, e1, e2]
def tCmp (p : Int → Int → Bool) (ta tb : TE) : TE := fun σ H Q => t2I ta tb (fun i j H2 => Q (.bl (p i j)) H2) σ H
abbrev tLt : TE → TE → TE := tCmp fun i j => decide (i < j)
abbrev tLe : TE → TE → TE := tCmp fun i j => decide (i ≤ j)
abbrev tGt : TE → TE → TE := tCmp fun i j => decide (j < i)
abbrev tGe : TE → TE → TE := tCmp fun i j => decide (j ≤ i)
abbrev tEqI : TE → TE → TE := tCmp fun i j => decide (i = j)
abbrev tNeI : TE → TE → TE := tCmp fun i j => !decide (i = j)
/-- a comparison of two ints, by its rule -/
theorem pc_int {op : CmpOp} {p : Int → Int → Bool} (ha : PE X a ta) (hb : PE X b tb)
    (rule : ∀ (i j : Int) (t u : Tok) (Q : Value → Shared → Prop) (s : Shared), Q (.bool (p i j)) s → wpAny (model X.prog X.w) X.A (compareOp op (.int i t) (.int j u)) Q X.xe s) : PC X op a b (tCmp p ta tb) := by
  intro pins s σ H Q I h
  refine bin ha hb I h fun v u s2 x y H2 I2 rx ry q => ?_
  obtain ⟨i, j, rfl, rfl, q⟩ := q
  obtain ⟨t, rfl⟩ := rx
  obtain ⟨t', rfl⟩ := ry
  exact rule i j t t' _ s2 ⟨.bl _, H2, I2, rfl, q⟩
theorem pc_lt (ha : PE X a ta) (hb : PE X b tb) : PC X .Lt a b (tLt ta tb) := pc_int ha hb fun _ _ _ _ _ _ h => lt_int h
theorem pc_le (ha : PE X a ta) (hb : PE X b tb) : PC X .LtE a b (tLe ta tb) := pc_int ha hb fun _ _ _ _ _ _ h => le_int h
theorem pc_gt (ha : PE X a ta) (hb : PE X b tb) : PC X .Gt a b (tGt ta tb) := pc_int ha hb fun _ _ _ _ _ _ h => gt_int h
theorem pc_ge (ha : PE X a ta) (hb : PE X b tb) : PC X .GtE a b (tGe ta tb) := pc_int ha hb fun _ _ _ _ _ _ h => ge_int h
theorem pc_eqI (ha : PE X a ta) (hb : PE X b tb) : PC X .Eq a b (tEqI ta tb) := pc_int ha hb fun _ _ _ _ _ _ h => eq_int (by rw [Bool.beq_eq_decide_eq]; exact h)
theorem pc_neI (ha : PE X a ta) (hb : PE X b tb) : PC X .NotEq a b (tNeI ta tb) := pc_int ha hb fun _ _ _ _ _ _ h => ne_int (by rw [bne, Bool.beq_eq_decide_eq]; exact h)
/-- is None -/
def tIsN (ta : TE) : TE := fun σ H Q => ta σ H fun x H1 => Q (.bl (decide (x = .non))) H1
def tNotN (ta : TE) : TE := fun σ H Q => ta σ H fun x H1 => Q (.bl (!decide (x = .non))) H1
theorem RelV.none_iff {x : V} {v : Value} (r : RelV x v) : (v == Value.none) = decide (x = .non) := by
  cases x with
  | non => cases r; rfl
  | bl _ => cases r; rfl
  | int _ => obtain ⟨t, rfl⟩ := r; rfl
  | str _ => obtain ⟨t, rfl⟩ := r; rfl
  | byt _ => obtain ⟨t, rfl⟩ := r; rfl
  | flt _ => obtain ⟨t, rfl⟩ := r; rfl
  | ref _ => cases r; rfl
  | ty _ => cases r; rfl
theorem pc_isN {j pos'} (ha : PE X a ta) : PC X .Is a (.Constant .none j pos') (tIsN ta) := by
  intro pins s σ H Q I h
  refine thn (ha pins s σ H _ I h) fun v s1 ⟨x, H1, I1, r1, q1⟩ => ?_
  exact Constant_none (is_none_gen ⟨.bl _, H1, I1, by rw [r1.none_iff]; rfl, q1⟩)
theorem pc_notN {j pos'} (ha : PE X a ta) : PC X .IsNot a (.Constant .none j pos') (tNotN ta) := by
  intro pins s σ H Q I h
  refine thn (ha pins s σ H _ I h) fun v s1 ⟨x, H1, I1, r1, q1⟩ => ?_
  exact Constant_none (isnot_none_gen ⟨.bl _, H1, I1, by rw [r1.none_iff]; rfl, q1⟩)
/-- a comparison as a value, as a test -/
def tB (t : TE) : TT := fun σ H Q => t σ H fun x H1 => ∃ c, x = .bl c ∧ Q c H1
theorem pe_cmp {op : CmpOp} {t : TE} (h : PC X op a b t) (h1 : behindInMarks op b = false := by first | exact nobehind _ (by decide) (by decide) | rfl) : PE X (.Compare a [op] [b] pos) t := fun pins s σ H Q I hw => wpAny_Compare1 (h pins s σ H Q I hw) h1
theorem pt_cmp {op : CmpOp} {t : TE} (h : PC X op a b t) (h1 : behindInMarks op b = false := by first | exact nobehind _ (by decide) (by decide) | rfl) : PT X (.Compare a [op] [b] pos) (tB t) := by
  intro pins s σ H Q I hw
  refine wpAny_isTrue_Compare1 (thn (h pins s σ H _ I hw) fun v s1 h1 => thn h1 fun u s2 h2 => thn h2 fun c s3 ⟨x, H1, I1, r1, q1⟩ => ?_) h1
  obtain ⟨d, rfl, q⟩ := q1
  cases r1
  exact wpAny_truthy_bool ⟨H1, I1, q⟩
/-- an expression whose value is a bool, as a test -/
theorem pt_val {e : Expr} {t : TE} (h : PE X e t) (he : ∀ whole, isTrue e X.env whole = (do let v ← whole; standAt e.pos; holding [v] (truthy v)) := by intro _; rfl) : PT X e (tB t) := by
  intro pins s σ H Q I hw
  refine isTrue_plain (thn (h pins s σ H _ I hw) fun v s1 ⟨x, H1, I1, r1, q1⟩ => ?_) (he _)
  obtain ⟨d, rfl, q⟩ := q1
  cases r1
  exact wpAny_truthy_bool ⟨H1, I1, q⟩

/-! ### and, or, not -/
variable {tA tB' : TT} {rest : List Expr}
def tAnd (t u : TT) : TT := fun σ H Q => t σ H fun c H1 => if c = true then u σ H1 Q else Q false H1
def tOr (t u : TT) : TT := fun σ H Q => t σ H fun c H1 => if c = true then Q true H1 else u σ H1 Q
def tNot (t : TT) : TT := fun σ H Q => t σ H fun c H1 => Q (!c) H1
theorem pw_and1 (ha : PT X a tA) : PW X (.BoolOp .And [a] pos) tA := by
  intro wh pins s σ H Q I h
  refine isTrue_and (thn (ha pins s σ H Q I h) fun c s1 e => ?_)
  cases c with
  | true => exact isTrue_and_nil e
  | false => exact e
theorem pw_or1 (ha : PT X a tA) : PW X (.BoolOp .Or [a] pos) tA := by
  intro wh pins s σ H Q I h
  refine isTrue_or (thn (ha pins s σ H Q I h) fun c s1 e => ?_)
  cases c with
  | false => exact isTrue_or_nil e
  | true => exact e
theorem pw_and (ha : PT X a tA) (hb : PW X (.BoolOp .And (b :: rest) pos) tB') : PW X (.BoolOp .And (a :: b :: rest) pos) (tAnd tA tB') := by
  intro wh pins s σ H Q I h
  refine isTrue_and (thn (ha pins s σ H _ I h) fun c s1 ⟨H1, I1, q1⟩ => ?_)
  cases c with
  | true => exact hb wh pins s1 σ H1 Q I1 q1
  | false => exact ⟨H1, I1, q1⟩
theorem pw_or (ha : PT X a tA) (hb : PW X (.BoolOp .Or (b :: rest) pos) tB') : PW X (.BoolOp .Or (a :: b :: rest) pos) (tOr tA tB') := by
  intro wh pins s σ H Q I h
  refine isTrue_or (thn (ha pins s σ H _ I h) fun c s1 ⟨H1, I1, q1⟩ => ?_)
  cases c with
  | true => exact ⟨H1, I1, q1⟩
  | false => exact hb wh pins s1 σ H1 Q I1 q1
theorem pt_not (ha : PT X a tA) : PT X (.UnaryOp .Not a pos) (tNot tA) := by
  intro pins s σ H Q I h
  exact isTrue_not (ha pins s σ H (fun c H1 => Q (!c) H1) I h)
/-- .. as values (bools) -/
def tAndV (ta tb : TE) : TE := fun σ H Q => ta σ H fun x H1 => ∃ c, x = .bl c ∧ if c = true then tb σ H1 Q else Q (.bl false) H1
def tOrV (ta tb : TE) : TE := fun σ H Q => ta σ H fun x H1 => ∃ c, x = .bl c ∧ if c = true then Q (.bl true) H1 else tb σ H1 Q
def tNotV (ta : TE) : TE := fun σ H Q => ta σ H fun x H1 => ∃ c, x = .bl c ∧ Q (.bl (!c)) H1
theorem pe_one {op} {t : TE} (h : PE X a t) : PE X (.BoolOp op [a] pos) t := fun pins s σ H Q I hw => BoolOp_one (h pins s σ H Q I hw)
theorem pe_and (ha : PE X a ta) (hb : PE X (.BoolOp .And (b :: rest) pos) tb) : PE X (.BoolOp .And (a :: b :: rest) pos) (tAndV ta tb) := by
  intro pins s σ H Q I h
  refine BoolOp_and (thn (ha pins s σ H _ I h) fun v s1 ⟨x, H1, I1, r1, q1⟩ => ?_)
  obtain ⟨c, rfl, q1⟩ := q1
  cases r1
  refine wpAny_truthy_bool ?_
  cases c with
  | true => exact hb pins s1 σ H1 Q I1 q1
  | false => exact ⟨.bl false, H1, I1, rfl, q1⟩
theorem pe_or (ha : PE X a ta) (hb : PE X (.BoolOp .Or (b :: rest) pos) tb) : PE X (.BoolOp .Or (a :: b :: rest) pos) (tOrV ta tb) := by
  intro pins s σ H Q I h
  refine BoolOp_or (thn (ha pins s σ H _ I h) fun v s1 ⟨x, H1, I1, r1, q1⟩ => ?_)
  obtain ⟨c, rfl, q1⟩ := q1
  cases r1
  refine wpAny_truthy_bool ?_
  cases c with
  | false => exact hb pins s1 σ H1 Q I1 q1
  | true => exact ⟨.bl true, H1, I1, rfl, q1⟩
theorem pe_not (ha : PE X a ta) : PE X (.UnaryOp .Not a pos) (tNotV ta) := by
  intro pins s σ H Q I h
  refine UnaryOp_ (thn (ha pins s σ H _ I h) fun v s1 ⟨x, H1, I1, r1, q1⟩ => ?_)
  obtain ⟨c, rfl, q1⟩ := q1
  cases r1
  exact not_of (wpAny_truthy_bool ⟨.bl (!c), H1, I1, rfl, q1⟩)
/-- a if t else b -/
def tIf (t : TT) (ta tb : TE) : TE := fun σ H Q => t σ H fun c H1 => if c = true then ta σ H1 Q else tb σ H1 Q
theorem pe_ifExp {c : Expr} (hc : PT X c tA) (ha : PE X a ta) (hb : PE X b tb) : PE X (.IfExp c a b pos) (tIf tA ta tb) := by
  intro pins s σ H Q I h
  refine wpAny_IfExp (thn (hc pins s σ H _ I h) fun d s1 ⟨H1, I1, q1⟩ => ?_)
  cases d with
  | true => exact ha pins s1 σ H1 Q I1 q1
  | false => exact hb pins s1 σ H1 Q I1 q1
end
end L2

namespace L2
open PySem PySem.Spec PyProof.Rows

/-! ### a list, a tuple that is read: tracked, frozen, or an object of the module -/
def SqL (K : PySem.W.Frag) (H : Hp) (a : Addr) (xs : List V) : Prop :=
  Rd H a (.lst xs) ∨
    ∃ (o : Obj) (its : Array Value) (n : Nat), K.lookup a = some o ∧ o.cls = .type "list" ∧ o.dict = none ∧ o.data = .seq its n ∧ its.size ≤ sizeLine ∧ Vals xs its.toList
def SqT (K : PySem.W.Frag) (H : Hp) (a : Addr) (xs : List V) : Prop :=
  Rd H a (.tup xs) ∨
    ∃ (o : Obj) (its : Array Value) (n : Nat), K.lookup a = some o ∧ o.cls = .type "tuple" ∧ o.data = .seq its n ∧ its.size ≤ sizeLine ∧ Vals xs its.toList
def absV : Value → Option V
  | .none => some .non
  | .bool b => some (.bl b)
  | .int i _ => some (.int i)
  | .str x _ => some (.str x)
  | .bytes b _ => some (.byt b)
  | .float b _ => some (.flt b)
  | .ref a => some (.ref a)
  | .type n => some (.ty n)
  | _ => none
theorem RelV.abs {x : V} {u : Value} (r : RelV x u) : absV u = some x := by
  cases x with
  | non => cases r; rfl
  | bl _ => cases r; rfl
  | int _ => obtain ⟨t, rfl⟩ := r; rfl
  | str _ => obtain ⟨t, rfl⟩ := r; rfl
  | byt _ => obtain ⟨t, rfl⟩ := r; rfl
  | flt _ => obtain ⟨t, rfl⟩ := r; rfl
  | ref _ => cases r; rfl
  | ty _ => cases r; rfl
theorem RelV.inj {x y : V} {u : Value} (r : RelV x u) (q : RelV y u) : x = y := Option.some.inj (r.abs.symm.trans q.abs)
theorem Vals.inj : ∀ {xs ys : List V} {us : List Value}, Vals xs us → Vals ys us → xs = ys
  | _, _, _, .nil, .nil => rfl
  | _, _, _, .cons r t, .cons r' t' => by rw [r.inj r', Vals.inj t t']
section
variable {X : Cx} {pins : List (Addr × Obj)} {σ : St} {H : Hp} {s : Shared} {a : Addr} {xs ys : List V}
theorem SqL.of {K : PySem.W.Frag} (h : H a = some (.lst xs)) : SqL K H a xs := .inl (.inl h)
theorem SqT.of {K : PySem.W.Frag} (h : H a = some (.tup xs)) : SqT K H a xs := .inl (.inl h)
theorem Inv.list (I : Inv X pins σ H s) (h : SqL X.K H a xs) : ∃ its : List Value, Vals xs its ∧ PlainL s.heap a its.toArray ∧ xs.length ≤ sizeLine := by
  rcases h with h | ⟨o, its, n, hk, hc, hd, hs, hz, r⟩
  · obtain ⟨z, its, n, r, e⟩ := h.ok I.hok
    exact ⟨its, r, ⟨_, n, e, rfl, rfl, rfl⟩, z⟩
  · refine ⟨its.toList, r, ⟨o, n, I.kIn a o hk, hc, hd, by simpa using hs⟩, ?_⟩
    have e := r.length
    simp only [Array.length_toList] at e
    omega
theorem Inv.tuple (I : Inv X pins σ H s) (h : SqT X.K H a xs) : ∃ its : List Value, Vals xs its ∧ IsTup s.heap a its.toArray ∧ xs.length ≤ sizeLine := by
  rcases h with h | ⟨o, its, n, hk, hc, hs, hz, r⟩
  · obtain ⟨z, its, r, p⟩ := h.ok I.hok
    exact ⟨its, r, p, z⟩
  · refine ⟨its.toList, r, ⟨o, I.kIn a o hk, hc, n, by simpa using hs⟩, ?_⟩
    have e := r.length
    simp only [Array.length_toList] at e
    omega
theorem Inv.list_inj (I : Inv X pins σ H s) (h : SqL X.K H a xs) (h' : SqL X.K H a ys) : xs = ys := by
  obtain ⟨its, r, ⟨o, n, e, _, _, d⟩, _⟩ := I.list h
  obtain ⟨its', r', ⟨o', n', e', _, _, d'⟩, _⟩ := I.list h'
  rw [e] at e'; cases e'
  rw [d] at d'
  injection d' with d1 _
  have : its = its' := by simpa using congrArg Array.toList d1
  subst this
  exact r.inj r'
theorem Inv.tuple_inj (I : Inv X pins σ H s) (h : SqT X.K H a xs) (h' : SqT X.K H a ys) : xs = ys := by
  obtain ⟨its, r, ⟨o, e, _, n, d⟩, _⟩ := I.tuple h
  obtain ⟨its', r', ⟨o', e', _, n', d'⟩, _⟩ := I.tuple h'
  rw [e] at e'; cases e'
  rw [d] at d'
  injection d' with d1 _
  have : its = its' := by simpa using congrArg Array.toList d1
  subst this
  exact r.inj r'
end

/-! ### another wish about exceptions -/
abbrev Cx.wish (X : Cx) (E : Value → Shared → Prop) : Cx := { X with xe := E }
/-- no exception leaves -/
abbrev Cx.nox (X : Cx) : Cx := X.wish fun _ _ => False
theorem Cx.Ok.wish {X : Cx} (ok : X.Ok) (E : Value → Shared → Prop) : (X.wish E).Ok :=
  ⟨ok.mod, ok.kind, ok.glob, ok.blt, ok.above, ok.inj, ok.has, ok.cab, ok.hd, ok.frames, ok.stk, ok.exf, ok.bs, ok.bsz, ok.noex, ok.exfs, ok.funs, ok.frf⟩
theorem Cx.Ok.unwish {X : Cx} {E : Value → Shared → Prop} (ok : (X.wish E).Ok) : X.Ok :=
  ⟨ok.mod, ok.kind, ok.glob, ok.blt, ok.above, ok.inj, ok.has, ok.cab, ok.hd, ok.frames, ok.stk, ok.exf, ok.bs, ok.bsz, ok.noex, ok.exfs, ok.funs, ok.frf⟩
section
variable {X : Cx} {pins : List (Addr × Obj)} {σ : St} {H : Hp} {s : Shared} {E : Value → Shared → Prop}
theorem Inv.wish (I : Inv X pins σ H s) (E : Value → Shared → Prop) : Inv (X.wish E) pins σ H s := ⟨I.ok.wish E, I.os, I.bare, I.base, I.loc, I.cell, I.free, I.freeC, I.pin, I.hok, I.len⟩
theorem Inv.unwish (I : Inv (X.wish E) pins σ H s) : Inv X pins σ H s := ⟨I.ok.unwish, I.os, I.bare, I.base, I.loc, I.cell, I.free, I.freeC, I.pin, I.hok, I.len⟩
theorem SP.unwish {D : Ends} {f : Flow} {s' : Shared} (h : SP (X.wish E) pins D f s') : SP X pins D f s' := by
  cases f with
  | next => obtain ⟨σ', H', I, q⟩ := h; exact ⟨σ', H', I.unwish, q⟩
  | brk => obtain ⟨σ', H', I, q⟩ := h; exact ⟨σ', H', I.unwish, q⟩
  | cont => obtain ⟨σ', H', I, q⟩ := h; exact ⟨σ', H', I.unwish, q⟩
  | ret u => obtain ⟨v, σ', H', I, r, q⟩ := h; exact ⟨v, σ', H', I.unwish, r, q⟩
theorem PE.nox {e : Expr} {t : TE} (h : PE X.nox e t) : PE X e t := fun pins s σ H Q I hw =>
  wpAny_mono (h pins s σ H Q (I.wish _) hw) (fun _ _ ⟨v, H', I', r, q⟩ => ⟨v, H', I'.unwish, r, q⟩) fun _ _ z => False.elim z
theorem PT.nox {e : Expr} {t : TT} (h : PT X.nox e t) : PT X e t := fun pins s σ H Q I hw =>
  wpAny_mono (h pins s σ H Q (I.wish _) hw) (fun _ _ ⟨H', I', q⟩ => ⟨H', I'.unwish, q⟩) fun _ _ z => False.elim z
theorem PSs.nox {st : List Stmt} {t : TS} (h : PSs X.nox st t) : PSs X st t := fun pins s σ H D I hw =>
  wpAny_mono (h pins s σ H D (I.wish _) hw) (fun _ _ q => q.unwish) fun _ _ z => False.elim z
end

/-! ### blocks and small statements -/
section
variable {X : Cx} {st : Stmt} {rest : List Stmt} {t u : TS} {e : Expr} {te : TE} {pos : Pos}
def tNext : TS := fun D σ H => D.nx σ H
def tSeq (t u : TS) : TS := fun D σ H => t { D with nx := u D } σ H
theorem pss_nil : PSs X [] tNext := fun _ _ σ H _ I h => wpAny_execs_nil ⟨σ, H, I, h⟩
theorem pss_cons (h1 : PS X st t) (h2 : PSs X rest u) : PSs X (st :: rest) (tSeq t u) := by
  intro pins s σ H D I h
  refine wpAny_execs_cons (thn (h1 pins s σ H { D with nx := u D } I h) fun f s1 q => ?_)
  cases f with
  | next =>
    obtain ⟨σ', H', I', q⟩ := q
    exact h2 pins s1 σ' H' D I' q
  | ret v => exact q
  | brk => exact q
  | cont => exact q
theorem pss_one (h1 : PS X st t) : PSs X [st] t := by
  intro pins s σ H D I h
  refine wpAny_execs_cons (thn (h1 pins s σ H D I h) fun f s1 q => ?_)
  cases f with
  | next => exact wpAny_execs_nil q
  | ret v => exact q
  | brk => exact q
  | cont => exact q
def tBreak : TS := fun D σ H => D.bk σ H
def tCont : TS := fun D σ H => D.ct σ H
theorem ps_pass : PS X (.Pass pos) tNext := fun _ _ σ H _ I h => wpAny_Pass ⟨σ, H, I, h⟩
theorem ps_break : PS X (.Break pos) tBreak := fun _ _ σ H _ I h => wpAny_Break ⟨σ, H, I, h⟩
theorem ps_continue : PS X (.Continue pos) tCont := fun _ _ σ H _ I h => wpAny_Continue ⟨σ, H, I, h⟩
/-- in a def's body nothing is shown -/
theorem Inv.quiet {pins : List (Addr × Obj)} {σ : St} {H : Hp} {s : Shared} (I : Inv X pins σ H s) : interactive X.env = false := by simp [interactive, I.ok.kind]
/-- a docstring -/
theorem ps_doc {x j pos pos'} : PS X (.Expr (.Constant (.str x) j pos) pos') tNext := fun _ s σ H _ I h => wpAny_Expr (Calls.Constant_str (show SP X _ _ .next { s with toks := s.toks + 1 } from ⟨σ, H, I.tok _, h⟩)) I.quiet
/-- an expression whose value is dropped -/
def tDrop (te : TE) : TS := fun D σ H => te σ H fun _ H1 => D.nx σ H1
theorem ps_expr (he : PE X e te) (hs : swapsWith e none pos.line X.env = pure false := by rfl) : PS X (.Expr e pos) (tDrop te) := by
  intro pins s σ H D I h
  exact wpAny_Expr_any (thn (he pins s σ H _ I h) fun v s1 ⟨x, H1, I1, r1, q1⟩ => ⟨σ, H1, I1, q1⟩) I.quiet hs
def tRet (te : TE) : TS := fun D σ H => te σ H D.rt
theorem ps_ret (he : PE X e te) : PS X (.Return (some e) pos) (tRet te) := by
  intro pins s σ H D I h
  exact wpAny_Return_some (thn (he pins s σ H _ I h) fun v s1 ⟨x, H1, I1, r1, q1⟩ => ⟨x, σ, H1, I1, r1, q1⟩)
def tRetN : TS := fun D _ H => D.rt .non H
theorem ps_retN : PS X (.Return none pos) tRetN := fun _ _ σ H _ I h => wpAny_Return_none ⟨.non, σ, H, I, rfl, h⟩
def tIfS (c : TT) (t u : TS) : TS := fun D σ H => c σ H fun b H1 => if b = true then t D σ H1 else u D σ H1
theorem ps_if {c : Expr} {a b : List Stmt} {tc : TT} (hc : PT X c tc) (ha : PSs X a t) (hb : PSs X b u) : PS X (.If c a b pos) (tIfS tc t u) := by
  intro pins s σ H D I h
  refine wpAny_If (thn (hc pins s σ H _ I h) fun d s1 ⟨H1, I1, q1⟩ => ?_)
  cases d with
  | true => exact ha pins s1 σ H1 D I1 q1
  | false => exact hb pins s1 σ H1 D I1 q1
/-- code that the proof never comes to -/
def tNever : TS := fun _ _ _ => False
theorem ps_never : PS X st tNever := fun _ _ _ _ _ _ h => h.elim
theorem pss_never {sts : List Stmt} : PSs X sts tNever := fun _ _ _ _ _ _ h => h.elim
end

/-! ### targets -/
abbrev TG := V → St → Hp → (St → Hp → Prop) → Prop
abbrev TGs := List V → St → Hp → (St → Hp → Prop) → Prop
def PG (X : Cx) (target : Expr) (t : TG) : Prop :=
  ∀ (pins : List (Addr × Obj)) (s : Shared) (σ : St) (H : Hp) (v : V) (u : Value) (Q : St → Hp → Prop), Inv X pins σ H s → RelV v u → t v σ H Q →
    wpAny (model X.prog X.w) X.A (assign target X.env u) (fun _ s' => ∃ σ' H', Inv X pins σ' H' s' ∧ Q σ' H') X.xe s
/-- several targets, one after another -/
def PGs (X : Cx) (ts : List Expr) (t : TGs) : Prop :=
  ∀ (pins : List (Addr × Obj)) (s : Shared) (σ : St) (H : Hp) (vs : List V) (us : List Value) (Q : St → Hp → Prop), Inv X pins σ H s → Vals vs us → t vs σ H Q →
    wpAny (model X.prog X.w) X.A (assignInOrder ((assignEach ts X.env).map (·.2)) us) (fun _ s' => ∃ σ' H', Inv X pins σ' H' s' ∧ Q σ' H') X.xe s
/-- o[i] = v, by values -/
abbrev TSet := V → V → V → Hp → (Hp → Prop) → Prop
def PSet (X : Cx) (t : TSet) : Prop :=
  ∀ (pins : List (Addr × Obj)) (s : Shared) (σ : St) (H : Hp) (o i v : V) (ov iv u : Value) (Q : Hp → Prop), Inv X pins σ H s → RelV o ov → RelV i iv → RelV v u → t o i v H Q →
    wpAny (model X.prog X.w) X.A (setItem ov iv u) (fun _ s' => ∃ H', Inv X pins σ H' s' ∧ Q H') X.xe s
/-- a op= b, by values -/
abbrev TIp := V → V → Hp → VK → Prop
def PIp (X : Cx) (op : Operator) (t : TIp) : Prop :=
  ∀ (pins : List (Addr × Obj)) (s : Shared) (σ : St) (H : Hp) (x y : V) (v u : Value) (Q : VK), Inv X pins σ H s → RelV x v → RelV y u → t x y H Q →
    wpAny (model X.prog X.w) X.A (inplaceOp op v u) (EP X pins σ Q) X.xe s
section
variable {X : Cx} {pos : Pos}
def gName (i : Nat) : TG := fun v σ H Q => Q (σ.set i (some v)) H
theorem pg_name {i : Nat} {x : Str} (hN : X.N.Nodup) (hi : X.N[i]? = some x) (hx : Loc X.env.scope x) (hf : X.fn x = true ∨ X.env.scope.names.lookup x = some .local := by first | exact .inl rfl | exact .inr rfl | assumption) : PG X (.Name x pos) (gName i) := by
  intro pins s σ H v u Q I r h
  exact wpAny_assign_Name (store_ok I hN hi hx r (fun s' I' => ⟨_, H, I', h⟩) hf)
def gNil : TGs := fun vs σ H Q => vs = [] ∧ Q σ H
def gCons (t : TG) (u : TGs) : TGs := fun vs σ H Q => ∃ v r, vs = v :: r ∧ t v σ H fun σ' H' => u r σ' H' Q
theorem pgs_nil : PGs X [] gNil := by
  intro pins s σ H vs us Q I r h
  obtain ⟨e, h⟩ := h
  subst e
  cases r
  exact assignInOrder_nil ⟨σ, H, I, h⟩
theorem pgs_cons {e : Expr} {es : List Expr} {t : TG} {u : TGs} (h1 : PG X e t) (h2 : PGs X es u)
    (hs : (assignEach (e :: es) X.env).map (·.2) = assign e X.env :: (assignEach es X.env).map (·.2) := by rfl) : PGs X (e :: es) (gCons t u) := by
  intro pins s σ H vs us Q I r h
  obtain ⟨v, vr, e1, h⟩ := h
  subst e1
  cases r with
  | cons r rr =>
    rw [hs]
    refine assignInOrder_cons (thn (h1 pins s σ H _ _ _ I r h) fun _ s1 ⟨σ1, H1, I1, q1⟩ => ?_)
    exact h2 pins s1 σ1 H1 _ _ Q I1 rr q1
/-- (a, b, ..) = a tuple of that length -/
def gTup (K : PySem.W.Frag) (n : Nat) (t : TGs) : TG := fun v σ H Q => ∃ a xs, v = .ref a ∧ SqT K H a xs ∧ xs.length = n ∧ t xs σ H Q
theorem pg_tup {es : List Expr} {k : Nat} {t : TGs} {n : Nat} (hc : X.calm = true) (h : PGs X es t)
    (hn : (assignEach es X.env).length = n := by rfl) (hst : (assignEach es X.env).findIdx? (·.1) = none := by rfl) : PG X (.Tuple es k pos) (gTup X.K n t) := by
  intro pins s σ H v u Q I r hw
  obtain ⟨a, xs, e1, hq, hl, hw⟩ := hw
  subst e1
  cases r
  obtain ⟨its, rv, ht, hz⟩ := I.tuple hq
  refine assign_Tuple_tuple (I.ok.hd hc) ht (by simp [hn, ← hl, rv.length]) hst fun h' hx => ?_
  have I1 : Inv X pins σ H { s with heap := h' } := I.kept (t' := s.toks) fun b o e => hx b o (Nat.ne_of_lt (Heap.lt_size e)) e
  exact h pins _ σ H xs _ Q I1 (by simpa using rv) hw
/-- o[i] = .. -/
def gSub (to ti : TE) (t : TSet) : TG := fun v σ H Q => to σ H fun o H1 => ti σ H1 fun i H2 => t o i v H2 fun H3 => Q σ H3
theorem pg_sub {o i : Expr} {to ti : TE} {t : TSet} (ho : PE X o to) (hi : PE X i ti) (hs : PSet X t)
    (ha : ∀ v, assign (.Subscript o i pos) X.env v = (do
      let ov ← holding [v] (eval o X.env)
      let iv ← holding [v, ov] (eval i X.env)
      standAt pos
      holding [v, ov, iv] (setItem ov iv v)
      release [v, ov, iv] []) := by intro _; rfl) : PG X (.Subscript o i pos) (gSub to ti t) := by
  intro pins s σ H v u Q I r h
  rw [ha]
  refine wpAny_bind (wpAny_holding (thn (ho pins s σ H _ I h) fun ov s1 ⟨x, H1, I1, r1, q1⟩ => ?_))
  refine wpAny_bind (wpAny_holding (thn (hi pins s1 σ H1 _ I1 q1) fun iv s2 ⟨y, H2, I2, r2, q2⟩ => ?_))
  refine wpAny_bind (wpAny_standAt (wpAny_bind (wpAny_holding (thn (hs pins s2 σ H2 x y v ov iv u _ I2 r1 r2 r q2) fun _ s3 ⟨H3, I3, q3⟩ => ?_))))
  exact wpAny_release ⟨σ, H3, I3, q3⟩
/-- target = value -/
def tAsg (te : TE) (g : TG) : TS := fun D σ H => te σ H fun x H1 => g x σ H1 D.nx
theorem ps_asg {tg e : Expr} {te : TE} {g : TG} (he : PE X e te) (hg : PG X tg g) (hs : swapsWithSole [tg] e pos.line X.env = pure false := by rfl) (hw : swappedStores [tg] e X.env = pure none := by rfl)
    (h1 : (assignEach [tg] X.env).map (·.2) = [assign tg X.env] := by rfl) : PS X (.Assign [tg] e pos) (tAsg te g) := by
  intro pins s σ H D I h
  refine wpAny_Assign_stores (thn (he pins s σ H _ I h) fun v s1 ⟨x, H1, I1, r1, q1⟩ => ?_) hs hw
  rw [h1]
  exact thn (hg pins s1 σ H1 x v _ I1 r1 q1) fun _ s2 q => q
/-- name = value -/
theorem ps_set {i : Nat} {x : Str} {e : Expr} {te : TE} {pos' : Pos} (hN : X.N.Nodup) (hi : X.N[i]? = some x) (hx : Loc X.env.scope x) (he : PE X e te) (hs : swapsWith e (some (.Name x pos')) pos.line X.env = pure false := by rfl) (hf : X.fn x = true ∨ X.env.scope.names.lookup x = some .local := by first | exact .inl rfl | exact .inr rfl | assumption) :
    PS X (.Assign [.Name x pos'] e pos) (tAsg te (gName i)) := by
  intro pins s σ H D I h
  refine wpAny_Assign_Name (thn (he pins s σ H _ I h) fun v s1 ⟨y, H1, I1, r1, q1⟩ => ?_) hs
  exact store_ok I1 hN hi hx r1 (fun s2 I2 => ⟨_, H1, I2, q1⟩) hf
/-- a, b = x, y with plain local names: stored from the right; the pair itself is not tracked (the opening rows as in PyProof/Rows/TupAssign.lean:23) -/
def tPar (i j : Nat) (ta : TA) : TS := fun D σ H => ta σ H fun vs H1 => ∃ v w, vs = [v, w] ∧ D.nx ((σ.set i (some v)).set j (some w)) H1
theorem ps_par {i j : Nat} {x y : Str} {a b : Expr} {ta : TA} {px py pt : Pos} {kt k2 pt2} (hc : X.calm = true) (hN : X.N.Nodup) (hi : X.N[i]? = some x) (hj : X.N[j]? = some y) (hij : i ≠ j)
    (hx : X.env.scope.names.lookup x = some .local) (hy : X.env.scope.names.lookup y = some .local) (ha : PA X [a, b] ta)
    (hw : swappedStores [.Tuple [.Name x px, .Name y py] kt pt] (.Tuple [a, b] k2 pt2) X.env = pure (some [x, y]))
    (hs : swapsWithSole [.Tuple [.Name x px, .Name y py] kt pt] (.Tuple [a, b] k2 pt2) pos.line X.env = pure false := by rfl) :
    PS X (.Assign [.Tuple [.Name x px, .Name y py] kt pt] (.Tuple [a, b] k2 pt2) pos) (tPar i j ta) := by
  intro pins s σ H D I h
  rw [exec_Assign_arm]
  refine wpAny_bind (wpAny_standAt ?_)
  rw [hs]
  refine wpAny_bind (wpAny_pure ?_)
  rw [if_neg (by decide)]
  refine wpAny_bind (Tuple_ (thn (ha _ pins s σ H _ I h) fun us s1 ⟨vs, H1, I1, r1, q1⟩ => ?_))
  obtain ⟨v, w, e1, q1⟩ := q1
  subst e1
  obtain ⟨u1, u2, rfl, rv, rw'⟩ : ∃ u1 u2, us = [u1, u2] ∧ RelV v u1 ∧ RelV w u2 := by
    cases r1 with
    | cons p q =>
      cases q with
      | cons p' q' =>
        cases q'
        exact ⟨_, _, rfl, p, p'⟩
  refine wpAny_newObj_type ?_ (by show 2 ≤ sizeLine; decide)
  have I2 : Inv X pins σ H1 { s1 with heap := s1.heap.push { cls := .type "tuple", data := .seq [u1, u2].toArray } } := I1.kept (t' := s1.toks) fun b o e => Heap.get?_push_of_some _ e
  rw [hw]
  refine wpAny_bind (wpAny_pure ?_)
  show wpAny (model X.prog X.w) X.A (do rule "assign.swapped-stores"; let items ← unpackItems (.ref s1.heap.objs.size) 2 none; assignInOrder [fun v => bindName X.env y v, fun v => bindName X.env x v] items.reverse; pure Flow.next) _ _ _
  refine wpAny_bind (wpAny_rule (wpAny_bind (unpackItems_tuple (items := #[u1, u2]) (I.ok.hd hc) (IsTup.new s1.heap _) fun h' hx' => ?_)))
  have I3 := I2.kept (h' := h') (t' := s1.toks) fun b o e => hx' b o (Nat.ne_of_lt (Heap.lt_size e)) e
  show wpAny _ _ (assignInOrder [fun v => bindName X.env y v, fun v => bindName X.env x v] [u2, u1] >>= fun _ => pure Flow.next) _ _ _
  refine wpAny_bind (assignInOrder_cons (wpAny_bindName (store_ok I3 hN hj (.inl hy) rw' (fun s2 I4 => ?_) (.inr hy))))
  refine assignInOrder_cons (wpAny_bindName (store_ok I4 hN hi (.inl hx) rv (fun s3 I5 => assignInOrder_nil (wpAny_pure ?_)) (.inr hx)))
  rw [List.set_comm _ _ (Ne.symm hij)] at I5
  exact ⟨_, H1, I5, q1⟩
/-- name op= e -/
def tAug (i : Nat) (te : TE) (ti : TIp) : TS := fun D σ H => ∃ x, σ[i]? = some (some x) ∧ te σ H fun y H1 => ti x y H1 fun z H2 => D.nx (σ.set i (some z)) H2
theorem ps_aug {i : Nat} {x : Str} {e : Expr} {te : TE} {op : Operator} {ti : TIp} {pos' : Pos} (hN : X.N.Nodup) (hi : X.N[i]? = some x) (hx : Loc X.env.scope x) (he : PE X e te) (ho : PIp X op ti) (hf : X.fn x = true ∨ X.env.scope.names.lookup x = some .local := by first | exact .inl rfl | exact .inr rfl | assumption) :
    PS X (.AugAssign (.Name x pos') op e pos) (tAug i te ti) := by
  intro pins s σ H D I h
  obtain ⟨v, e1, h⟩ := h
  obtain ⟨m, hn, hl⟩ := I.loc
  have vis : Vis X.env.scope x := by rcases hx with k | k; exact .inl k; exact .inr (.inl k)
  obtain ⟨u, r, l⟩ := hl i x v hi e1 vis
  refine wpAny_AugAssign_Name ?_
  have go : wpAny (model X.prog X.w) X.A (eval e X.env) (fun w s₂ => wpAny (model X.prog X.w) X.A (inplaceOp op u w) (fun r s₃ => wpAny (model X.prog X.w) X.A (storeName X.env x r) (fun _ => SP X pins D .next) X.xe s₃) X.xe s₂) X.xe s := by
    refine thn (he pins s σ H _ I h) fun w s1 ⟨y, H1, I1, r1, q1⟩ => ?_
    refine thn (ho pins s1 σ H1 v y u w _ I1 r r1 q1) fun z s2 ⟨zv, H2, I2, r2, q2⟩ => ?_
    exact store_ok I2 hN hi hx r2 (fun s3 I3 => ⟨_, H2, I3, q2⟩) hf
  rcases l with ⟨hk, hm⟩ | ⟨hk, c, hc, hcell⟩
  · exact wpAny_loadName_local I.ok.kind hk hn hm go
  · rcases hk with hk | hk
    · exact wpAny_loadName_cell I.ok.kind hk hc hcell go
    · rcases hx with k | k
      · have : X.env.scope.names.lookup x = some .free := hk
        rw [k] at this; cases this
      · have : X.env.scope.names.lookup x = some .free := hk
        rw [k] at this; cases this
/-- o[i] op= e -/
def tAugS (to ti te : TE) (tget : V → V → Hp → VK → Prop) (tip : TIp) (tset : TSet) : TS := fun D σ H => to σ H fun o H1 => ti σ H1 fun i H2 => tget o i H2 fun x H3 => te σ H3 fun y H4 => tip x y H4 fun z H5 => tset o i z H5 fun H6 => D.nx σ H6
/-- o[i], by values -/
def PGet (X : Cx) (t : V → V → Hp → VK → Prop) : Prop :=
  ∀ (pins : List (Addr × Obj)) (s : Shared) (σ : St) (H : Hp) (o i : V) (ov iv : Value) (Q : VK), Inv X pins σ H s → RelV o ov → RelV i iv → t o i H Q →
    wpAny (model X.prog X.w) X.A (getItem ov iv) (EP X pins σ Q) X.xe s
theorem ps_augS {o i e : Expr} {to ti te : TE} {tget : V → V → Hp → VK → Prop} {tip : TIp} {tset : TSet} {op : Operator} {tpos : Pos} (ho : PE X o to) (hi : PE X i ti) (hg : PGet X tget) (he : PE X e te) (hp : PIp X op tip) (hs : PSet X tset)
    (ha : ∀ ov iv new, augStore i ov iv new = (do holding [new, ov, iv] (setItem ov iv new); release [new, ov, iv] []; pure .next) := by intros; rfl) : PS X (.AugAssign (.Subscript o i tpos) op e pos) (tAugS to ti te tget tip tset) := by
  intro pins s σ H D I h
  refine wpAny_AugAssign_SubscriptAny (thn (ho pins s σ H _ I h) fun ov s1 ⟨x1, H1, I1, r1, q1⟩ => ?_) ha
  refine thn (hi pins s1 σ H1 _ I1 q1) fun iv s2 ⟨x2, H2, I2, r2, q2⟩ => ?_
  refine thn (hg pins s2 σ H2 x1 x2 ov iv _ I2 r1 r2 q2) fun old s3 ⟨x3, H3, I3, r3, q3⟩ => ?_
  refine thn (he pins s3 σ H3 _ I3 q3) fun v s4 ⟨x4, H4, I4, r4, q4⟩ => ?_
  refine thn (hp pins s4 σ H4 x3 x4 old v _ I4 r3 r4 q4) fun new s5 ⟨x5, H5, I5, r5, q5⟩ => ?_
  exact thn (hs pins s5 σ H5 x1 x2 x5 ov iv new _ I5 r1 r2 r5 q5) fun _ s6 ⟨H6, I6, q6⟩ => ⟨σ, H6, I6, q6⟩
/-- ints -/
def ipI (f : Int → Int → Int) : TIp := fun x y H Q => ∃ i j, x = .int i ∧ y = .int j ∧ Q (.int (f i j)) H
theorem ip_add : PIp X .Add (ipI fun i j => i + j) := by
  intro pins s σ H x y v u Q I r1 r2 h
  obtain ⟨i, j, e1, e2, q⟩ := h
  subst e1; subst e2
  obtain ⟨t, rfl⟩ := r1
  obtain ⟨t', rfl⟩ := r2
  exact iadd_int ⟨.int _, H, I.tok _, ⟨_, rfl⟩, q⟩
theorem ip_sub : PIp X .Sub (ipI fun i j => i - j) := by
  intro pins s σ H x y v u Q I r1 r2 h
  obtain ⟨i, j, e1, e2, q⟩ := h
  subst e1; subst e2
  obtain ⟨t, rfl⟩ := r1
  obtain ⟨t', rfl⟩ := r2
  exact isub_int ⟨.int _, H, I.tok _, ⟨_, rfl⟩, q⟩
end

/-! ### while -/
section
variable {X : Cx} {pos : Pos}
/-- the invariant W with its measure -/
def tWhile (c : TT) (tb : TS) : TS := fun D σ H => ∃ W : Nat → St → Hp → Prop, (∃ m, W m σ H) ∧ ∀ m σ H, W m σ H →
  c σ H fun b H1 => if b = true then ∃ N : St → Hp → Prop, (∀ σ' H', N σ' H' → ∃ m', m' < m ∧ W m' σ' H') ∧ tb { D with nx := N, ct := N, bk := D.nx } σ H1 else D.nx σ H1
theorem ps_while {c : Expr} {body : List Stmt} {tc : TT} {tb : TS} (hp : PassesOwn (model X.prog X.w) X.A X.env X.xe) (hc : PT X c tc) (hb : PSs X body tb) : PS X (.While c body [] pos) (tWhile tc tb) := by
  intro pins s σ H D I h
  obtain ⟨W, ⟨m0, w0⟩, turn⟩ := h
  refine wpAny_While (codeAny_whileLoop (fun n s' => ∃ σ' H', Inv X pins σ' H' s' ∧ W n σ' H') ?_ m0 ⟨σ, H, I, w0⟩)
  rintro n s1 ⟨σ1, H1, I1, w1⟩
  refine wpAny_passesOwn hp (thn (hc pins s1 σ1 H1 _ I1 (turn n σ1 H1 w1)) fun b s2 ⟨H2, I2, q2⟩ => ?_)
  cases b with
  | true =>
    obtain ⟨N, hN, q2⟩ := q2
    rw [if_pos rfl]
    refine wpAny_passesOwn hp (thn (hb pins s2 σ1 H2 _ I2 q2) fun f s3 q3 => ?_)
    cases f with
    | next =>
      obtain ⟨σ3, H3, I3, n3⟩ := q3
      obtain ⟨m', hm, w3⟩ := hN σ3 H3 n3
      exact ⟨m', hm, σ3, H3, I3, w3⟩
    | cont =>
      obtain ⟨σ3, H3, I3, n3⟩ := q3
      obtain ⟨m', hm, w3⟩ := hN σ3 H3 n3
      exact ⟨m', hm, σ3, H3, I3, w3⟩
    | brk => exact q3
    | ret v => exact q3
  | false =>
    rw [if_neg Bool.false_ne_true]
    exact wpAny_execs_nil ⟨σ1, H2, I2, q2⟩
end

/-! ### what a loop or a comprehension walks -/
/-- at turn i: it yields x (the heap may grow), or it stops -/
structure It where
  go : Nat → Hp → Prop
  yld : Nat → Hp → V → Hp → Prop
  stop : Nat → Hp → Prop
/-- the iterator's own objects may turn: they are not the frame's, not pinned, younger than the entry (or a comprehension's own) -/
def FpOk (X : Cx) (pins : List (Addr × Obj)) (H : Hp) (b : Addr) : Prop :=
  H b = none ∧ b ≠ X.env.locals ∧ b ∉ X.fs ∧ (b ∈ X.ex ∨ X.s₀.heap.objs.size ≤ b) ∧ (∀ x c, X.env.cells.lookup x = some c → c ≠ b) ∧ ∀ p ∈ X.pn ++ pins, p.1 ≠ b
theorem Inv.fpOk {X : Cx} {pins : List (Addr × Obj)} {σ : St} {H H' : Hp} {s : Shared} {b : Addr} (I : Inv X pins σ H s) (hb : s.heap.objs.size ≤ b) (hn : H' b = none) : FpOk X pins H' b := by
  refine ⟨hn, Nat.ne_of_gt (Nat.lt_of_lt_of_le I.lt hb), I.nofs hb, .inr (Nat.le_trans I.sz hb), fun x c e z => ?_, fun p hp z => ?_⟩
  · obtain ⟨v, q⟩ := I.cell x c e
    exact absurd (Nat.lt_of_lt_of_le q.lt (by rw [z]; exact hb)) (Nat.lt_irrefl _)
  · exact absurd (Nat.lt_of_lt_of_le (Heap.lt_size (I.pin p hp).1) (by rw [z]; exact hb)) (Nat.lt_irrefl _)
structure Turn (P : Program) (w : World) (K : PySem.W.Frag) (tg : Expr) (J : It) (fp : List Addr) (it : Addr) (tn : Nat → Heap → Prop) : Prop where
  mem : it ∈ fp
  obj : ∀ i h, tn i h → ∀ b ∈ fp, ∃ o, h.get? b = some o ∧ ∀ v, o.data ≠ .cell v
  keep : ∀ i h h', tn i h → (∀ b ∈ fp, ∀ o, h.get? b = some o → h'.get? b = some o) → tn i h'
  item : ∀ (X : Cx), X.prog = P → X.w = w → X.K = K → X.calm = true → ∀ (i : Nat) (pins : List (Addr × Obj)) (s : Shared) (σ : St) (H : Hp) (E : Value → Shared → Prop), Inv X pins σ H s → (∀ b ∈ fp, FpOk X pins H b) → tn i s.heap → J.go i H →
    wpAny (model P w) X.A (pyNext (.ref it)) (fun r s1 => ∃ u, r = some u ∧
      wpAny (model P w) X.A (letOwnedTupleGo tg (.ref it) u) (fun _ s2 => ∃ x H', Inv X pins σ H' s2 ∧ RelV x u ∧ J.yld i H x H' ∧ tn (i + 1) s2.heap ∧ ∀ b ∈ fp, H' b = none) E s1) E s
  done : ∀ (X : Cx), X.prog = P → X.w = w → X.K = K → X.calm = true → ∀ (i : Nat) (pins : List (Addr × Obj)) (s : Shared) (σ : St) (H : Hp) (E : Value → Shared → Prop), Inv X pins σ H s → (∀ b ∈ fp, FpOk X pins H b) → tn i s.heap → J.stop i H →
    wpAny (model P w) X.A (pyNext (.ref it)) (fun r s1 => r = none ∧ Inv X pins σ H s1) E s
  self : ∀ (A : Around) (i : Nat) (s : Shared) (Q : Value → Shared → Prop) (E : Value → Shared → Prop), tn i s.heap → Q (.ref it) s → wpAny (model P w) A (pyIter (.ref it)) Q E s
abbrev TI := St → Hp → (It → Hp → Prop) → Prop
/-- an iterator has come -/
def PIE (X : Cx) (pins : List (Addr × Obj)) (σ : St) (tg : Expr) (R : It → Hp → Prop) (itv : Value) (s2 : Shared) : Prop :=
  ∃ (it : Addr) (fp : List Addr) (tn : Nat → Heap → Prop) (J : It) (H' : Hp), itv = .ref it ∧ Inv X pins σ H' s2 ∧ Turn X.prog X.w X.K tg J fp it tn ∧ tn 0 s2.heap ∧ (∀ b ∈ fp, FpOk X pins H' b) ∧ R J H'
def PI (X : Cx) (tg iter : Expr) (wi : TI) : Prop :=
  ∀ (pins : List (Addr × Obj)) (s : Shared) (σ : St) (H : Hp) (R : It → Hp → Prop), Inv X pins σ H s → wi σ H R →
    wpAny (model X.prog X.w) X.A (eval iter X.env) (fun v s1 => wpAny (model X.prog X.w) X.A (pyIter v) (PIE X pins σ tg R) X.xe s1) X.xe s

/-- the step ahead of the store is nothing for an iterator that keeps no tuple -/
theorem go_of {M : Model} {A : Around} {E : Value → Shared → Prop} {s : Shared} {tg : Expr} {it : Addr} {u : Value} {o : Obj} {n : String} {vs : Array Value} {Q : Unit → Shared → Prop} (ho : s.heap.get? it = some o) (hc : o.cls = .type n) (hd : o.data = .fields vs)
    (hn : ["enumerate", "zip", "dict_itemiterator", "dict_reverseitemiterator", "odict_iterator", "itertools.zip_longest", "itertools.pairwise"].contains n = false) (hQ : Q () s) : wpAny M A (letOwnedTupleGo tg (.ref it) u) Q E s := by
  unfold letOwnedTupleGo
  cases tg <;> first
    | exact wpAny_pure hQ
    | (cases u <;> first
        | exact wpAny_pure hQ
        | (refine wpAny_bind (wpAny_load ho ?_)
           rw [hc, hd]
           show wpAny M A (if (["enumerate", "zip", "dict_itemiterator", "dict_reverseitemiterator", "odict_iterator", "itertools.zip_longest", "itertools.pairwise"].contains n && vs[0]? == some (rawInt _)) = true then _ else _) Q E s
           rw [if_neg (by intro h; rw [hn, Bool.false_and] at h; cases h)]
           exact wpAny_pure hQ))

/-- the list at a, as it stands at each turn (a loop may append to it) -/
def Itl (K : PySem.W.Frag) (a : Addr) : It :=
  ⟨fun i H => ∃ xs x, SqL K H a xs ∧ xs[i]? = some x, fun i H x H' => H' = H ∧ ∀ xs, SqL K H a xs → xs[i]? = some x, fun i H => ∃ xs, SqL K H a xs ∧ xs.length ≤ i⟩
def Itt (K : PySem.W.Frag) (a : Addr) : It :=
  ⟨fun i H => ∃ xs x, SqT K H a xs ∧ xs[i]? = some x, fun i H x H' => H' = H ∧ ∀ xs, SqT K H a xs → xs[i]? = some x, fun i H => ∃ xs, SqT K H a xs ∧ xs.length ≤ i⟩
/-- lo, lo + 1, .. (n of them) -/
def Itr (lo : Int) (n : Nat) : It := ⟨fun i _ => i < n, fun i H x H' => H' = H ∧ x = .int (lo + i), fun i _ => n ≤ i⟩
theorem turn_list {P : Program} {w : World} {K : PySem.W.Frag} {tg : Expr} (a it : Addr) : Turn P w K tg (Itl K a) [it] it (fun i h => h.IsListIter it a i) where
  mem := by simp
  obj := fun i h st b hb => by
    have e : b = it := by simpa using hb
    subst e
    obtain ⟨o, e, c, d⟩ := st
    exact ⟨o, e, fun v z => by rw [d] at z; cases z⟩
  keep := fun i h h' st k => st.at fun o e => k it (by simp) o e
  item := by
    intro X hP hw hK hc i pins s σ H E I hf st hg
    subst hP hw hK
    obtain ⟨xs, x, hq, hx⟩ := hg
    obtain ⟨its, rv, p, hz⟩ := I.list hq
    obtain ⟨u, hu, ru⟩ := rv.get hx
    obtain ⟨f0, f1, f2, f3, f4, f5⟩ := hf it (by simp)
    refine wpAny_pyNext_list_item st p.isList (x := u) (by simpa using hu) fun h' st' sb => ?_
    have I1 : Inv X pins σ H { s with heap := h' } := I.turned (t' := s.toks) (fun b o hb e => (sb.2 b hb).trans e) f0 f1 f3 f4 f5
    obtain ⟨o, e, c, d⟩ := id st'
    exact ⟨u, rfl, go_of (s := { s with heap := h' }) e c d (by decide) ⟨x, H, I1, ru, ⟨rfl, fun ys hy => by rw [I.list_inj hy hq]; exact hx⟩, st', fun b hb => (hf b hb).1⟩⟩
  done := by
    intro X hP hw hK hc i pins s σ H E I hf st hg
    subst hP hw hK
    obtain ⟨xs, hq, hx⟩ := hg
    obtain ⟨its, rv, p, hz⟩ := I.list hq
    obtain ⟨f0, f1, f2, f3, f4, f5⟩ := hf it (by simp)
    have hl := rv.length
    exact wpAny_pyNext_list_end (I.ok.hd hc) st p.isList (by simp; omega) fun h' eb => ⟨rfl, I.turned (t' := s.toks) (fun b o hb e => eb b o hb e) f0 f1 f3 f4 f5⟩
  self := fun _ _ _ _ _ st h => wpAny_pyIter_listiter st h
theorem turn_tuple {P : Program} {w : World} {K : PySem.W.Frag} {tg : Expr} (a it : Addr) : Turn P w K tg (Itt K a) [it] it (fun i h => h.IsTupleIter it a i) where
  mem := by simp
  obj := fun i h st b hb => by
    have e : b = it := by simpa using hb
    subst e
    obtain ⟨o, e, c, d⟩ := st
    exact ⟨o, e, fun v z => by rw [d] at z; cases z⟩
  keep := fun i h h' st k => st.at fun o e => k it (by simp) o e
  item := by
    intro X hP hw hK hc i pins s σ H E I hf st hg
    subst hP hw hK
    obtain ⟨xs, x, hq, hx⟩ := hg
    obtain ⟨its, rv, p, hz⟩ := I.tuple hq
    obtain ⟨u, hu, ru⟩ := rv.get hx
    obtain ⟨f0, f1, f2, f3, f4, f5⟩ := hf it (by simp)
    refine wpAny_pyNext_tuple_item st (show s.heap.IsTuple a its.toArray from p) (x := u) (by simpa using hu) fun h' st' sb => ?_
    have I1 : Inv X pins σ H { s with heap := h' } := I.turned (t' := s.toks) (fun b o hb e => (sb.2 b hb).trans e) f0 f1 f3 f4 f5
    obtain ⟨o, e, c, d⟩ := id st'
    exact ⟨u, rfl, go_of (s := { s with heap := h' }) e c d (by decide) ⟨x, H, I1, ru, ⟨rfl, fun ys hy => by rw [I.tuple_inj hy hq]; exact hx⟩, st', fun b hb => (hf b hb).1⟩⟩
  done := by
    intro X hP hw hK hc i pins s σ H E I hf st hg
    subst hP hw hK
    obtain ⟨xs, hq, hx⟩ := hg
    obtain ⟨its, rv, p, hz⟩ := I.tuple hq
    obtain ⟨f0, f1, f2, f3, f4, f5⟩ := hf it (by simp)
    have hl := rv.length
    exact wpAny_pyNext_tuple_end (I.ok.hd hc) st (show s.heap.IsTuple a its.toArray from p) (by simp; omega) fun h' eb => ⟨rfl, I.turned (t' := s.toks) (fun b o hb e => eb b o hb e) f0 f1 f3 f4 f5⟩
  self := fun _ _ _ _ _ st h => wpAny_pyIter_tupleiter st h
theorem turn_range {P : Program} {w : World} {K : PySem.W.Frag} {tg : Expr} (it : Addr) (lo : Int) (n : Nat) : Turn P w K tg (Itr lo n) [it] it (fun i h => IsRangeIter h it (lo + (i : Nat) * 1) ((n : Int) - (i : Nat)) 1) where
  mem := by simp
  obj := fun i h st b hb => by
    have e : b = it := by simpa using hb
    subst e
    exact ⟨_, st, fun v z => by
      have z' : Data.fields _ = Data.cell v := z
      cases z'⟩
  keep := fun i h h' st k => k it (by simp) _ st
  item := by
    intro X hP hw hK hc i pins s σ H E I hf st hg
    subst hP hw hK
    obtain ⟨f0, f1, f2, f3, f4, f5⟩ := hf it (by simp)
    have W := Walks.range (prog := X.prog) (w := X.w) (I.ok.hd hc) it lo 1 n
    refine W.item i s _ _ hg st fun v h' tk hv st' kk => ?_
    obtain ⟨t, rfl⟩ := hv
    have I1 : Inv X pins σ H { s with heap := h', toks := tk } := I.turned (fun b o hb e => kk b o (by simpa using hb) e) f0 f1 f3 f4 f5
    refine ⟨_, rfl, go_of (s := { s with heap := h', toks := tk }) (n := "range_iterator") st' rfl rfl (by decide) ⟨.int (lo + i), H, I1, ⟨t, ?_⟩, ⟨rfl, rfl⟩, st', fun b hb => (hf b hb).1⟩⟩
    rw [Int.mul_one]
  done := by
    intro X hP hw hK hc i pins s σ H E I hf st hg
    subst hP hw hK
    obtain ⟨f0, f1, f2, f3, f4, f5⟩ := hf it (by simp)
    exact wpAny_pyNext_range_end (I.ok.hd hc) st (by have : n ≤ i := hg; omega) fun h' eb => ⟨rfl, I.turned (t' := s.toks) (fun b o hb e => eb b o hb e) f0 f1 f3 f4 f5⟩
  self := fun _ _ _ _ _ st h => wpAny_pyIter_rangeiter st h
end L2

namespace L2
open PySem PySem.Spec PyProof.Rows
section
variable {X : Cx} {tg : Expr}
def iList (K : PySem.W.Frag) (tl : TE) : TI := fun σ H R => tl σ H fun x H1 => ∃ a, x = .ref a ∧ (∃ xs, SqL K H1 a xs) ∧ R (Itl K a) H1
def iTup (K : PySem.W.Frag) (tl : TE) : TI := fun σ H R => tl σ H fun x H1 => ∃ a, x = .ref a ∧ (∃ xs, SqT K H1 a xs) ∧ R (Itt K a) H1
theorem pi_list {l : Expr} {tl : TE} (hl : PE X l tl) : PI X tg l (iList X.K tl) := by
  intro pins s σ H R I h
  refine thn (hl pins s σ H _ I h) fun v s1 ⟨x, H1, I1, r1, q1⟩ => ?_
  obtain ⟨a, e, ⟨xs, hq⟩, q⟩ := q1
  subst e
  cases r1
  obtain ⟨its, rv, p, hz⟩ := I1.list hq
  refine wpAny_pyIter_list p.isList ?_
  refine ⟨s1.heap.objs.size, [s1.heap.objs.size], _, _, H1, rfl, I1.kept (t' := s1.toks) fun b o e => Heap.get?_push_of_some _ e, turn_list a _, ⟨_, Heap.get?_push_size _ rfl, rfl, rfl⟩, fun b hb => ?_, q⟩
  have e : b = s1.heap.objs.size := by simpa using hb
  subst e
  exact I1.fpOk (Nat.le_refl _) (I1.hok.fresh (Nat.le_refl _))
theorem pi_tup {l : Expr} {tl : TE} (hl : PE X l tl) : PI X tg l (iTup X.K tl) := by
  intro pins s σ H R I h
  refine thn (hl pins s σ H _ I h) fun v s1 ⟨x, H1, I1, r1, q1⟩ => ?_
  obtain ⟨a, e, ⟨xs, hq⟩, q⟩ := q1
  subst e
  cases r1
  obtain ⟨its, rv, p, hz⟩ := I1.tuple hq
  refine wpAny_pyIter_tuple (show s1.heap.IsTuple a its.toArray from p) ?_
  refine ⟨s1.heap.objs.size, [s1.heap.objs.size], _, _, H1, rfl, I1.kept (t' := s1.toks) fun b o e => Heap.get?_push_of_some _ e, turn_tuple a _, ⟨_, Heap.get?_push_size _ rfl, rfl, rfl⟩, fun b hb => ?_, q⟩
  have e : b = s1.heap.objs.size := by simpa using hb
  subst e
  exact I1.fpOk (Nat.le_refl _) (I1.hok.fresh (Nat.le_refl _))
/-- a range object just made, walked -/
theorem range_it {pins : List (Addr × Obj)} {σ : St} {H : Hp} {s : Shared} {R : It → Hp → Prop} {E : Value → Shared → Prop} {lo hi : Int} {t u v : Tok} {tk : Nat} (I : Inv X pins σ H s) (h1 : -(2 ^ 62) ≤ lo) (h2 : lo < 2 ^ 62) (h3 : -(2 ^ 62) ≤ hi) (h4 : hi < 2 ^ 62)
    (q : R (Itr lo (hi - lo).toNat) H) : wpAny (model X.prog X.w) X.A (pyIter (.ref s.heap.objs.size)) (PIE X pins σ tg R) E { s with heap := s.heap.push { cls := .type "range", data := .fields #[.int lo t, .int hi u, .int 1 v] }, toks := tk } := by
  refine wpAny_pyIter_range (IsRange.new ..) (small_one h1 h2 h3 h4) ?_
  have I1 : Inv X pins σ H { s with heap := s.heap.push { cls := .type "range", data := .fields #[.int lo t, .int hi u, .int 1 v] }, toks := tk } := I.kept fun b o e => Heap.get?_push_of_some _ e
  refine ⟨(s.heap.push { cls := .type "range", data := .fields #[.int lo t, .int hi u, .int 1 v] }).objs.size, [(s.heap.push { cls := .type "range", data := .fields #[.int lo t, .int hi u, .int 1 v] }).objs.size], _, _, H, rfl,
    I1.kept (t' := tk) fun b o e => Heap.get?_push_of_some _ e, turn_range _ lo (hi - lo).toNat, ?_, fun b hb => ?_, q⟩
  · have e1 : lo + ((0 : Nat) : Int) * 1 = lo := by simp
    have e2 : (((hi - lo).toNat : Nat) : Int) - ((0 : Nat) : Int) = Builtin.Range.rangeSize lo hi 1 := by rw [rangeSize_one]; split <;> omega
    show IsRangeIter _ _ (lo + ((0 : Nat) : Int) * 1) ((((hi - lo).toNat : Nat) : Int) - ((0 : Nat) : Int)) 1
    rw [e1, e2]
    exact Heap.get?_push_size _ rfl
  · have e : b = (s.heap.push { cls := .type "range", data := .fields #[.int lo t, .int hi u, .int 1 v] }).objs.size := by simpa using hb
    subst e
    exact I1.fpOk (Nat.le_refl _) (I1.hok.fresh (Nat.le_refl _))
def iRng1 (ta : TA) : TI := fun σ H R => ta σ H fun vs H1 => ∃ j : Int, vs = [.int j] ∧ -(2 ^ 62) ≤ j ∧ j < 2 ^ 62 ∧ R (Itr 0 j.toNat) H1
def iRng2 (ta : TA) : TI := fun σ H R => ta σ H fun vs H1 => ∃ i j : Int, vs = [.int i, .int j] ∧ (-(2 ^ 62) ≤ i ∧ i < 2 ^ 62 ∧ -(2 ^ 62) ≤ j ∧ j < 2 ^ 62) ∧ R (Itr i (j - i).toNat) H1
theorem pi_range1 {a : Expr} {ta : TA} {p pos : Pos} (hg : Gl X "range") (hm : X.mg "range" = none) (ha : PA X [a] ta) (hs : starEach [a] X.env = [(false, eval a X.env)] := by rfl) : PI X tg (.Call (.Name "range" p) [a] [] pos) (iRng1 ta) := by
  intro pins s σ H R I h
  refine Call_ (ld_blt I hg hm boot_range (PyProof.Rows.callWith_type1 (thn (ha pos pins s σ H _ I h) fun us s1 ⟨vs, H1, I1, r1, q1⟩ => ?_) hs rfl))
  obtain ⟨j, e, q1, q2, q⟩ := q1
  subst e
  cases r1 with
  | cons r rr =>
    cases rr
    obtain ⟨t, rfl⟩ := r
    exact call_range_1 (range_it I1 (by omega) (by omega) q1 q2 (by simpa using q))
theorem pi_range2 {a b : Expr} {ta : TA} {p pos : Pos} (hg : Gl X "range") (hm : X.mg "range" = none) (ha : PA X [a, b] ta) (hs : starEach [a, b] X.env = [(false, eval a X.env), (false, eval b X.env)] := by rfl) (hs2 : starEach [b] X.env = [(false, eval b X.env)] := by rfl) :
    PI X tg (.Call (.Name "range" p) [a, b] [] pos) (iRng2 ta) := by
  intro pins s σ H R I h
  refine Call_ (ld_blt I hg hm boot_range (PyProof.Rows.callWith_type1 (thn (ha pos pins s σ H _ I h) fun us s1 ⟨vs, H1, I1, r1, q1⟩ => ?_) (by rw [hs, hs2]) (by rw [hs2]; rfl)))
  obtain ⟨i, j, e, ⟨q1, q2, q3, q4⟩, q⟩ := q1
  subst e
  cases r1 with
  | cons r rr =>
    cases rr with
    | cons r' rr =>
      cases rr
      obtain ⟨t, rfl⟩ := r
      obtain ⟨t', rfl⟩ := r'
      exact call_range_2 (range_it I1 q1 q2 q3 q4 q)

/-! ### for -/
/-- W: the invariant by the turn and a measure; N: what the body is to reach -/
def tFor (wi : TI) (g : TG) (tb : TS) : TS := fun D σ H => wi σ H fun J H1 => ∃ W : Nat → Nat → St → Hp → Prop, (∃ m, W 0 m σ H1) ∧ ∀ i m σ H, W i m σ H →
  (J.stop i H ∧ D.nx σ H) ∨ (J.go i H ∧ ∃ N : St → Hp → Prop, (∀ σ' H', N σ' H' → ∃ m', m' < m ∧ W (i + 1) m' σ' H') ∧ ∀ x H', J.yld i H x H' → g x σ H' fun σ2 H2 => tb { D with nx := N, ct := N, bk := D.nx } σ2 H2)
/-- the records at fp as they stand -/
def pinsAt (fp : List Addr) (h : Heap) : List (Addr × Obj) := fp.filterMap fun b => (h.get? b).map fun o => (b, o)
theorem mem_pinsAt {fp : List Addr} {h : Heap} {b : Addr} {o : Obj} (hb : b ∈ fp) (e : h.get? b = some o) : (b, o) ∈ pinsAt fp h := List.mem_filterMap.mpr ⟨b, hb, by rw [e]; rfl⟩
theorem of_pinsAt {fp : List Addr} {h : Heap} {p : Addr × Obj} (hp : p ∈ pinsAt fp h) : p.1 ∈ fp ∧ h.get? p.1 = some p.2 := by
  obtain ⟨b, hb, e⟩ := List.mem_filterMap.mp hp
  cases q : h.get? b with
  | none => rw [q] at e; cases e
  | some o =>
    rw [q] at e
    have e' : (b, o) = p := Option.some.inj e
    subst e'
    exact ⟨hb, q⟩
theorem Inv.pinned {pins : List (Addr × Obj)} {σ : St} {H : Hp} {s : Shared} {fp : List Addr} (I : Inv X pins σ H s) (hf : ∀ b ∈ fp, FpOk X pins H b) (ho : ∀ b ∈ fp, ∃ o, s.heap.get? b = some o ∧ ∀ v, o.data ≠ .cell v) : Inv X (pins ++ pinsAt fp s.heap) σ H s :=
  I.pins_of fun p hp => (List.mem_append.mp hp).elim (fun z => I.pin p (List.mem_append_right _ z)) fun z => by
    obtain ⟨hb, e⟩ := of_pinsAt z
    obtain ⟨f0, f1, f2, _⟩ := hf p.1 hb
    obtain ⟨o, e', d⟩ := ho p.1 hb
    rw [e] at e'; cases e'
    exact ⟨e, f0, f1, f2, d⟩
theorem Inv.unpinned {pins pl : List (Addr × Obj)} {σ : St} {H : Hp} {s : Shared} (I : Inv X (pins ++ pl) σ H s) : Inv X pins σ H s := I.pins_of fun p hp => I.pin p (List.mem_append_right _ (List.mem_append_left _ hp))
theorem ps_for {iter : Expr} {body : List Stmt} {wi : TI} {g : TG} {tb : TS} {pos : Pos} (hp : PassesOwn (model X.prog X.w) X.A X.env X.xe) (hc : X.calm = true) (hi : PI X tg iter wi) (hg : PG X tg g) (hb : PSs X body tb)
    (hs : ∀ x, foldedSetIterable iter X.env x = pure x := by intro _; rfl) : PS X (.For tg iter body [] pos) (tFor wi g tb) := by
  intro pins s σ H D I h
  refine wpAny_For (thn (hi pins s σ H _ I h) fun v s1 h1 => thn h1 fun itv s2 h2 => ?_) hs
  obtain ⟨it, fp, tn, J, H2, e, I2, T, st2, f2, W, ⟨m0, w0⟩, turn⟩ := h2
  subst e
  -- what stays true of the iterator's objects through the loop
  have stat : ∀ {H' : Hp}, (∀ b ∈ fp, H' b = none) → ∀ b ∈ fp, FpOk X pins H' b := fun hn b hb => ⟨hn b hb, (f2 b hb).2⟩
  refine codeAny_forLoop_any (fun n s' => ∃ i σ' H', Inv X pins σ' H' s' ∧ tn i s'.heap ∧ (∀ b ∈ fp, H' b = none) ∧ W i n σ' H') ?_ m0 ⟨0, σ, H2, I2, st2, fun b hb => (f2 b hb).1, w0⟩
  rintro n s3 ⟨i, σ3, H3, I3, st3, fr3, w3⟩
  rcases turn i n σ3 H3 w3 with ⟨stop, qn⟩ | ⟨go, N, hN, step⟩
  · refine wpAny_passesOwn hp (thn (T.done X rfl rfl rfl hc i pins s3 σ3 H3 X.xe I3 (stat fr3) st3 stop) fun r s4 ⟨hr, I4⟩ => ?_)
    subst hr
    exact wpAny_execs_nil ⟨σ3, H3, I4, qn⟩
  · refine wpAny_passesOwn hp (thn (T.item X rfl rfl rfl hc i pins s3 σ3 H3 X.xe I3 (stat fr3) st3 go) fun r s4 ⟨u, hr, h4⟩ => ?_)
    subst hr
    refine wpAny_passesOwn hp (thn h4 fun _ s5 ⟨x, H5, I5, r5, y5, st5, fr5⟩ => ?_)
    have I5' := I5.pinned (stat fr5) (T.obj _ _ st5)
    refine wpAny_passesOwn hp (thn (hg _ s5 σ3 H5 x u _ I5' r5 (step x H5 y5)) fun _ s6 ⟨σ6, H6, I6, q6⟩ => ?_)
    refine wpAny_passesOwn hp (thn (hb _ s6 σ6 H6 _ I6 q6) fun f s7 q7 => ?_)
    have again : ∀ {σ7 : St} {H7 : Hp}, Inv X (pins ++ pinsAt fp s5.heap) σ7 H7 s7 → N σ7 H7 → ∃ m, m < n ∧ ∃ i σ' H', Inv X pins σ' H' s7 ∧ tn i s7.heap ∧ (∀ b ∈ fp, H' b = none) ∧ W i m σ' H' := fun {σ7 H7} I7 n7 => by
      obtain ⟨m', hm, w7⟩ := hN σ7 H7 n7
      refine ⟨m', hm, i + 1, σ7, H7, I7.unpinned, T.keep _ _ _ st5 fun b hb o e => (I7.pin (b, o) (List.mem_append_right _ (List.mem_append_right _ (mem_pinsAt hb e)))).1, fun b hb => ?_, w7⟩
      obtain ⟨o, e, d⟩ := T.obj _ _ st5 b hb
      exact (I7.pin (b, o) (List.mem_append_right _ (List.mem_append_right _ (mem_pinsAt hb e)))).2.1
    cases f with
    | next => obtain ⟨σ7, H7, I7, n7⟩ := q7; exact again I7 n7
    | cont => obtain ⟨σ7, H7, I7, n7⟩ := q7; exact again I7 n7
    | brk => obtain ⟨σ7, H7, I7, q7⟩ := q7; exact ⟨σ7, H7, I7.unpinned, q7⟩
    | ret v => obtain ⟨x7, σ7, H7, I7, r7, q7⟩ := q7; exact ⟨x7, σ7, H7, I7.unpinned, r7, q7⟩
end

/-! ### the forms one uses -/
/-- over a list that the body leaves as it is -/
theorem for_list {K : PySem.W.Frag} {a : Addr} {xs : List V} {g : TG} {tb : TS} {D : Ends} {σ : St} {H : Hp} (Pv : Nat → St → Hp → Prop) (h0 : Pv 0 σ H) (hl : ∀ i σ H, i ≤ xs.length → Pv i σ H → SqL K H a xs)
    (hs : ∀ i x σ H, xs[i]? = some x → Pv i σ H → g x σ H fun σ2 H2 => tb { D with nx := Pv (i + 1), ct := Pv (i + 1), bk := D.nx } σ2 H2) (hd : ∀ σ H, Pv xs.length σ H → D.nx σ H) :
    ∃ W : Nat → Nat → St → Hp → Prop, (∃ m, W 0 m σ H) ∧ ∀ i m σ H, W i m σ H →
      ((Itl K a).stop i H ∧ D.nx σ H) ∨ ((Itl K a).go i H ∧ ∃ N : St → Hp → Prop, (∀ σ' H', N σ' H' → ∃ m', m' < m ∧ W (i + 1) m' σ' H') ∧ ∀ x H', (Itl K a).yld i H x H' → g x σ H' fun σ2 H2 => tb { D with nx := N, ct := N, bk := D.nx } σ2 H2) := by
  refine ⟨fun i m σ H => m = xs.length - i ∧ i ≤ xs.length ∧ Pv i σ H, ⟨xs.length, by simp, Nat.zero_le _, h0⟩, ?_⟩
  rintro i m σ H ⟨rfl, hi, p⟩
  have q := hl i σ H hi p
  by_cases hlt : i < xs.length
  · refine .inr ⟨⟨xs, xs[i], q, by simp [hlt]⟩, Pv (i + 1), fun σ' H' p' => ⟨xs.length - (i + 1), by omega, rfl, hlt, p'⟩, fun x H' y => ?_⟩
    obtain ⟨e, y⟩ := y
    subst e
    exact hs i x σ _ (y xs q) p
  · have e : i = xs.length := by omega
    subst e
    exact .inl ⟨⟨xs, q, Nat.le_refl _⟩, hd σ H p⟩
theorem for_tup {K : PySem.W.Frag} {a : Addr} {xs : List V} {g : TG} {tb : TS} {D : Ends} {σ : St} {H : Hp} (Pv : Nat → St → Hp → Prop) (h0 : Pv 0 σ H) (hl : ∀ i σ H, i ≤ xs.length → Pv i σ H → SqT K H a xs)
    (hs : ∀ i x σ H, xs[i]? = some x → Pv i σ H → g x σ H fun σ2 H2 => tb { D with nx := Pv (i + 1), ct := Pv (i + 1), bk := D.nx } σ2 H2) (hd : ∀ σ H, Pv xs.length σ H → D.nx σ H) :
    ∃ W : Nat → Nat → St → Hp → Prop, (∃ m, W 0 m σ H) ∧ ∀ i m σ H, W i m σ H →
      ((Itt K a).stop i H ∧ D.nx σ H) ∨ ((Itt K a).go i H ∧ ∃ N : St → Hp → Prop, (∀ σ' H', N σ' H' → ∃ m', m' < m ∧ W (i + 1) m' σ' H') ∧ ∀ x H', (Itt K a).yld i H x H' → g x σ H' fun σ2 H2 => tb { D with nx := N, ct := N, bk := D.nx } σ2 H2) := by
  refine ⟨fun i m σ H => m = xs.length - i ∧ i ≤ xs.length ∧ Pv i σ H, ⟨xs.length, by simp, Nat.zero_le _, h0⟩, ?_⟩
  rintro i m σ H ⟨rfl, hi, p⟩
  have q := hl i σ H hi p
  by_cases hlt : i < xs.length
  · refine .inr ⟨⟨xs, xs[i], q, by simp [hlt]⟩, Pv (i + 1), fun σ' H' p' => ⟨xs.length - (i + 1), by omega, rfl, hlt, p'⟩, fun x H' y => ?_⟩
    obtain ⟨e, y⟩ := y
    subst e
    exact hs i x σ _ (y xs q) p
  · have e : i = xs.length := by omega
    subst e
    exact .inl ⟨⟨xs, q, Nat.le_refl _⟩, hd σ H p⟩
theorem for_range {lo : Int} {n : Nat} {g : TG} {tb : TS} {D : Ends} {σ : St} {H : Hp} (Pv : Nat → St → Hp → Prop) (h0 : Pv 0 σ H)
    (hs : ∀ i σ H, i < n → Pv i σ H → g (.int (lo + i)) σ H fun σ2 H2 => tb { D with nx := Pv (i + 1), ct := Pv (i + 1), bk := D.nx } σ2 H2) (hd : ∀ σ H, Pv n σ H → D.nx σ H) :
    ∃ W : Nat → Nat → St → Hp → Prop, (∃ m, W 0 m σ H) ∧ ∀ i m σ H, W i m σ H →
      ((Itr lo n).stop i H ∧ D.nx σ H) ∨ ((Itr lo n).go i H ∧ ∃ N : St → Hp → Prop, (∀ σ' H', N σ' H' → ∃ m', m' < m ∧ W (i + 1) m' σ' H') ∧ ∀ x H', (Itr lo n).yld i H x H' → g x σ H' fun σ2 H2 => tb { D with nx := N, ct := N, bk := D.nx } σ2 H2) := by
  refine ⟨fun i m σ H => m = n - i ∧ i ≤ n ∧ Pv i σ H, ⟨n, by simp, Nat.zero_le _, h0⟩, ?_⟩
  rintro i m σ H ⟨rfl, hi, p⟩
  by_cases hlt : i < n
  · refine .inr ⟨hlt, Pv (i + 1), fun σ' H' p' => ⟨n - (i + 1), by omega, rfl, hlt, p'⟩, fun x H' y => ?_⟩
    obtain ⟨e, y⟩ := y
    subst e y
    exact hs i σ _ hlt p
  · have e : i = n := by omega
    subst e
    exact .inl ⟨Nat.le_refl _, hd σ H p⟩
/-- while, by a word and a measure of the state -/
theorem while_by {c : TT} {tb : TS} {D : Ends} {σ : St} {H : Hp} (Pv : St → Hp → Prop) (μ : St → Hp → Nat) (h0 : Pv σ H)
    (hs : ∀ σ H, Pv σ H → c σ H fun b H1 => if b = true then tb { D with nx := fun σ' H' => Pv σ' H' ∧ μ σ' H' < μ σ H, ct := fun σ' H' => Pv σ' H' ∧ μ σ' H' < μ σ H, bk := D.nx } σ H1 else D.nx σ H1)
    (mono : ∀ σ H Q Q', (∀ b H1, Q b H1 → Q' b H1) → c σ H Q → c σ H Q') : tWhile c tb D σ H := by
  refine ⟨fun m σ H => m = μ σ H ∧ Pv σ H, ⟨_, rfl, h0⟩, ?_⟩
  rintro m σ H ⟨rfl, p⟩
  refine mono σ H _ _ (fun b H1 q => ?_) (hs σ H p)
  cases b with
  | true => exact ⟨_, fun σ' H' ⟨p', l⟩ => ⟨_, l, rfl, p'⟩, q⟩
  | false => exact q
end L2

namespace L2
open PySem PySem.Spec PyProof.Rows

abbrev R2 := V → V → Hp → VK → Prop
/-- a two-place operation on values: f is binaryOp op, inplaceOp op or compareOp op -/
def OpR (X : Cx) (f : Value → Value → Sem Value) (r : R2) : Prop :=
  ∀ (pins : List (Addr × Obj)) (s : Shared) (σ : St) (H : Hp) (x y : V) (v u : Value) (Q : VK), Inv X pins σ H s → RelV x v → RelV y u → r x y H Q →
    wpAny (model X.prog X.w) X.A (f v u) (EP X pins σ Q) X.xe s
/-- a one-place operation -/
def UnR (X : Cx) (f : Value → Sem Value) (r : V → Hp → VK → Prop) : Prop :=
  ∀ (pins : List (Addr × Obj)) (s : Shared) (σ : St) (H : Hp) (x : V) (v : Value) (Q : VK), Inv X pins σ H s → RelV x v → r x H Q →
    wpAny (model X.prog X.w) X.A (f v) (EP X pins σ Q) X.xe s
/-- a call of a value that is known (a builtin, a type) with values -/
def CallR (X : Cx) (f : Value) (r : List V → Hp → VK → Prop) : Prop :=
  ∀ (pins : List (Addr × Obj)) (s : Shared) (σ : St) (H : Hp) (xs : List V) (us : List Value) (Q : VK), Inv X pins σ H s → Vals xs us → r xs H Q →
    wpAny (model X.prog X.w) X.A (call f us) (EP X pins σ Q) X.xe s
/-- a value's truth -/
def TruR (X : Cx) (r : V → Hp → (Bool → Hp → Prop) → Prop) : Prop :=
  ∀ (pins : List (Addr × Obj)) (s : Shared) (σ : St) (H : Hp) (x : V) (v : Value) (Q : Bool → Hp → Prop), Inv X pins σ H s → RelV x v → r x H Q →
    wpAny (model X.prog X.w) X.A (truthy v) (TP X pins σ Q) X.xe s

def tOp (r : R2) (ta tb : TE) : TE := fun σ H Q => ta σ H fun x H1 => tb σ H1 fun y H2 => r x y H2 Q
def tUn (r : V → Hp → VK → Prop) (ta : TE) : TE := fun σ H Q => ta σ H fun x H1 => r x H1 Q
/-- ints in, under C, and a value out -/
def rI (C : Int → Int → Prop) (g : Int → Int → V) : R2 := fun x y H Q => ∃ i j, x = .int i ∧ y = .int j ∧ C i j ∧ Q (g i j) H
def rI0 (g : Int → Int → V) : R2 := fun x y H Q => ∃ i j, x = .int i ∧ y = .int j ∧ Q (g i j) H
def rU (g : Int → V) : V → Hp → VK → Prop := fun x H Q => ∃ i, x = .int i ∧ Q (g i) H

section
variable {X : Cx} {a b c : Expr} {ta tb tc : TE} {pos : Pos}

theorem binT (ha : PE X a ta) (hb : PE X b tb) {pins : List (Addr × Obj)} {s : Shared} {σ : St} {H : Hp} {R : V → V → Hp → Prop} (I : Inv X pins σ H s)
    (h : ta σ H fun x H1 => tb σ H1 fun y H2 => R x y H2) {Q : Value → Shared → Prop} {f : Value → Value → Sem Value}
    (hf : ∀ v u s2 x y H2, Inv X pins σ H2 s2 → RelV x v → RelV y u → R x y H2 → wpAny (model X.prog X.w) X.A (f v u) Q X.xe s2) :
    wpAny (model X.prog X.w) X.A (eval a X.env) (fun v s₁ => wpAny (model X.prog X.w) X.A (eval b X.env) (fun u s₂ => wpAny (model X.prog X.w) X.A (f v u) Q X.xe s₂) X.xe s₁) X.xe s := by
  refine thn (ha pins s σ H _ I h) fun v s1 ⟨x, H1, I1, r1, q1⟩ => ?_
  refine thn (hb pins s1 σ H1 _ I1 q1) fun u s2 ⟨y, H2, I2, r2, q2⟩ => ?_
  exact hf v u s2 x y H2 I2 r1 r2 q2

theorem pe_op {op : Operator} {r : R2} (ho : OpR X (binaryOp op) r) (ha : PE X a ta) (hb : PE X b tb) : PE X (.BinOp a op b pos) (tOp r ta tb) := by
  intro pins s σ H Q I h
  exact wpAny_BinOp (binT ha hb I h fun v u s2 x y H2 I2 rx ry q => ho pins s2 σ H2 x y v u Q I2 rx ry q)
theorem pe_un {op : UnaryOp} {r : V → Hp → VK → Prop} (ho : UnR X (unaryOp op) r) (ha : PE X a ta) : PE X (.UnaryOp op a pos) (tUn r ta) := by
  intro pins s σ H Q I h
  exact UnaryOp_ (thn (ha pins s σ H _ I h) fun v s1 ⟨x, H1, I1, r1, q1⟩ => ho pins s1 σ H1 x v Q I1 r1 q1)
/-- a op= e at a name: the name's slot i -/
theorem augR {op : Operator} {r : R2} (ho : OpR X (inplaceOp op) r) {pins : List (Addr × Obj)} {s : Shared} {σ : St} {H : Hp} {x y : V} {v u : Value} {Q : VK} (I : Inv X pins σ H s)
    (rx : RelV x v) (ry : RelV y u) (q : r x y H Q) : wpAny (model X.prog X.w) X.A (inplaceOp op v u) (EP X pins σ Q) X.xe s := ho pins s σ H x y v u Q I rx ry q

/-! ### ints -/
theorem opI {f : Value → Value → Sem Value} {C : Int → Int → Prop} {g : Int → Int → Int}
    (rule : ∀ (i j : Int) (t u : Tok) (s : Shared) (Q : Value → Shared → Prop) (E : Value → Shared → Prop), C i j → Q (.int (g i j) s.toks) { s with toks := s.toks + 1 } → wpAny (model X.prog X.w) X.A (f (.int i t) (.int j u)) Q E s) :
    OpR X f (rI C fun i j => .int (g i j)) := by
  intro pins s σ H x y v u Q I rx ry h
  obtain ⟨i, j, rfl, rfl, hc, q⟩ := h
  obtain ⟨t, rfl⟩ := rx
  obtain ⟨t', rfl⟩ := ry
  exact rule i j t t' s _ _ hc ⟨.int (g i j), H, I.tok _, ⟨_, rfl⟩, q⟩
theorem opI0 {f : Value → Value → Sem Value} {g : Int → Int → Int}
    (rule : ∀ (i j : Int) (t u : Tok) (s : Shared) (Q : Value → Shared → Prop) (E : Value → Shared → Prop), Q (.int (g i j) s.toks) { s with toks := s.toks + 1 } → wpAny (model X.prog X.w) X.A (f (.int i t) (.int j u)) Q E s) :
    OpR X f (rI0 fun i j => .int (g i j)) := by
  intro pins s σ H x y v u Q I rx ry h
  obtain ⟨i, j, rfl, rfl, q⟩ := h
  obtain ⟨t, rfl⟩ := rx
  obtain ⟨t', rfl⟩ := ry
  exact rule i j t t' s _ _ ⟨.int (g i j), H, I.tok _, ⟨_, rfl⟩, q⟩
theorem opB0 {f : Value → Value → Sem Value} {g : Int → Int → Bool}
    (rule : ∀ (i j : Int) (t u : Tok) (s : Shared) (Q : Value → Shared → Prop) (E : Value → Shared → Prop), Q (.bool (g i j)) s → wpAny (model X.prog X.w) X.A (f (.int i t) (.int j u)) Q E s) :
    OpR X f (rI0 fun i j => .bl (g i j)) := by
  intro pins s σ H x y v u Q I rx ry h
  obtain ⟨i, j, rfl, rfl, q⟩ := h
  obtain ⟨t, rfl⟩ := rx
  obtain ⟨t', rfl⟩ := ry
  exact rule i j t t' s _ _ ⟨.bl (g i j), H, I, rfl, q⟩

def CDiv (i j : Int) : Prop := 0 < j ∧ j < 1073741824
def CDivN (i j : Int) : Prop := j ≠ 0 ∧ j.natAbs < 1073741824
def CPow (i j : Int) : Prop := 0 ≤ j ∧ j ≤ 1000000 ∧ i.natAbs < 2 ^ 64
def CMul (i j : Int) : Prop := (-(2 ^ 64) < i ∧ i < 2 ^ 64) ∨ (-(2 ^ 64) < j ∧ j < 2 ^ 64)
theorem CMul.ok {i j : Int} (h : CMul i j) : IntMulOk i j := by
  rcases h with ⟨h1, h2⟩ | ⟨h1, h2⟩
  · exact .of_left (intBits_le_64 h1 h2)
  · exact .of_right (intBits_le_64 h1 h2)
theorem two_pow_nn (k : Nat) : (0 : Int) ≤ 2 ^ k := by
  rw [two_pow_cast]
  exact Int.natCast_nonneg _

theorem op_add : OpR X (binaryOp .Add) (rI0 fun i j => .int (i + j)) := opI0 fun _ _ _ _ _ _ _ q => add_int q
theorem op_sub : OpR X (binaryOp .Sub) (rI0 fun i j => .int (i - j)) := opI0 fun _ _ _ _ _ _ _ q => sub_int q
theorem op_mul : OpR X (binaryOp .Mult) (rI CMul fun i j => .int (i * j)) := opI fun _ _ _ _ _ _ _ hc q => mul_int q hc.ok
/-- // by a positive divisor -/
theorem op_fdiv : OpR X (binaryOp .FloorDiv) (rI CDiv fun i j => .int (i / j)) := opI fun i j _ _ _ _ _ hc q => by
  have h1 : (0 : Int) < j := hc.1
  have h2 : j < 1073741824 := hc.2
  exact floordiv_int (by omega) (by rw [Int.fdiv_eq_ediv_of_nonneg i (by omega)]; exact q) (.inl (PyProof.noPylong_small (by omega)))
theorem op_fdivN : OpR X (binaryOp .FloorDiv) (rI CDivN fun i j => .int (i.fdiv j)) := opI fun _ _ _ _ _ _ _ hc q => floordiv_int hc.1 q (.inl (PyProof.noPylong_small hc.2))
/-- % by a positive divisor of any size -/
theorem op_mod : OpR X (binaryOp .Mod) (rI (fun _ j => 0 < j) fun i j => .int (i % j)) := opI fun i j _ _ _ _ _ hc q => by
  have h1 : (0 : Int) < j := hc
  exact mod_int' (by omega) (by rw [Int.fmod_eq_emod_of_nonneg i (by omega)]; exact q)
theorem op_modN : OpR X (binaryOp .Mod) (rI (fun _ j => j ≠ 0) fun i j => .int (i.fmod j)) := opI fun _ _ _ _ _ _ _ hc q => mod_int' hc q
theorem op_pow : OpR X (binaryOp .Pow) (rI CPow fun i j => .int (i ^ j.toNat)) := opI fun _ _ _ _ _ _ _ hc q => pow_int_small hc.1 hc.2.1 hc.2.2 q
theorem op_shl : OpR X (binaryOp .LShift) (rI CPow fun i j => .int (i * 2 ^ j.toNat)) := opI fun _ _ _ _ _ _ _ hc q => lshift_int_small hc.1 hc.2.1 hc.2.2 q
theorem op_shr : OpR X (binaryOp .RShift) (rI (fun _ j => 0 ≤ j) fun i j => .int (i / 2 ^ j.toNat)) := opI fun i j _ _ _ _ _ hc q =>
  rshift_int hc (by rw [Int.fdiv_eq_ediv_of_nonneg i (two_pow_nn _)]; exact q)
theorem op_and : OpR X (binaryOp .BitAnd) (rI0 fun i j => .int (Builtin.bitAnd i j)) := opI0 fun _ _ _ _ _ _ _ q => and_int q
theorem op_or : OpR X (binaryOp .BitOr) (rI0 fun i j => .int (Builtin.bitOr i j)) := opI0 fun _ _ _ _ _ _ _ q => or_int q
theorem op_xor : OpR X (binaryOp .BitXor) (rI0 fun i j => .int (Builtin.bitXor i j)) := opI0 fun _ _ _ _ _ _ _ q => xor_int q

theorem iop_add : OpR X (inplaceOp .Add) (rI0 fun i j => .int (i + j)) := opI0 fun _ _ _ _ _ _ _ q => iadd_int q
theorem iop_sub : OpR X (inplaceOp .Sub) (rI0 fun i j => .int (i - j)) := opI0 fun _ _ _ _ _ _ _ q => isub_int q
theorem iop_mul : OpR X (inplaceOp .Mult) (rI CMul fun i j => .int (i * j)) := opI fun _ _ _ _ _ _ _ hc q => imul_int q hc.ok
theorem iop_fdiv : OpR X (inplaceOp .FloorDiv) (rI CDiv fun i j => .int (i / j)) := opI fun i j _ _ _ _ _ hc q => by
  have h1 : (0 : Int) < j := hc.1
  have h2 : j < 1073741824 := hc.2
  exact ifloordiv_int (by omega) (by rw [Int.fdiv_eq_ediv_of_nonneg i (by omega)]; exact q) (.inl (PyProof.noPylong_small (by omega)))
theorem iop_mod : OpR X (inplaceOp .Mod) (rI (fun _ j => 0 < j) fun i j => .int (i % j)) := opI fun i j _ _ _ _ _ hc q => by
  have h1 : (0 : Int) < j := hc
  exact imod_int (by omega) (by rw [Int.fmod_eq_emod_of_nonneg i (by omega)]; exact q)
theorem iop_shl : OpR X (inplaceOp .LShift) (rI CPow fun i j => .int (i * 2 ^ j.toNat)) := opI fun _ _ _ _ _ _ _ hc q => ilshift_int_small hc.1 hc.2.1 hc.2.2 q
theorem iop_shr : OpR X (inplaceOp .RShift) (rI (fun _ j => 0 ≤ j) fun i j => .int (i / 2 ^ j.toNat)) := opI fun i j _ _ _ _ _ hc q =>
  irshift_int hc (by rw [Int.fdiv_eq_ediv_of_nonneg i (two_pow_nn _)]; exact q)
theorem iop_and : OpR X (inplaceOp .BitAnd) (rI0 fun i j => .int (Builtin.bitAnd i j)) := opI0 fun _ _ _ _ _ _ _ q => iand_int q
theorem iop_or : OpR X (inplaceOp .BitOr) (rI0 fun i j => .int (Builtin.bitOr i j)) := opI0 fun _ _ _ _ _ _ _ q => ior_int q
theorem iop_xor : OpR X (inplaceOp .BitXor) (rI0 fun i j => .int (Builtin.bitXor i j)) := opI0 fun _ _ _ _ _ _ _ q => ixor_int q

theorem unI {f : Value → Sem Value} {g : Int → Int}
    (rule : ∀ (i : Int) (t : Tok) (s : Shared) (Q : Value → Shared → Prop) (E : Value → Shared → Prop), Q (.int (g i) s.toks) { s with toks := s.toks + 1 } → wpAny (model X.prog X.w) X.A (f (.int i t)) Q E s) :
    UnR X f (rU fun i => .int (g i)) := by
  intro pins s σ H x v Q I rx h
  obtain ⟨i, rfl, q⟩ := h
  obtain ⟨t, rfl⟩ := rx
  exact rule i t s _ _ ⟨.int (g i), H, I.tok _, ⟨_, rfl⟩, q⟩
theorem un_neg : UnR X (unaryOp .USub) (rU fun i => .int (-i)) := unI fun _ _ _ _ _ q => neg_int q
theorem un_inv : UnR X (unaryOp .Invert) (rU fun i => .int (Builtin.bitNot i)) := unI fun _ _ _ _ _ q => invert_int q

/-! ### bools among ints: n += (a < b) -/
theorem op_add_ib : OpR X (binaryOp .Add) (fun x y H Q => ∃ i k, x = .int i ∧ y = .bl k ∧ Q (.int (i + b2i k)) H) := by
  intro pins s σ H x y v u Q I rx ry h
  obtain ⟨i, k, rfl, rfl, q⟩ := h
  obtain ⟨t, rfl⟩ := rx
  cases ry
  exact add_int_bool ⟨.int (i + b2i k), H, I.tok _, ⟨_, rfl⟩, q⟩
end

/-! ### comparisons -/
/-- the scalars that == tells apart as data does -/
def scal : V → V → Bool
  | .non, .non => true | .non, .int _ => true | .int _, .non => true | .non, .bl _ => true | .bl _, .non => true | .non, .str _ => true | .str _, .non => true
  | .int _, .int _ => true | .bl _, .bl _ => true | .str _, .str _ => true | .byt _, .byt _ => true
  | .int _, .str _ => true | .str _, .int _ => true | .bl _, .str _ => true | .str _, .bl _ => true
  | _, _ => false
def rEq : R2 := fun x y H Q => scal x y = true ∧ Q (.bl (decide (x = y))) H
def rNe : R2 := fun x y H Q => scal x y = true ∧ Q (.bl (!decide (x = y))) H

theorem dec_int {i j : Int} : decide (V.int i = V.int j) = (i == j) := by
  rw [Bool.eq_iff_iff]
  simp
theorem dec_bl {i j : Bool} : decide (V.bl i = V.bl j) = (i == j) := by
  rw [Bool.eq_iff_iff]
  simp
theorem dec_str {i j : Str} : decide (V.str i = V.str j) = (i == j) := by
  rw [Bool.eq_iff_iff]
  simp
theorem dec_byt {i j : Array UInt8} : decide (V.byt i = V.byt j) = (i.toList == j.toList) := by
  rw [Bool.eq_iff_iff]
  cases i
  cases j
  simp

section
variable {X : Cx} {a b c : Expr} {ta tb tc : TE} {pos : Pos}
theorem fin_bl {pins : List (Addr × Obj)} {σ : St} {H : Hp} {s : Shared} {Q : VK} {k k' : Bool} (I : Inv X pins σ H s) (q : Q (.bl k) H) (e : k = k') : EP X pins σ Q (.bool k') s := by
  subst e
  exact ⟨.bl k, H, I, rfl, q⟩
theorem op_eq : OpR X (compareOp .Eq) rEq := by
  intro pins s σ H x y v u Q I rx ry h
  obtain ⟨hs, q⟩ := h
  cases x with
  | non =>
    cases rx
    cases y with
    | non => cases ry; exact PySem.EqNone.eq_none_none (fin_bl I q (by simp))
    | bl j => cases ry; exact PySem.EqNone.eq_none_bool (fin_bl I q (by simp))
    | int j => obtain ⟨t', rfl⟩ := ry; exact PySem.EqNone.eq_none_int (fin_bl I q (by simp))
    | str j => obtain ⟨t', rfl⟩ := ry; exact PySem.EqNone.eq_none_str (fin_bl I q (by simp))
    | _ => exact absurd (show false = true from hs) Bool.false_ne_true
  | bl i =>
    cases rx
    cases y with
    | non => cases ry; exact PySem.EqNone.eq_bool_none (fin_bl I q (by simp))
    | bl j => cases ry; exact eq_bool (fin_bl I q dec_bl)
    | str j => obtain ⟨t', rfl⟩ := ry; exact PySem.EqMixed.eq_bool_str (fin_bl I q (by simp))
    | _ => exact absurd (show false = true from hs) Bool.false_ne_true
  | int i =>
    obtain ⟨t, rfl⟩ := rx
    cases y with
    | non => cases ry; exact PySem.EqNone.eq_int_none (fin_bl I q (by simp))
    | int j => obtain ⟨t', rfl⟩ := ry; exact eq_int (fin_bl I q dec_int)
    | str j => obtain ⟨t', rfl⟩ := ry; exact PySem.EqMixed.eq_int_str (fin_bl I q (by simp))
    | _ => exact absurd (show false = true from hs) Bool.false_ne_true
  | str i =>
    obtain ⟨t, rfl⟩ := rx
    cases y with
    | non => cases ry; exact PySem.EqNone.eq_str_none (fin_bl I q (by simp))
    | bl j => cases ry; exact PySem.EqMixed.eq_str_bool (fin_bl I q (by simp))
    | int j => obtain ⟨t', rfl⟩ := ry; exact PySem.EqMixed.eq_str_int (fin_bl I q (by simp))
    | str j => obtain ⟨t', rfl⟩ := ry; exact eq_str (fin_bl I q dec_str)
    | _ => exact absurd (show false = true from hs) Bool.false_ne_true
  | byt i =>
    obtain ⟨t, rfl⟩ := rx
    cases y with
    | byt j => obtain ⟨t', rfl⟩ := ry; exact PySem.W.eq_bytes (fin_bl I q dec_byt)
    | _ => exact absurd (show false = true from hs) Bool.false_ne_true
  | _ => cases y <;> exact absurd (show false = true from hs) Bool.false_ne_true
theorem op_ne : OpR X (compareOp .NotEq) rNe := by
  intro pins s σ H x y v u Q I rx ry h
  obtain ⟨hs, q⟩ := h
  cases x with
  | non =>
    cases rx
    cases y with
    | non => cases ry; exact PySem.EqNone.ne_none_none (fin_bl I q (by simp))
    | bl j => cases ry; exact PySem.EqNone.ne_none_bool (fin_bl I q (by simp))
    | int j => obtain ⟨t', rfl⟩ := ry; exact PySem.EqNone.ne_none_int (fin_bl I q (by simp))
    | str j => obtain ⟨t', rfl⟩ := ry; exact PySem.EqNone.ne_none_str (fin_bl I q (by simp))
    | _ => exact absurd (show false = true from hs) Bool.false_ne_true
  | bl i =>
    cases rx
    cases y with
    | non => cases ry; exact PySem.EqNone.ne_bool_none (fin_bl I q (by simp))
    | bl j => cases ry; exact ne_bool (fin_bl I q (congrArg not dec_bl))
    | str j => obtain ⟨t', rfl⟩ := ry; exact PySem.EqMixed.ne_bool_str (fin_bl I q (by simp))
    | _ => exact absurd (show false = true from hs) Bool.false_ne_true
  | int i =>
    obtain ⟨t, rfl⟩ := rx
    cases y with
    | non => cases ry; exact PySem.EqNone.ne_int_none (fin_bl I q (by simp))
    | int j => obtain ⟨t', rfl⟩ := ry; exact ne_int (fin_bl I q (congrArg not dec_int))
    | str j => obtain ⟨t', rfl⟩ := ry; exact PySem.EqMixed.ne_int_str (fin_bl I q (by simp))
    | _ => exact absurd (show false = true from hs) Bool.false_ne_true
  | str i =>
    obtain ⟨t, rfl⟩ := rx
    cases y with
    | non => cases ry; exact PySem.EqNone.ne_str_none (fin_bl I q (by simp))
    | bl j => cases ry; exact PySem.EqMixed.ne_str_bool (fin_bl I q (by simp))
    | int j => obtain ⟨t', rfl⟩ := ry; exact PySem.EqMixed.ne_str_int (fin_bl I q (by simp))
    | str j => obtain ⟨t', rfl⟩ := ry; exact ne_str (fin_bl I q (congrArg not dec_str))
    | _ => exact absurd (show false = true from hs) Bool.false_ne_true
  | byt i =>
    obtain ⟨t, rfl⟩ := rx
    cases y with
    | byt j => obtain ⟨t', rfl⟩ := ry; exact PySem.W.ne_bytes (fin_bl I q (congrArg not dec_byt))
    | _ => exact absurd (show false = true from hs) Bool.false_ne_true
  | _ => cases y <;> exact absurd (show false = true from hs) Bool.false_ne_true

theorem op_lt : OpR X (compareOp .Lt) (rI0 fun i j => .bl (decide (i < j))) := opB0 fun _ _ _ _ _ _ _ q => lt_int q
theorem op_le : OpR X (compareOp .LtE) (rI0 fun i j => .bl (decide (i ≤ j))) := opB0 fun _ _ _ _ _ _ _ q => le_int q
theorem op_gt : OpR X (compareOp .Gt) (rI0 fun i j => .bl (decide (j < i))) := opB0 fun _ _ _ _ _ _ _ q => gt_int q
theorem op_ge : OpR X (compareOp .GtE) (rI0 fun i j => .bl (decide (j ≤ i))) := opB0 fun _ _ _ _ _ _ _ q => ge_int q
theorem op_lt_str : OpR X (compareOp .Lt) (fun x y H Q => ∃ i j, x = .str i ∧ y = .str j ∧ Q (.bl (decide (i.cps.toList < j.cps.toList))) H) := by
  intro pins s σ H x y v u Q I rx ry h
  obtain ⟨i, j, rfl, rfl, q⟩ := h
  obtain ⟨t, rfl⟩ := rx
  obtain ⟨t', rfl⟩ := ry
  exact lt_str (fin_bl I q rfl)
/-- the one string within the other -/
theorem op_in_str : OpR X (compareOp .In) (fun x y H Q => ∃ i j, x = .str i ∧ y = .str j ∧ Q (.bl (!(Builtin.Str.occurrences j i 0 j.length 1).isEmpty)) H) := by
  intro pins s σ H x y v u Q I rx ry h
  obtain ⟨i, j, rfl, rfl, q⟩ := h
  obtain ⟨t, rfl⟩ := rx
  obtain ⟨t', rfl⟩ := ry
  exact in_str (fin_bl I q rfl)

/-- is None, is not None: the right side a value none -/
theorem op_isN : OpR X (compareOp .Is) (fun x y H Q => y = .non ∧ Q (.bl (decide (x = .non))) H) := by
  intro pins s σ H x y v u Q I rx ry h
  obtain ⟨rfl, q⟩ := h
  cases ry
  refine is_none_gen (fin_bl I q ?_)
  cases x <;> first
    | (cases rx; rfl)
    | (obtain ⟨t, rfl⟩ := rx; rfl)
theorem op_notN : OpR X (compareOp .IsNot) (fun x y H Q => y = .non ∧ Q (.bl (!decide (x = .non))) H) := by
  intro pins s σ H x y v u Q I rx ry h
  obtain ⟨rfl, q⟩ := h
  cases ry
  refine isnot_none_gen (fin_bl I q ?_)
  cases x <;> first
    | (cases rx; rfl)
    | (obtain ⟨t, rfl⟩ := rx; rfl)

theorem op_notin_str : OpR X (compareOp .NotIn) (fun x y H Q => ∃ i j, x = .str i ∧ y = .str j ∧ Q (.bl (!(!(Builtin.Str.occurrences j i 0 j.length 1).isEmpty))) H) := by
  intro pins s σ H x y v u Q I rx ry h
  obtain ⟨i, j, rfl, rfl, q⟩ := h
  obtain ⟨t, rfl⟩ := rx
  obtain ⟨t', rfl⟩ := ry
  exact notIn_str (fin_bl I q rfl)
/-- is, is not of two objects that are tracked lists or instances -/
def isObj : HO → Bool
  | .lst _ => true
  | .ins _ _ _ => true
  | _ => false
theorem obj_there {pins : List (Addr × Obj)} {s : Shared} {σ : St} {H : Hp} {a : Addr} {o : HO} (I : Inv X pins σ H s) (h : H a = some o) (p : isObj o = true) : ∃ ob, s.heap.get? a = some ob ∧ ob.cls ≠ .type "tuple" := by
  cases o with
  | lst xs =>
    obtain ⟨_, its, n, _, e⟩ : xs.length ≤ sizeLine ∧ ∃ (its : List Value) (n : Nat), Vals xs its ∧ s.heap.get? a = some { cls := .type "list", data := .seq its.toArray n } := I.hok a _ h
    exact ⟨_, e, (by show Value.type "list" ≠ .type "tuple"; decide +kernel)⟩
  | ins C dx fs =>
    have x := I.hok a _ h
    obtain ⟨_, _, _, e, _⟩ := x
    exact ⟨_, e, (by show Value.ref C ≠ .type "tuple"; exact fun z => by cases z)⟩
  | _ => exact absurd (show false = true from p) Bool.false_ne_true
theorem op_is_ref : OpR X (compareOp .Is) (fun x y H Q => ∃ a b oa ob, x = .ref a ∧ y = .ref b ∧ H a = some oa ∧ isObj oa = true ∧ H b = some ob ∧ isObj ob = true ∧ Q (.bl (decide (a = b))) H) := by
  intro pins s σ H x y v u Q I rx ry h
  obtain ⟨a, b, oa, ob, rfl, rfl, ha, pa, hb, pb, q⟩ := h
  cases rx
  cases ry
  obtain ⟨o1, e1, n1⟩ := obj_there I ha pa
  obtain ⟨o2, e2, _⟩ := obj_there I hb pb
  by_cases z : a = b
  · subst z
    exact wpAny_is_ref_self (fin_bl I q (by simp))
  · exact wpAny_is_ref_other z e1 e2 n1 (fin_bl I q (by simp [z]))
theorem op_isnot_ref : OpR X (compareOp .IsNot) (fun x y H Q => ∃ a b oa ob, x = .ref a ∧ y = .ref b ∧ H a = some oa ∧ isObj oa = true ∧ H b = some ob ∧ isObj ob = true ∧ Q (.bl (!decide (a = b))) H) := by
  intro pins s σ H x y v u Q I rx ry h
  obtain ⟨a, b, oa, ob, rfl, rfl, ha, pa, hb, pb, q⟩ := h
  cases rx
  cases ry
  obtain ⟨o1, e1, n1⟩ := obj_there I ha pa
  obtain ⟨o2, e2, _⟩ := obj_there I hb pb
  by_cases z : a = b
  · subst z
    exact wpAny_isNot_ref_self (fin_bl I q (by simp))
  · exact wpAny_isNot_ref_other z e1 e2 n1 (fin_bl I q (by simp [z]))

/-- two rules for one operation: by cases -/
theorem OpR.or {f : Value → Value → Sem Value} {r r' : R2} (h : OpR X f r) (h' : OpR X f r') : OpR X f (fun x y H Q => r x y H Q ∨ r' x y H Q) := by
  intro pins s σ H x y v u Q I rx ry q
  rcases q with q | q
  · exact h pins s σ H x y v u Q I rx ry q
  · exact h' pins s σ H x y v u Q I rx ry q

theorem nomark (b : Expr) {op : CmpOp} (h : op ≠ .In := by decide) (h2 : op ≠ .NotIn := by decide) : behindInMarks op b = false := by
  have e1 : (op == CmpOp.In) = false := by cases op <;> first | rfl | exact absurd rfl h
  have e2 : (op == CmpOp.NotIn) = false := by cases op <;> first | rfl | exact absurd rfl h2
  cases b <;> simp [behindInMarks, e1, e2]
/-- a comparison as a value; hm: nomark b, or (for in, not in) by with_unfolding_all rfl -/
theorem pe_cmpR {op : CmpOp} {r : R2} (ho : OpR X (compareOp op) r) (ha : PE X a ta) (hb : PE X b tb) (hm : behindInMarks op b = false) : PE X (.Compare a [op] [b] pos) (tOp r ta tb) := by
  intro pins s σ H Q I h
  exact wpAny_Compare1 (binT ha hb I h fun v u s2 x y H2 I2 rx ry q => ho pins s2 σ H2 x y v u Q I2 rx ry q) hm
/-- a reading of a value as a test -/
def tTest (t : TE) : TT := fun σ H Q => t σ H fun x H' => ∃ k, x = .bl k ∧ Q k H'
theorem pt_cmpR {op : CmpOp} {r : R2} (ho : OpR X (compareOp op) r) (ha : PE X a ta) (hb : PE X b tb) (hm : behindInMarks op b = false) : PT X (.Compare a [op] [b] pos) (tTest (tOp r ta tb)) := by
  intro pins s σ H Q I h
  refine wpAny_isTrue_Compare1 (thn (ha pins s σ H _ I h) fun v s1 ⟨x, H1, I1, r1, q1⟩ => thn (hb pins s1 σ H1 _ I1 q1) fun u s2 ⟨y, H2, I2, r2, q2⟩ =>
    thn (ho pins s2 σ H2 x y v u _ I2 r1 r2 q2) fun c s3 ⟨z, H3, I3, r3, k, e, q3⟩ => ?_) hm
  subst e
  cases r3
  exact wpAny_truthy_bool ⟨H3, I3, q3⟩
/-- a op1 b op2 c -/
def tChain (r r' : R2) (ta tb tc : TE) : TE := fun σ H Q => ta σ H fun x H1 => tb σ H1 fun y H2 => r x y H2 fun z H3 => ∃ k, z = .bl k ∧
  (if k = true then tc σ H3 fun w' H4 => r' y w' H4 Q else Q (.bl false) H3)
theorem pe_chain {op op' : CmpOp} {r r' : R2} (ho : OpR X (compareOp op) r) (ho' : OpR X (compareOp op') r') (ha : PE X a ta) (hb : PE X b tb) (hc : PE X c tc)
    (hm : lastMarks [op, op'] [b, c] = false := by with_unfolding_all rfl) : PE X (.Compare a [op, op'] [b, c] pos) (tChain r r' ta tb tc) := by
  intro pins s σ H Q I h
  refine Compare_chain (thn (ha pins s σ H _ I h) fun v s1 ⟨x, H1, I1, r1, q1⟩ => chain_link (thn (hb pins s1 σ H1 _ I1 q1) fun u s2 ⟨y, H2, I2, r2, q2⟩ =>
    thn (ho pins s2 σ H2 x y v u _ I2 r1 r2 q2) fun d s3 ⟨z, H3, I3, r3, k, e, q3⟩ => ?_)) hm
  subst e
  cases r3
  refine wpAny_truthy_bool ?_
  cases k with
  | false => exact ite_ff ⟨.bl false, H3, I3, rfl, q3⟩
  | true => exact ite_tt (chain_last (thn (hc pins s3 σ H3 _ I3 q3) fun w' s4 ⟨z', H4, I4, r4, q4⟩ => ho' pins s4 σ H4 y z' u w' Q I4 r2 r4 q4))
theorem pt_chain {op op' : CmpOp} {r r' : R2} (ho : OpR X (compareOp op) r) (ho' : OpR X (compareOp op') r') (ha : PE X a ta) (hb : PE X b tb) (hc : PE X c tc)
    (hm : lastMarks [op, op'] [b, c] = false := by with_unfolding_all rfl) : PT X (.Compare a [op, op'] [b, c] pos) (tTest (tChain r r' ta tb tc)) := by
  intro pins s σ H Q I h
  refine isTrue_chain (thn (ha pins s σ H _ I h) fun v s1 ⟨x, H1, I1, r1, q1⟩ => test_link (thn (hb pins s1 σ H1 _ I1 q1) fun u s2 ⟨y, H2, I2, r2, q2⟩ =>
    thn (ho pins s2 σ H2 x y v u _ I2 r1 r2 q2) fun d s3 ⟨z, H3, I3, r3, k, e, q3⟩ => ?_)) hm
  subst e
  cases r3
  refine wpAny_truthy_bool ?_
  cases k with
  | false =>
    obtain ⟨k', e', q'⟩ := q3
    cases e'
    exact ite_ff ⟨H3, I3, q'⟩
  | true =>
    refine ite_tt (test_last (thn (hc pins s3 σ H3 _ I3 q3) fun w' s4 ⟨z', H4, I4, r4, q4⟩ => thn (ho' pins s4 σ H4 y z' u w' _ I4 r2 r4 q4) fun d' s5 ⟨z2, H5, I5, r5, k2, e2, q5⟩ => ?_))
    subst e2
    cases r5
    exact wpAny_truthy_bool ⟨H5, I5, q5⟩

/-! ### truth -/
/-- a value's truth by the abstract heap -/
def TruV (K : PySem.W.Frag) (x : V) (H : Hp) (k : Bool) : Prop :=
  match x with
  | .non => k = false
  | .bl b => k = b
  | .int i => k = (i != 0)
  | .str y => y.length ≤ sizeLine ∧ k = ((y.length : Int) != 0)
  | .byt y => y.size ≤ sizeLine ∧ k = ((y.size : Int) != 0)
  | .ref p => (∃ xs, SqL K H p xs ∧ k = !xs.isEmpty) ∨ (∃ xs, SqT K H p xs ∧ k = !xs.isEmpty) ∨ ∃ kvs, H p = some (.dK kvs) ∧ k = !kvs.isEmpty
  | _ => False
theorem isEmpty_kv {κ : Type} {kvs : List (κ × V)} {vs : List (κ × Value)} (r : KV kvs vs) : (!vs.isEmpty) = !kvs.isEmpty := by
  cases r <;> rfl
theorem isEmpty_of {xs : List V} {its : List Value} (r : Vals xs its) : (!its.toArray.isEmpty) = !xs.isEmpty := by
  cases r <;> simp
theorem line63 : (sizeLine : Nat) < 2 ^ 63 := by rw [sizeLine_eq]; decide
theorem tru_ok : TruR X (fun x H Q => ∃ k, TruV X.K x H k ∧ Q k H) := by
  intro pins s σ H x v Q I rx h
  obtain ⟨k, e, q⟩ := h
  have hl := line63
  have hs : sizeLine = 16777216 := sizeLine_eq
  cases x with
  | non =>
    cases rx
    have e' : k = false := e
    subst e'
    exact truthy_none ⟨H, I, q⟩
  | bl b =>
    cases rx
    have e' : k = b := e
    subst e'
    exact wpAny_truthy_bool ⟨H, I, q⟩
  | int i =>
    obtain ⟨t, rfl⟩ := rx
    have e' : k = (i != 0) := e
    subst e'
    exact PySem.P.truthy_int ⟨H, I, q⟩
  | str y =>
    obtain ⟨t, rfl⟩ := rx
    obtain ⟨hy, e'⟩ : y.length ≤ sizeLine ∧ k = ((y.length : Int) != 0) := e
    subst e'
    exact PySem.P.truthy_str (by omega) ⟨H, I.tok _, q⟩
  | byt y =>
    obtain ⟨t, rfl⟩ := rx
    obtain ⟨hy, e'⟩ : y.size ≤ sizeLine ∧ k = ((y.size : Int) != 0) := e
    subst e'
    exact PySem.W.truthy_bytes (by omega) ⟨H, I.tok _, q⟩
  | ref p =>
    cases rx
    have e' : (∃ xs, SqL X.K H p xs ∧ k = !xs.isEmpty) ∨ (∃ xs, SqT X.K H p xs ∧ k = !xs.isEmpty) ∨ ∃ kvs, H p = some (.dK kvs) ∧ k = !kvs.isEmpty := e
    rcases e' with ⟨xs, hx, e'⟩ | ⟨xs, hx, e'⟩ | ⟨kvs, hx, e'⟩
    · subst e'
      obtain ⟨its, r, pl, hz⟩ := I.list hx
      have hlen := r.length
      exact wpAny_truthy_list pl.isList (by simp only [List.size_toArray]; omega) ⟨H, I.tok _, by rw [isEmpty_of r]; exact q⟩
    · subst e'
      obtain ⟨its, r, pl, hz⟩ := I.tuple hx
      have hlen := r.length
      exact truthy_tuple pl (by simp only [List.size_toArray]; omega) ⟨H, I.tok _, by rw [isEmpty_of r]; exact q⟩
    · subst e'
      obtain ⟨hz, hS, vs, r, m⟩ : kvs.length ≤ sizeLine ∧ (p == sysModules) = false ∧ ∃ vs, KV kvs vs ∧ s.heap.DictOf (mixKind X.prog X.w) p vs := I.hok p _ hx
      have hlen : kvs.length = vs.length := Paired.length r
      exact wpAny_truthy_dict hS m (by omega) ⟨H, I.tok _, by rw [isEmpty_kv r]; exact q⟩
  | _ => exact (show False from e).elim
/-- any expression whose test is its value's truth (a name, a call, a subscript, a field ..: he by fun _ => rfl) -/
theorem pt_truth (ha : PE X a ta) (he : ∀ whole, isTrue a X.env whole = (do let v ← whole; standAt a.pos; holding [v] (truthy v))) :
    PT X a (fun σ H Q => ta σ H fun x H' => ∃ k, TruV X.K x H' k ∧ Q k H') := by
  intro pins s σ H Q I h
  exact isTrue_plain (thn (ha pins s σ H _ I h) fun v s1 ⟨x, H1, I1, r1, q1⟩ => tru_ok pins s1 σ H1 x v Q I1 r1 q1) (he _)

/-! ### strs and bytes -/
theorem pe_byt {x : List UInt8} {k : Nat} : PE X (.Constant (.bytes x) k pos) (fun _ H Q => Q (.byt x.toArray) H) := fun _ _ _ H _ I h => PySem.W.Constant_bytes ⟨.byt x.toArray, H, I.tok _, ⟨_, rfl⟩, h⟩
theorem op_add_str : OpR X (binaryOp .Add) (fun x y H Q => ∃ i j, x = .str i ∧ y = .str j ∧ i.length + j.length ≤ sizeLine ∧ Q (.str (i ++ j)) H) := by
  intro pins s σ H x y v u Q I rx ry h
  obtain ⟨i, j, rfl, rfl, hz, q⟩ := h
  obtain ⟨t, rfl⟩ := rx
  obtain ⟨t', rfl⟩ := ry
  exact add_str (fun t' tk => ⟨.str (i ++ j), H, I.tok _, ⟨_, rfl⟩, q⟩) hz
theorem iop_add_str : OpR X (inplaceOp .Add) (fun x y H Q => ∃ i j, x = .str i ∧ y = .str j ∧ i.length + j.length ≤ sizeLine ∧ Q (.str (i ++ j)) H) := by
  intro pins s σ H x y v u Q I rx ry h
  obtain ⟨i, j, rfl, rfl, hz, q⟩ := h
  obtain ⟨t, rfl⟩ := rx
  obtain ⟨t', rfl⟩ := ry
  exact iadd_str (fun t' tk => ⟨.str (i ++ j), H, I.tok _, ⟨_, rfl⟩, q⟩) hz
theorem op_add_byt : OpR X (binaryOp .Add) (fun x y H Q => ∃ i j, x = .byt i ∧ y = .byt j ∧ i.size + j.size ≤ 16777216 ∧ Q (.byt (i ++ j)) H) := by
  intro pins s σ H x y v u Q I rx ry h
  obtain ⟨i, j, rfl, rfl, hz, q⟩ := h
  obtain ⟨t, rfl⟩ := rx
  obtain ⟨t', rfl⟩ := ry
  exact PySem.W.KBy.add_bytes hz (fun t' tk => ⟨.byt (i ++ j), H, I.tok _, ⟨_, rfl⟩, q⟩)

def PlainIxT (b : Expr) : Prop := ∀ o i, subscripted b false o i = operate [o, i] (getItem o i)
/-- s[i], 0 ≤ i < len -/
theorem pe_item_str (ha : PE X a ta) (hb : PE X b tb) (hs : PlainIxT b) :
    PE X (.Subscript a b pos) (tOp (fun x y H Q => ∃ z i c, x = .str z ∧ y = .int i ∧ 0 ≤ i ∧ i < 2 ^ 63 ∧ i < z.length ∧ z.cps[i.toNat]? = some c ∧ Q (.str ⟨#[c]⟩) H) ta tb) := by
  intro pins s σ H Q I h
  refine Subscript_ (binT ha hb I h fun v u s2 x y H2 I2 rx ry q => ?_)
  obtain ⟨z, i, c, rfl, rfl, h0, h63, h1, hc, q⟩ := q
  obtain ⟨t, rfl⟩ := rx
  obtain ⟨t', rfl⟩ := ry
  have e : seqIndex? i z.length = some i.toNat := PySem.StrLaws.seqIndex_nonneg h0 h1
  exact tail_any (typeIs_str s2 z t) slot_str_getitem.lookup (getItem_str (c := c) (by
    have e1 : decide (i < -(2 ^ 63 : Int)) = false := decide_eq_false (by omega)
    have e2 : decide (i ≥ 2 ^ 63) = false := decide_eq_false (by omega)
    rw [e1, e2] <;> rfl) (by rw [e]; exact hc) ⟨.str ⟨#[c]⟩, H2, I2.tok _, ⟨_, rfl⟩, q⟩) (hs _ _)
/-- b[i], 0 ≤ i < len -/
theorem pe_item_byt (ha : PE X a ta) (hb : PE X b tb) (hs : PlainIxT b) :
    PE X (.Subscript a b pos) (tOp (fun x y H Q => ∃ (z : List UInt8) (i : Int), x = .byt z.toArray ∧ y = .int i ∧ z.length ≤ sizeLine ∧ 0 ≤ i ∧ i < z.length ∧ Q (.int ((z.getD i.toNat 0).toNat : Nat)) H) ta tb) := by
  intro pins s σ H Q I h
  refine Subscript_ (binT ha hb I h fun v u s2 x y H2 I2 rx ry q => ?_)
  obtain ⟨z, i, rfl, rfl, hz, h0, h1, q⟩ := q
  obtain ⟨t, rfl⟩ := rx
  obtain ⟨t', rfl⟩ := ry
  have hl : sizeLine = 16777216 := sizeLine_eq
  exact tail_any (PySem.W.typeIs_bytes s2 z.toArray t) PySem.W.FB.slot_bytes_getitem.lookup (PySem.W.getItem_bytes (by omega) h0 h1 ⟨.int ((z.getD i.toNat 0).toNat : Nat), H2, I2.tok _, ⟨_, rfl⟩, q⟩) (hs _ _)

/-! ### scalar builtins, by CallR -/
theorem vals1 {x : V} {us : List Value} (r : Vals [x] us) : ∃ u, us = [u] ∧ RelV x u := by
  cases r with
  | cons r1 r2 => cases r2; exact ⟨_, rfl, r1⟩
theorem vals2 {x y : V} {us : List Value} (r : Vals [x, y] us) : ∃ u w', us = [u, w'] ∧ RelV x u ∧ RelV y w' := by
  cases r with
  | cons r1 r2 =>
    cases r2 with
    | cons r3 r4 => cases r4; exact ⟨_, _, rfl, r1, r3⟩
theorem call_abs : CallR X (.builtin "abs") (fun xs H Q => ∃ i, xs = [.int i] ∧ Q (.int (if i < 0 then -i else i)) H) := by
  intro pins s σ H xs us Q I r h
  obtain ⟨i, rfl, q⟩ := h
  obtain ⟨u, rfl, t, rfl⟩ := vals1 r
  exact call_abs_int fun u tk => ⟨.int (if i < 0 then -i else i), H, I.tok _, ⟨_, rfl⟩, q⟩
theorem call_max2 (hc : X.calm = true) : CallR X (.builtin "max") (fun xs H Q => ∃ i j, xs = [.int i, .int j] ∧ Q (.int (if j > i then j else i)) H) := by
  intro pins s σ H xs us Q I r h
  obtain ⟨i, j, rfl, q⟩ := h
  obtain ⟨u, w', rfl, ⟨t, rfl⟩, ⟨t', rfl⟩⟩ := vals2 r
  refine max_two_ints (I.ok.hd hc) fun h' tk k => ⟨_, H, I.kept k, ?_, q⟩
  by_cases hj : j > i
  · rw [if_pos hj, if_pos hj]; exact ⟨_, rfl⟩
  · rw [if_neg hj, if_neg hj]; exact ⟨_, rfl⟩
theorem call_min2 (hc : X.calm = true) : CallR X (.builtin "min") (fun xs H Q => ∃ i j, xs = [.int i, .int j] ∧ Q (.int (if j < i then j else i)) H) := by
  intro pins s σ H xs us Q I r h
  obtain ⟨i, j, rfl, q⟩ := h
  obtain ⟨u, w', rfl, ⟨t, rfl⟩, ⟨t', rfl⟩⟩ := vals2 r
  refine min_two_ints (I.ok.hd hc) fun h' tk k => ⟨_, H, I.kept k, ?_, q⟩
  by_cases hj : j < i
  · rw [if_pos hj, if_pos hj]; exact ⟨_, rfl⟩
  · rw [if_neg hj, if_neg hj]; exact ⟨_, rfl⟩
theorem call_int1 : CallR X (.type "int") (fun xs H Q => (∃ i, xs = [.int i] ∧ Q (.int i) H) ∨ ∃ k, xs = [.bl k] ∧ Q (.int (if k then 1 else 0)) H) := by
  intro pins s σ H xs us Q I r h
  rcases h with ⟨i, rfl, q⟩ | ⟨k, rfl, q⟩
  · obtain ⟨u, rfl, t, rfl⟩ := vals1 r
    exact call_int_int ⟨.int i, H, I, ⟨_, rfl⟩, q⟩
  · obtain ⟨u, rfl, r1⟩ := vals1 r
    cases r1
    exact call_int_bool ⟨.int (if k then 1 else 0), H, I.tok _, ⟨_, rfl⟩, q⟩
theorem call_bool1 : CallR X (.type "bool") (fun xs H Q => (∃ i, xs = [.int i] ∧ Q (.bl (i != 0)) H) ∨ ∃ k, xs = [.bl k] ∧ Q (.bl k) H) := by
  intro pins s σ H xs us Q I r h
  rcases h with ⟨i, rfl, q⟩ | ⟨k, rfl, q⟩
  · obtain ⟨u, rfl, t, rfl⟩ := vals1 r
    exact call_bool_int ⟨.bl (i != 0), H, I, rfl, q⟩
  · obtain ⟨u, rfl, r1⟩ := vals1 r
    cases r1
    exact call_bool_bool ⟨.bl k, H, I, rfl, q⟩
theorem call_str_int : CallR X (.type "str") (fun xs H Q => ∃ i, xs = [.int i] ∧ i.natAbs.log2 < 1920 ∧ Q (.str (toString i)) H) := by
  intro pins s σ H xs us Q I r h
  obtain ⟨i, rfl, hz, q⟩ := h
  obtain ⟨u, rfl, t, rfl⟩ := vals1 r
  exact PySem.P.str_of_int hz ⟨.str _, H, I.tok _, ⟨_, rfl⟩, q⟩
theorem call_ord : CallR X (.builtin "ord") (fun xs H Q => ∃ x, xs = [.str x] ∧ x.length = 1 ∧ Q (.int (x.cps.getD 0 0 : Nat)) H) := by
  intro pins s σ H xs us Q I r h
  obtain ⟨x, rfl, hz, q⟩ := h
  obtain ⟨u, rfl, t, rfl⟩ := vals1 r
  exact ord_of_one hz ⟨.int _, H, I.tok _, ⟨_, rfl⟩, q⟩
theorem call_chr : CallR X (.builtin "chr") (fun xs H Q => ∃ i, xs = [.int i] ∧ 0 ≤ i ∧ i ≤ 1114111 ∧ Q (.str ⟨#[i.toNat]⟩) H) := by
  intro pins s σ H xs us Q I r h
  obtain ⟨i, rfl, h0, h1, q⟩ := h
  obtain ⟨u, rfl, t, rfl⟩ := vals1 r
  exact chr_of_range h0 h1 ⟨.str _, H, I.tok _, ⟨_, rfl⟩, q⟩
/-- len of a str, a bytes, a list, a tuple -/
def LenV (K : PySem.W.Frag) (x : V) (H : Hp) (n : Nat) : Prop :=
  match x with
  | .str y => y.length ≤ sizeLine ∧ n = y.length
  | .byt y => y.size ≤ sizeLine ∧ n = y.size
  | .ref p => (∃ xs, SqL K H p xs ∧ n = xs.length) ∨ ∃ xs, SqT K H p xs ∧ n = xs.length
  | _ => False
theorem call_len : CallR X (.builtin "len") (fun xs H Q => ∃ x n, xs = [x] ∧ LenV X.K x H n ∧ Q (.int n) H) := by
  intro pins s σ H xs us Q I r h
  obtain ⟨x, n, rfl, e, q⟩ := h
  obtain ⟨u, rfl, rx⟩ := vals1 r
  have hl := line63
  have hs : sizeLine = 16777216 := sizeLine_eq
  cases x with
  | str y =>
    obtain ⟨t, rfl⟩ := rx
    obtain ⟨hy, e'⟩ : y.length ≤ sizeLine ∧ n = y.length := e
    subst e'
    exact len_str (by omega) ⟨.int _, H, I.tok _, ⟨_, rfl⟩, q⟩
  | byt y =>
    obtain ⟨t, rfl⟩ := rx
    obtain ⟨hy, e'⟩ : y.size ≤ sizeLine ∧ n = y.size := e
    subst e'
    exact PySem.W.len_bytes (by omega) ⟨.int _, H, I.tok _, ⟨_, rfl⟩, q⟩
  | ref p =>
    cases rx
    have e' : (∃ xs, SqL X.K H p xs ∧ n = xs.length) ∨ ∃ xs, SqT X.K H p xs ∧ n = xs.length := e
    rcases e' with ⟨xs, hx, e'⟩ | ⟨xs, hx, e'⟩
    · subst e'
      obtain ⟨its, r', pl, hz⟩ := I.list hx
      have hlen := r'.length
      exact Calls.call_len_list pl.isList (by simp only [List.size_toArray]; omega) ⟨.int xs.length, H, I.tok _, ⟨_, by simp only [List.size_toArray]; rw [hlen]⟩, q⟩
    · subst e'
      obtain ⟨its, r', pl, hz⟩ := I.tuple hx
      have hlen := r'.length
      exact len_tuple pl (by simp only [List.size_toArray]; omega) ⟨.int xs.length, H, I.tok _, ⟨_, by simp only [List.size_toArray]; rw [hlen]⟩, q⟩
  | _ => exact (show False from e).elim
/-- divmod: a new tuple -/
theorem call_divmod : CallR X (.builtin "divmod") (fun xs H Q => ∃ i j, xs = [.int i, .int j] ∧ CDiv i j ∧ ∀ p, H p = none → Q (.ref p) (upd H p (.tup [.int (i / j), .int (i % j)]))) := by
  intro pins s σ H xs us Q I r h
  obtain ⟨i, j, rfl, ⟨h1, h2⟩, q⟩ := h
  obtain ⟨u, w', rfl, ⟨t, rfl⟩, ⟨t', rfl⟩⟩ := vals2 r
  refine divmod_int (by omega) ?_ (.inl (PyProof.noPylong_small (by omega)))
  rw [Int.fdiv_eq_ediv_of_nonneg i (by omega), Int.fmod_eq_emod_of_nonneg i (by omega)]
  have hn : H s.heap.objs.size = none := I.hok.fresh (Nat.le_refl _)
  refine ⟨.ref s.heap.objs.size, _, ?_, rfl, q _ hn⟩
  refine I.laid (fun b o e => Heap.get?_push_of_some _ e) (Nat.le_refl _) ⟨by simp only [List.length_cons, List.length_nil]; rw [sizeLine_eq]; decide, [.int (i / j) s.toks, .int (i % j) (s.toks + 1)], .cons ⟨_, rfl⟩ (.cons ⟨_, rfl⟩ .nil), ?_⟩
  exact ⟨_, Heap.get?_push_size s.heap rfl, rfl, 0, rfl⟩
end
end L2

namespace L2
open PySem PySem.Spec PyProof.Rows

/-! ### an instance, its attributes a map -/
structure ObjM (h : Heap) (x dx C : Addr) (mA : Str → Option Value) : Prop where
  obj : h.get? x = some (PySem.W.instObj C dx)
  ns : h.Ns1 dx mA
  ne : dx ≠ x

theorem lookIn_ns {h : Heap} {dx : Addr} {mA : Str → Option Value} (n : h.Ns1 dx mA) : ∃ od, h.get? dx = some od ∧ ∀ name, PySem.W.lookIn name od = some (mA name) := by
  obtain ⟨o, es, ep, ho, hd, hk, _, hm⟩ := n
  refine ⟨o, ho, fun name => ?_⟩
  have e := hm name
  unfold nsFind findBy at e
  rw [← Array.find?_toList] at e
  unfold PySem.W.lookIn
  rw [hd]
  dsimp only
  split
  · rename_i y q
    rw [q] at e
    exact congrArg some e
  · rename_i q
    rw [q] at e
    have a : es.toList.any (·.refKey) = false := by
      rw [List.any_eq_false]
      intro y hy
      obtain ⟨z, t, hkey⟩ := hk y (Array.mem_toList_iff.mp hy)
      simp [DictEntry.refKey, hkey]
    have a' : ¬ es.toList.any (·.refKey) = true := by rw [a]; exact Bool.false_ne_true
    rw [if_neg a']
    exact congrArg some e

theorem ObjM.look {h : Heap} {x dx C : Addr} {mA : Str → Option Value} (I : ObjM h x dx C mA) : ∃ od, PySem.W.InstAt h x (PySem.W.instObj C dx) C (some od) ∧ ∀ name, PySem.W.lookIn name od = some (mA name) :=
  let ⟨od, ho, hl⟩ := lookIn_ns I.ns
  ⟨od, ⟨I.obj, rfl, rfl, ho⟩, hl⟩

section
variable {prog : Program} {w : World} {A : Around} {E : Value → Shared → Prop} {s : Shared} {K : PySem.W.Frag} {x dx C f : Addr} {mA : Str → Option Value} {name : Str} {v : Value}

theorem get_map {expr : Bool} {Q : Value → Shared → Prop} (X : K.In s.heap) (I : ObjM s.heap x dx C mA) (hg : PySem.W.plainGet K C name = true) (hh : PySem.W.hasDictIn K C = true)
    (ha : PySem.W.findIn K (.ref C) name = some none) (hv : mA name = some v) (hv' : PySem.W.handedIn v = true) (h : Q v { s with toks := s.toks + 1 }) :
    wpAny (model prog w) A (getAttr (.ref x) name expr) Q E s := by
  obtain ⟨od, J, hl⟩ := I.look
  exact PySem.W.get_value X J (PySem.W.plainGet_of hg).1 (PySem.W.findObj_own hh ha rfl (by rw [hl, hv])) hv' h

theorem get_const {expr : Bool} {a : Value} {Q : Value → Shared → Prop} (X : K.In s.heap) (I : ObjM s.heap x dx C mA) (hg : PySem.W.plainGet K C name = true) (hh : PySem.W.hasDictIn K C = true)
    (ha : PySem.W.findIn K (.ref C) name = some (some a)) (hn : PySem.W.specialIn K a "__get__" = some none) (hc : PySem.W.copiedNames.contains name = false) (hv : mA name = none) (hv' : PySem.W.handedIn a = true)
    (h : Q a { s with toks := s.toks + 1 }) : wpAny (model prog w) A (getAttr (.ref x) name expr) Q E s := by
  obtain ⟨od, J, hl⟩ := I.look
  exact PySem.W.get_value X J (PySem.W.plainGet_of hg).1 (PySem.W.findObj_cls hh ha hn hv' hc (by rw [hl, hv])) hv' h

theorem get_meth {pl : Sem Bool} {Q : Value × List Value → Shared → Prop} (X : K.In s.heap) (I : ObjM s.heap x dx C mA) (hg : PySem.W.plainGet K C name = true)
    (hf : PySem.W.findIn K (.ref C) name = some (some (.ref f))) (ht : PySem.W.isFn K (.ref f) = true) (hv : mA name = none) (h : Q (.ref f, [.ref x]) s) :
    wpAny (model prog w) A (getMethod (.ref x) name pl) Q E s := by
  obtain ⟨od, J, hl⟩ := I.look
  exact PySem.W.method_fn X J (PySem.W.plainGet_of hg).1 (PySem.W.plainGet_of hg).2 hf (beq_iff_eq.mp ht) (by show (PySem.W.lookIn name od).map (·.isSome) = some false; rw [hl, hv]; rfl) h

theorem set_map {ns : List Str} {Q : Unit → Shared → Prop} (X : K.In s.heap) (I : ObjM s.heap x dx C mA)
    (hs : PySem.W.findIn K (.ref C) "__setattr__" = some (some (.builtin "object.__setattr__"))) (hp : PySem.W.plainOver K C = true) (ht : PySem.W.takerIn K C name = some none) (hh : PySem.W.hasDictIn K C = true)
    (hw : PySem.Within mA ns) (hsz : ns.length ≤ sizeLine)
    (h : ∀ h', ObjM h' x dx C (fun y => if y = name then some v else mA y) → Heap.SameBut dx s.heap h' → Q () { s with heap := h', toks := s.toks + 2 }) :
    wpAny (model prog w) A (setAttr (.ref x) name v) Q E s := by
  obtain ⟨od, J, hl⟩ := I.look
  refine PySem.W.set_plain X J hs (PySem.W.osa_open (s := { s with toks := s.toks + 1 }) (r := none) X J hp ht fun b => ?_)
  obtain ⟨cd, hc, hd'⟩ := PySem.W.any_some hh
  have hx : s.heap.get? x = some ⟨.ref C, some dx, .plain, #[]⟩ := I.obj
  refine wpAny_bind (wpAny_pure (wpAny_bind (wpAny_bind (wpAny_loadPart hx (wpAny_bind (PySem.W.Looks.here (s := { s with toks := s.toks + 1 }) (PySem.W.looks_clsIn X hc) ?_))))))
  rw [hd']
  refine wpAny_pure (a := some dx) (wpAny_bind (wpAny_pure (wpAny_bind ?_)))
  refine wpAny_nsSet1 (s := { s with toks := s.toks + 1 }) I.ns fun h' hn2 hs2 => ?_
  obtain ⟨oD, esD, epD, hoD, hdD, hcD⟩ := hn2.count (PySem.Within.cons name v hw)
  refine wpAny_bind (wpAny_lookBehind hoD (by rw [hdD]; exact pastItsLine_dict (Nat.le_trans hcD (by rw [List.length_cons]; omega))) ?_)
  exact wpAny_pure (h _ ⟨(hs2.2 _ (Ne.symm I.ne)).trans I.obj, hn2, I.ne⟩ hs2)

/-- C(..): the dict at the heap's end, the instance behind it; then its __init__ -/
theorem make_map {R : Result → Shared → Prop} {vs : List Value} {kw : List (Str × Value)} (X : K.In s.heap) (hm : PySem.W.makesIn K C = true)
    (hi : PySem.W.findIn K (.ref C) "__init__" = some (some (.ref f))) (hf : PySem.W.typeIn K (.ref f) = some (.type "function"))
    (h : codeAny (model prog w) (A.under (.builtin "type.__call__" ⟨.ref C :: vs, kw⟩)) (.call (.ref f) ⟨.ref (s.heap.objs.size + 1) :: vs, kw⟩) (PySem.W.InitBack (s.heap.objs.size + 1) R)
      { s with heap := (s.heap.push PySem.W.emptyDict).push (PySem.W.instObj C s.heap.objs.size) }) :
    codeAny (model prog w) A (.call (.ref C) ⟨vs, kw⟩) R s := by
  obtain ⟨hh, g, d, t, os⟩ := s
  exact PySem.W.make_core (PySem.W.makes_of X hm) (PySem.W.looks_findIn X hi) (fun self => PySem.W.bind_fn X self hf) (.inl rfl) h
/-- C() where there is no __init__ but object's -/
theorem make_map0 {R : Result → Shared → Prop} (X : K.In s.heap) (hm : PySem.W.makesIn K C = true)
    (hi : PySem.W.findIn K (.ref C) "__init__" = some (some (.builtin "object.__init__")))
    (hb : ∀ self, PySem.W.Looks (model prog w) s.heap (bindSpecial (.builtin "object.__init__") self) (.builtin "object.__init__", [self]))
    (h : codeAny (model prog w) (A.under (.builtin "type.__call__" ⟨[.ref C], []⟩)) (.call (.builtin "object.__init__") ⟨[.ref (s.heap.objs.size + 1)], []⟩) (PySem.W.InitBack (s.heap.objs.size + 1) R)
      { s with heap := (s.heap.push PySem.W.emptyDict).push (PySem.W.instObj C s.heap.objs.size) }) :
    codeAny (model prog w) A (.call (.ref C) ⟨[], []⟩) R s := by
  obtain ⟨hh, g, d, t, os⟩ := s
  exact PySem.W.make_core (PySem.W.makes_of X hm) (PySem.W.looks_findIn X hi) hb (.inr ⟨rfl, rfl⟩) h
end

/-! ### the attributes as a list of pairs -/
def putF (f : Str) (v : V) : List (Str × V) → List (Str × V)
  | [] => [(f, v)]
  | (g, x) :: r => if g = f then (g, v) :: r else (g, x) :: putF f v r
theorem lookup_putF (f g : Str) (v : V) : ∀ fs : List (Str × V), (putF f v fs).lookup g = if g = f then some v else fs.lookup g
  | [] => by
    show List.lookup g [(f, v)] = _
    by_cases h : g = f
    · have hb : (g == f) = true := beq_iff_eq.mpr h
      simp only [List.lookup, hb, if_pos h]
    · have hb : (g == f) = false := beq_eq_false_iff_ne.mpr h
      simp only [List.lookup, hb, if_neg h]
  | (k, x) :: r => by
    have ih := lookup_putF f g v r
    rw [show putF f v ((k, x) :: r) = (if k = f then (k, v) :: r else (k, x) :: putF f v r) from rfl]
    by_cases hk : k = f
    · rw [if_pos hk]
      by_cases h : g = k
      · have hb : (g == k) = true := beq_iff_eq.mpr h
        simp only [List.lookup, hb, if_pos (h.trans hk)]
      · have hb : (g == k) = false := beq_eq_false_iff_ne.mpr h
        simp only [List.lookup, hb, if_neg (fun e : g = f => h (e.trans hk.symm))]
    · rw [if_neg hk]
      by_cases h : g = k
      · have hb : (g == k) = true := beq_iff_eq.mpr h
        simp only [List.lookup, hb, if_neg (fun e : g = f => hk (h.symm.trans e))]
      · have hb : (g == k) = false := beq_eq_false_iff_ne.mpr h
        simp only [List.lookup, hb]
        exact ih
theorem keys_putF (f : Str) (v : V) : ∀ fs : List (Str × V), f ∈ (putF f v fs).map (·.1) ∧ ∀ g, g ∈ fs.map (·.1) → g ∈ (putF f v fs).map (·.1)
  | [] => ⟨by simp [putF], fun g h => by simp at h⟩
  | (k, x) :: r => by
    obtain ⟨i1, i2⟩ := keys_putF f v r
    rw [show putF f v ((k, x) :: r) = (if k = f then (k, v) :: r else (k, x) :: putF f v r) from rfl]
    by_cases hk : k = f
    · rw [if_pos hk]
      subst hk
      exact ⟨by simp, fun g h => by simpa using h⟩
    · rw [if_neg hk]
      refine ⟨?_, fun g h => ?_⟩
      · rw [List.map_cons]
        exact List.mem_cons_of_mem _ i1
      · rw [List.map_cons] at h ⊢
        rcases List.mem_cons.mp h with e | e
        · exact List.mem_cons.mpr (.inl e)
        · exact List.mem_cons_of_mem _ (i2 g e)
theorem length_putF (f : Str) (v : V) : ∀ fs : List (Str × V), (putF f v fs).length ≤ fs.length + 1
  | [] => by simp [putF]
  | (k, x) :: r => by
    have ih := length_putF f v r
    rw [show putF f v ((k, x) :: r) = (if k = f then (k, v) :: r else (k, x) :: putF f v r) from rfl]
    by_cases hk : k = f
    · rw [if_pos hk, List.length_cons, List.length_cons]; omega
    · rw [if_neg hk, List.length_cons, List.length_cons]; omega

theorem RelO.some_of {v : V} {o : Option Value} (r : RelO (some v) o) : ∃ u, o = some u ∧ RelV v u := by
  cases o with
  | none => exact (show False from r).elim
  | some u => exact ⟨u, rfl, r⟩
theorem RelO.none_of {o : Option Value} (r : RelO none o) : o = none := by
  cases o with
  | none => rfl
  | some u => exact (show False from r).elim
theorem handed_of {v : V} {u : Value} (r : RelV v u) : PySem.W.handedIn u = true := by
  cases v with
  | non => cases (show u = Value.none from r); rfl
  | bl b => cases (show u = Value.bool b from r); rfl
  | int i => obtain ⟨t, e⟩ := (show ∃ t, u = Value.int i t from r); cases e; rfl
  | str x => obtain ⟨t, e⟩ := (show ∃ t, u = Value.str x t from r); cases e; rfl
  | byt b => obtain ⟨t, e⟩ := (show ∃ t, u = Value.bytes b t from r); cases e; rfl
  | flt b => obtain ⟨t, e⟩ := (show ∃ t, u = Value.float b t from r); cases e; rfl
  | ref a => cases (show u = Value.ref a from r); rfl
  | ty n => cases (show u = Value.type n from r); rfl

section
variable {P : Program} {w : World} {H H' : Hp} {h h' : Heap} {a C dx : Addr} {fs fs' : List (Str × V)}
theorem ins_get (hok : HOk P w H h) (e : H a = some (.ins C dx fs)) : ∃ mA, ObjM h a dx C mA ∧ (∀ f, RelO (fs.lookup f) (mA f)) ∧ PySem.Within mA (fs.map (·.1)) ∧ fs.length ≤ 1000 ∧ H dx = some (.own a) := by
  obtain ⟨d, z, ne, ob, mA, n, r, q⟩ := (show ObjOk P w H h a (.ins C dx fs) from hok a _ e)
  exact ⟨mA, ⟨ob, n, ne⟩, r, q, z, d⟩
end

/-! ### what of the text a class must have -/
structure Cls (K : PySem.W.Frag) (C : Addr) : Prop where
  pg : PySem.W.plainGet K C Str.empty = true
  hd : PySem.W.hasDictIn K C = true
  po : PySem.W.plainOver K C = true
  sa : PySem.W.findIn K (.ref C) "__setattr__" = some (some (.builtin "object.__setattr__"))
theorem Cls.get {K : PySem.W.Frag} {C : Addr} (c : Cls K C) (f : Str) : PySem.W.plainGet K C f = true := c.pg
/-- no class of it has the name -/
def NoAttr (K : PySem.W.Frag) (C : Addr) (f : Str) : Prop := PySem.W.findIn K (.ref C) f = some none
theorem NoAttr.taker {K : PySem.W.Frag} {C : Addr} {f : Str} (n : NoAttr K C f) : PySem.W.takerIn K C f = some none := by
  unfold PySem.W.takerIn
  rw [show PySem.W.findIn K (.ref C) f = some none from n]
  rfl
/-- a constant of the class -/
structure Con (K : PySem.W.Frag) (C : Addr) (f : Str) (v : V) (u : Value) : Prop where
  at_ : PySem.W.findIn K (.ref C) f = some (some u)
  rel : RelV v u
  get : PySem.W.specialIn K u "__get__" = some none
  cp : PySem.W.copiedNames.contains f = false
/-- a method: a plain def of the class or of one above it -/
structure Meth (K : PySem.W.Frag) (C : Addr) (m : Str) (f : Addr) : Prop where
  at_ : PySem.W.findIn K (.ref C) m = some (some (.ref f))
  fn : PySem.W.isFn K (.ref f) = true
  kp : PySem.W.keepIn K (.ref f) = true

section
variable {X : Cx} {pins : List (Addr × Obj)} {σ : St} {H : Hp} {s : Shared} {a C dx : Addr} {fs : List (Str × V)} {f : Str} {v : V} {A : Around} {E : Value → Shared → Prop}

theorem getattr_ok {b : Bool} {Q : Value → Shared → Prop} (I : Inv X pins σ H s) (e : H a = some (.ins C dx fs)) (c : Cls X.K C) (n : NoAttr X.K C f) (l : fs.lookup f = some v)
    (h : ∀ u s', Inv X pins σ H s' → RelV v u → Q u s') : wpAny (model X.prog X.w) A (getAttr (.ref a) f b) Q E s := by
  obtain ⟨mA, O, r, _, _, _⟩ := ins_get I.hok e
  obtain ⟨u, hu, ru⟩ := RelO.some_of (v := v) (o := mA f) (by rw [← l]; exact r f)
  exact get_map I.kIn O (c.get f) c.hd n hu (handed_of ru) (h u _ (I.tok _) ru)

theorem getcon_ok {b : Bool} {u : Value} {Q : Value → Shared → Prop} (I : Inv X pins σ H s) (e : H a = some (.ins C dx fs)) (c : Cls X.K C) (k : Con X.K C f v u) (l : fs.lookup f = none)
    (h : ∀ s', Inv X pins σ H s' → Q u s') : wpAny (model X.prog X.w) A (getAttr (.ref a) f b) Q E s := by
  obtain ⟨mA, O, r, _, _, _⟩ := ins_get I.hok e
  have hn : mA f = none := RelO.none_of (by rw [← l]; exact r f)
  exact get_const I.kIn O (c.get f) c.hd k.at_ k.get k.cp hn (handed_of k.rel) (h _ (I.tok _))

theorem getmeth_ok {m : Str} {g : Addr} {pl : Sem Bool} {Q : Value × List Value → Shared → Prop} (I : Inv X pins σ H s) (e : H a = some (.ins C dx fs)) (c : Cls X.K C) (k : Meth X.K C m g) (l : fs.lookup m = none)
    (h : Q (.ref g, [.ref a]) s) : wpAny (model X.prog X.w) A (getMethod (.ref a) m pl) Q E s := by
  obtain ⟨mA, O, r, _, _, _⟩ := ins_get I.hok e
  have hn : mA m = none := RelO.none_of (by rw [← l]; exact r m)
  exact get_meth I.kIn O (c.get m) k.at_ k.fn hn h

theorem setattr_ok {y : V} {u : Value} {Q : Unit → Shared → Prop} (I : Inv X pins σ H s) (e : H a = some (.ins C dx fs)) (c : Cls X.K C) (n : NoAttr X.K C f) (hl : fs.length < 1000) (ry : RelV y u)
    (h : ∀ s', Inv X pins σ (upd H a (.ins C dx (putF f y fs))) s' → Q () s') : wpAny (model X.prog X.w) A (setAttr (.ref a) f u) Q E s := by
  obtain ⟨mA, O, r, wi, _, ho⟩ := ins_get I.hok e
  have hz : (fs.map (·.1)).length ≤ sizeLine := by rw [List.length_map, sizeLine_eq]; omega
  refine set_map I.kIn O c.sa c.po n.taker c.hd wi hz fun h' O' sb => h _ ?_
  have hd : ∃ o, h'.get? dx = some o := let ⟨o, _, _, e', _⟩ := O'.ns; ⟨o, e'⟩
  refine I.write (x := a) (e := dx) (by rw [e]; exact True.intro) (.inr ho) (fun b q hb z => (sb.2 b hb).trans z) hd ?_
  refine ⟨by rw [upd_ne O.ne]; exact ho, ?_, O.ne, O'.obj, _, O'.ns, fun g => ?_, fun g hg => ?_⟩
  · have := length_putF f y fs; omega
  · show RelO ((putF f y fs).lookup g) (if g = f then some u else mA g)
    rw [lookup_putF]
    by_cases q : g = f
    · rw [if_pos q, if_pos q]; exact ry
    · rw [if_neg q, if_neg q]; exact r g
  · by_cases q : g = f
    · rw [q]; exact (keys_putF f y fs).1
    · refine (keys_putF f y fs).2 g (wi g fun z => hg ?_)
      show (if g = f then some u else mA g) = none
      rw [if_neg q]; exact z

/-- a new instance, tracked, without attributes -/
theorem Inv.made (I : Inv X pins σ H s) : Inv X pins σ (upd (upd H s.heap.objs.size (.own (s.heap.objs.size + 1))) (s.heap.objs.size + 1) (.ins C s.heap.objs.size []))
    { s with heap := (s.heap.push PySem.W.emptyDict).push (PySem.W.instObj C s.heap.objs.size) } := by
  have e1 : (s.heap.push PySem.W.emptyDict).get? s.heap.objs.size = some PySem.W.emptyDict := Heap.get?_push_size s.heap rfl
  have e2 : ((s.heap.push PySem.W.emptyDict).push (PySem.W.instObj C s.heap.objs.size)).get? (s.heap.objs.size + 1) = some (PySem.W.instObj C s.heap.objs.size) := by
    have := Heap.get?_push_size (s.heap.push PySem.W.emptyDict) (o := PySem.W.instObj C s.heap.objs.size) rfl
    rwa [Heap.size_push] at this
  have e3 : (s.heap.push PySem.W.emptyDict).Ns s.heap.objs.size (fun _ => none) := ⟨PySem.W.emptyDict, #[], _, e1, rfl, (fun e he => absurd he (by simp)), fun _ => rfl⟩
  have I1 := I.laid (a := s.heap.objs.size) (o := .own (s.heap.objs.size + 1)) (h' := s.heap.push PySem.W.emptyDict) (t' := s.toks) (fun b u q => Heap.get?_push_of_some _ q) (Nat.le_refl _) ⟨_, e1⟩
  refine I1.laid (a := s.heap.objs.size + 1) (o := .ins C s.heap.objs.size []) (t' := s.toks) (fun b u q => Heap.get?_push_of_some _ q) (Nat.le_of_eq (Heap.size_push _ _)) ?_
  have ne : s.heap.objs.size ≠ s.heap.objs.size + 1 := Nat.ne_of_lt (Nat.lt_succ_self _)
  refine ⟨by rw [upd_ne ne, upd_same], Nat.zero_le _, ne, e2, fun _ => none, (Heap.Ns1.of_empty e3).at fun o q => Heap.get?_push_of_some _ q, fun _ => True.intro, fun y hy => absurd rfl hy⟩

/-- e.f where nothing but the object is asked: through attributeBase (super) and the last hold -/
theorem attr_of {prog : Program} {w : World} {env : Env} {e : Expr} {f : Str} {pos : Pos} {s : Shared} {Q : Value → Shared → Prop} (hb : attributeBase e f env (eval e env) = eval e env)
    (h : wpAny (model prog w) A (eval e env) (fun o s₁ => wpAny (model prog w) A (getAttr o f true) Q E s₁) E s) : wpAny (model prog w) A (eval (.Attribute e f pos) env) Q E s :=
  Attribute_any_ h (by rw [arm_eval_Attribute, hb])
end

/-! ### readings and rules -/
/-- e.f, an attribute of the instance -/
def tFld (K : PySem.W.Frag) (ta : TE) (f : Str) : TE := fun σ H Q => ta σ H fun x H1 => ∃ a C dx fs v, x = .ref a ∧ H1 a = some (.ins C dx fs) ∧ Cls K C ∧ NoAttr K C f ∧ fs.lookup f = some v ∧ Q v H1
/-- e.f, a constant of the class -/
def tCon (K : PySem.W.Frag) (ta : TE) (f : Str) : TE := fun σ H Q => ta σ H fun x H1 => ∃ a C dx fs v u, x = .ref a ∧ H1 a = some (.ins C dx fs) ∧ Cls K C ∧ Con K C f v u ∧ fs.lookup f = none ∧ Q v H1
/-- e.f = value -/
def sFld (K : PySem.W.Frag) (ta tv : TE) (f : Str) : TS := fun D σ H => tv σ H fun y H1 => ta σ H1 fun x H2 => ∃ a C dx fs, x = .ref a ∧ H2 a = some (.ins C dx fs) ∧ Cls K C ∧ NoAttr K C f ∧ fs.length < 1000 ∧
  D.nx σ (upd H2 a (.ins C dx (putF f y fs)))
/-- an augmented operator on two values -/
def InOp (X : Cx) (op : Operator) (rd : V → V → Hp → VK → Prop) : Prop :=
  ∀ (pins : List (Addr × Obj)) (s : Shared) (σ : St) (H : Hp) (x y : V) (u v : Value) (Q : VK), Inv X pins σ H s → RelV x u → RelV y v → rd x y H Q → wpAny (model X.prog X.w) X.A (inplaceOp op u v) (EP X pins σ Q) X.xe s
/-- e.f op= value -/
def sFldAug (K : PySem.W.Frag) (ta tv : TE) (rd : V → V → Hp → VK → Prop) (f : Str) : TS := fun D σ H => ta σ H fun x H1 => ∃ a C dx fs v, x = .ref a ∧ H1 a = some (.ins C dx fs) ∧ Cls K C ∧ NoAttr K C f ∧ fs.lookup f = some v ∧
  tv σ H1 fun y H2 => rd v y H2 fun z H3 => ∃ dx' fs', H3 a = some (.ins C dx' fs') ∧ fs'.length < 1000 ∧ D.nx σ (upd H3 a (.ins C dx' (putF f z fs')))

section
variable {X : Cx} {o e value : Expr} {f : Str} {pos pos' tpos : Pos} {ta tv : TE}
theorem pe_fld (he : PE X e ta) (hb : attributeBase e f X.env (eval e X.env) = eval e X.env) : PE X (.Attribute e f pos) (tFld X.K ta f) := by
  intro pins s σ H Q I h
  refine attr_of hb (thn (he pins s σ H _ I h) fun u s1 ⟨x, H1, I1, rx, a, C, dx, fs, v, ex, ea, c, n, l, q⟩ => ?_)
  subst ex
  obtain rfl : u = Value.ref a := rx
  exact getattr_ok I1 ea c n l fun u' s2 I2 ru => ⟨v, H1, I2, ru, q⟩
theorem pe_con (he : PE X e ta) (hb : attributeBase e f X.env (eval e X.env) = eval e X.env) : PE X (.Attribute e f pos) (tCon X.K ta f) := by
  intro pins s σ H Q I h
  refine attr_of hb (thn (he pins s σ H _ I h) fun u s1 ⟨x, H1, I1, rx, a, C, dx, fs, v, u0, ex, ea, c, k, l, q⟩ => ?_)
  subst ex
  obtain rfl : u = Value.ref a := rx
  exact getcon_ok I1 ea c k l fun s2 I2 => ⟨v, H1, I2, k.rel, q⟩
theorem ps_fld (ha : PE X o ta) (hv : PE X value tv) (hs : swapsWith value (some (.Attribute o f pos')) pos.line X.env = pure false) : PS X (.Assign [.Attribute o f pos'] value pos) (sFld X.K ta tv f) := by
  intro pins s σ H D I h
  refine plainObj_wpAny_Assign_Attribute (thn (hv pins s σ H _ I h) fun u s1 ⟨y, H1, I1, ry, q⟩ => thn (ha pins s1 σ H1 _ I1 q) fun ov s2 ⟨x, H2, I2, rx, a, C, dx, fs, ex, ea, c, n, l, q2⟩ => ?_) hs
  subst ex
  obtain rfl : ov = Value.ref a := rx
  exact setattr_ok I2 ea c n l ry fun s3 I3 => ⟨σ, _, I3, q2⟩
theorem ps_fldaug {op : Operator} {rd : V → V → Hp → VK → Prop} (ha : PE X o ta) (hv : PE X value tv) (hop : InOp X op rd) : PS X (.AugAssign (.Attribute o f tpos) op value pos) (sFldAug X.K ta tv rd f) := by
  intro pins s σ H D I h
  refine wpAny_AugAssign_AttributeAny (thn (ha pins s σ H _ I h) fun ov s1 ⟨x, H1, I1, rx, a, C, dx, fs, v, ex, ea, c, n, l, q⟩ => ?_)
  subst ex
  obtain rfl : ov = Value.ref a := rx
  refine getattr_ok I1 ea c n l fun u s2 I2 ru => thn (hv pins s2 σ H1 _ I2 q) fun w3 s3 ⟨y, H2, I3, ry, q3⟩ => thn (hop pins s3 σ H2 v y u w3 _ I3 ru ry q3) fun w4 s4 ⟨z, H3, I4, rz, dx', fs', ea', l', q4⟩ => ?_
  exact setattr_ok I4 ea' c n l' rz fun s5 I5 => ⟨σ, _, I5, q4⟩
def rAdd : V → V → Hp → VK → Prop := fun x y H Q => ∃ i j, x = .int i ∧ y = .int j ∧ Q (.int (i + j)) H
def rSub : V → V → Hp → VK → Prop := fun x y H Q => ∃ i j, x = .int i ∧ y = .int j ∧ Q (.int (i - j)) H
theorem in_add : InOp X .Add rAdd := by
  rintro pins s σ H x y u v Q I rx ry ⟨i, j, rfl, rfl, q⟩
  obtain ⟨t, rfl⟩ := (show ∃ t, u = Value.int i t from rx)
  obtain ⟨t', rfl⟩ := (show ∃ t', v = Value.int j t' from ry)
  exact PyProof.Rows.iadd_int ⟨.int (i + j), H, I.tok _, ⟨_, rfl⟩, q⟩
theorem in_sub : InOp X .Sub rSub := by
  rintro pins s σ H x y u v Q I rx ry ⟨i, j, rfl, rfl, q⟩
  obtain ⟨t, rfl⟩ := (show ∃ t, u = Value.int i t from rx)
  obtain ⟨t', rfl⟩ := (show ∃ t', v = Value.int j t' from ry)
  exact PyProof.Rows.isub_int ⟨.int (i - j), H, I.tok _, ⟨_, rfl⟩, q⟩

/-- what is between an instance and its method: the tree of a method call -/
theorem methcall_of {pl : Sem Bool} {m : Str} {apos : Pos} {args : List Expr} {pins : List (Addr × Obj)} {s : Shared} {σ : St} {H : Hp} {Q : Value → Shared → Prop} {te : TE} (he : PE X e te) (I : Inv X pins σ H s)
    (h : te σ H fun x H1 => ∃ a C dx fs g, x = .ref a ∧ H1 a = some (.ins C dx fs) ∧ Cls X.K C ∧ Meth X.K C m g ∧ fs.lookup m = none ∧
      ∀ s1, Inv X pins σ H1 s1 → wpAny (model X.prog X.w) X.A (callWith pos (.ref g) [.ref a] (backTo pos (starEach args X.env)) (backToKw pos (keywordEach [] X.env))) Q X.xe s1)
    (ht : eval (.Call (.Attribute e m apos) args [] pos) X.env = (do
      let ov ← eval e X.env
      standAt apos.atName
      let (f, first) ← holding [ov] (getMethod ov m pl)
      callWith pos f first (backTo pos (starEach args X.env)) (backToKw pos (keywordEach [] X.env)))) :
    wpAny (model X.prog X.w) X.A (eval (.Call (.Attribute e m apos) args [] pos) X.env) Q X.xe s := by
  refine PySem.W.methodCall_KW (pl := pl) (thn (he pins s σ H _ I h) fun u s1 ⟨x, H1, I1, rx, a, C, dx, fs, g, ex, ea, c, k, l, q⟩ => ?_) ht
  subst ex
  obtain rfl : u = Value.ref a := rx
  exact getmeth_ok I1 ea c k l (q s1 I1)
end

/-! ### isinstance -/
section
variable {X : Cx} {pins : List (Addr × Obj)} {σ : St} {H : Hp} {s : Shared} {A : Around} {E : Value → Shared → Prop} {Q : Value → Shared → Prop} {c : Value} {b : Bool}
/-- the type of a value, as the fragment's deciders take it; for an instance its class -/
inductive TyOf (K : PySem.W.Frag) (H : Hp) : V → Value → Prop where
  | non : TyOf K H .non (.type "NoneType")
  | bl (x : Bool) : TyOf K H (.bl x) (.type "bool")
  | int (i : Int) : TyOf K H (.int i) (.type "int")
  | str (x : Str) : TyOf K H (.str x) (.type "str")
  | flt (x : UInt64) : TyOf K H (.flt x) (.type "float")
  | lst {a : Addr} {xs : List V} (e : H a = some (.lst xs)) : TyOf K H (.ref a) (.type "list")
  | frz {a : Addr} {o : Obj} {xs : List V} (e : H a = some (.frz o (.lst xs))) : TyOf K H (.ref a) (.type "list")
  | tup {a : Addr} {xs : List V} (e : H a = some (.tup xs)) : TyOf K H (.ref a) (.type "tuple")
  | dK {a : Addr} {kvs : List (Key × V)} (e : H a = some (.dK kvs)) : TyOf K H (.ref a) (.type "dict")
  | dT {a : Addr} {kvs : List (List Key × V)} (e : H a = some (.dT kvs)) : TyOf K H (.ref a) (.type "dict")
  | ins {a C dx : Addr} {fs : List (Str × V)} (e : H a = some (.ins C dx fs)) (cl : Cls K C) (ha : PySem.W.findIn K (.ref C) "__class__" = some (some (.builtin "object.__class__")))
      (hn : PySem.W.specialIn K (.builtin "object.__class__") "__get__" = some (some (.builtin "getset_descriptor.__get__"))) (htk : PySem.W.takesIn K (.builtin "object.__class__") = some true)
      (hm : PySem.W.mroIn K C (.type "object") = some true) : TyOf K H (.ref a) (.ref C)
/-- isinstance(x, c) for one class c, a built-in or an own one: kitOne's answer -/
theorem isinst_ok {x : V} {u t : Value} (I : Inv X pins σ H s) (rx : RelV x u) (ty : TyOf X.K H x t) (e : PySem.W.kitOne X.K t c = some b) (h : ∀ tk, Q (.bool b) { s with toks := tk }) :
    wpAny (model X.prog X.w) A (call (.builtin "isinstance") [u, c]) Q E s := by
  cases ty with
  | non => cases (show u = Value.none from rx); exact PySem.W.kia_one PySem.W.kitx_none I.kIn True.intro e (fun z => nomatch z) h
  | bl y => cases (show u = Value.bool y from rx); exact PySem.W.kia_one PySem.W.kitx_bool I.kIn True.intro e (fun z => nomatch z) h
  | int i => obtain ⟨t, q⟩ := (show ∃ t, u = Value.int i t from rx); cases q; exact PySem.W.kia_one PySem.W.kitx_int I.kIn True.intro e (fun z => nomatch z) h
  | str y => obtain ⟨t, q⟩ := (show ∃ t, u = Value.str y t from rx); cases q; exact PySem.W.kia_one PySem.W.kitx_str I.kIn True.intro e (fun z => nomatch z) h
  | flt y => obtain ⟨t, q⟩ := (show ∃ t, u = Value.float y t from rx); cases q; exact PySem.W.kia_one PySem.W.kitx_float I.kIn True.intro e (fun z => nomatch z) h
  | @lst a xs ea =>
    cases (show u = Value.ref a from rx)
    obtain ⟨_, _, n, _, h1⟩ := (show ObjOk X.prog X.w H s.heap a (.lst xs) from I.hok a _ ea)
    exact PySem.W.kia_one PySem.W.kitx_list I.kIn ⟨_, h1, rfl⟩ e (fun z => nomatch z) h
  | @frz a ob xs ea =>
    cases (show u = Value.ref a from rx)
    obtain ⟨_, _, _, n, _, h1⟩ := (show ObjOk X.prog X.w H s.heap a (.frz ob (.lst xs)) from I.hok a _ ea)
    exact PySem.W.kia_one PySem.W.kitx_list I.kIn ⟨_, h1, rfl⟩ e (fun z => nomatch z) h
  | @tup a xs ea =>
    cases (show u = Value.ref a from rx)
    obtain ⟨_, _, _, p⟩ := (show ObjOk X.prog X.w H s.heap a (.tup xs) from I.hok a _ ea)
    obtain ⟨o, h1, h2, _⟩ := p
    exact PySem.W.kia_one PySem.W.kitx_tuple I.kIn ⟨o, h1, h2⟩ e (fun z => nomatch z) h
  | @dK a kvs ea =>
    cases (show u = Value.ref a from rx)
    obtain ⟨_, _, vs, _, p⟩ := (show ObjOk X.prog X.w H s.heap a (.dK kvs) from I.hok a _ ea)
    obtain ⟨o, es, ep, h1, h2, _⟩ := p
    exact PySem.W.kia_one PySem.W.kitx_dict I.kIn ⟨o, h1, h2.1⟩ e (fun z => nomatch z) h
  | @dT a kvs ea =>
    cases (show u = Value.ref a from rx)
    obtain ⟨_, _, xs, _, o, es, ep, h1, h2, _⟩ := (show ObjOk X.prog X.w H s.heap a (.dT kvs) from I.hok a _ ea)
    exact PySem.W.kia_one PySem.W.kitx_dict I.kIn ⟨o, h1, h2.1⟩ e (fun z => nomatch z) h
  | @ins a C dx fs ea cl ha hn htk hm =>
    cases (show u = Value.ref a from rx)
    obtain ⟨mA, O, _⟩ := ins_get I.hok ea
    obtain ⟨od, J, _⟩ := O.look
    exact PySem.W.kia_one (PySem.W.kitx_own (cl.get _) cl.hd ha hn htk hm) I.kIn J e (fun z => nomatch z) h
end
end L2

namespace L2
open PySem PySem.Spec PyProof.Rows

/-! ### room -/
structure Room (k : Nat) (A : Around) : Prop where
  hd : A.handled = none
  dp : A.depth + 3 * k + 5 < recursionLimit
  un : A.units + 16 * k + 200 < cLine
theorem Room.mono {j k : Nat} {A : Around} (r : Room k A) (h : j ≤ k) : Room j A := ⟨r.hd, by have := r.dp; omega, by have := r.un; omega⟩
theorem Room.deeper {k : Nat} {A : Around} (r : Room (k + 1) A) (env : Env) : Room k (A.deeper env) :=
  ⟨r.hd, by have := r.dp; show A.depth + 1 + 3 * k + 5 < _; omega, by have := r.un; show A.units + 3 + 16 * k + 200 < _; omega⟩
theorem Room.in1 {k : Nat} {A : Around} (r : Room (k + 1) A) : Room k A.in1 :=
  ⟨r.hd, by have := r.dp; show A.depth + 3 * k + 5 < _; omega, by have := r.un; show A.units + 1 + 16 * k + 200 < _; omega⟩
theorem make_depth {A : Around} {C : Addr} {us : List Value} {kw : List (Str × Value)} : (A.under (.builtin "type.__call__" ⟨.ref C :: us, kw⟩)).depth = A.depth + 1 := by
  first | rfl | simp [Around.under, Code.weight, Code.isCreation, Code.isGuard, Code.isCaller, Code.frames, Code.isFrame, guardIds]
theorem make_units {A : Around} {C : Addr} {us : List Value} {kw : List (Str × Value)} : (A.under (.builtin "type.__call__" ⟨.ref C :: us, kw⟩)).units = A.units + 1 := by
  first | rfl | simp [Around.under, Code.cUnits, Code.frames, Code.isFrame]
theorem Room.make {k : Nat} {A : Around} (r : Room (k + 1) A) (C : Addr) (us : List Value) (kw : List (Str × Value)) : Room k (A.under (.builtin "type.__call__" ⟨.ref C :: us, kw⟩)) :=
  ⟨r.hd, by have := r.dp; rw [make_depth]; omega, by have := r.un; rw [make_units]; omega⟩
theorem Room.depth {k : Nat} {A : Around} (r : Room k A) : A.depth < recursionLimit := by have := r.dp; omega
theorem Room.units {k : Nat} {A : Around} (r : Room k A) : A.units + 64 < cLine := by have := r.un; omega
theorem Room.units0 {k : Nat} {A : Around} (r : Room k A) : A.units < cLine := by have := r.un; omega

/-! ### argument lists and displays -/
def tNil : TA := fun _ H Q => Q [] H
def tCons (ta : TE) (tr : TA) : TA := fun σ H Q => ta σ H fun x H1 => tr σ H1 fun xs H2 => Q (x :: xs) H2
section
variable {X : Cx} {e : Expr} {es : List Expr} {te : TE} {t : TA} {pos : Pos}
theorem pa_nil : PA X [] tNil := fun _ _ _ _ H Q I h => Calls.spliced_nil ⟨[], H, I, .nil, h⟩
theorem pa_cons (ha : PE X e te) (hr : PA X es t) (hs : starEach (e :: es) X.env = (false, eval e X.env) :: starEach es X.env := by rfl) : PA X (e :: es) (tCons te t) := by
  intro pos pins s σ H Q I h
  rw [hs]
  show wpAny _ _ (spliced ((false, eval e X.env) :: backTo pos (starEach es X.env))) _ _ s
  refine Calls.spliced_cons (thn (ha pins s σ H _ I h) fun u s1 ⟨x, H1, I1, r1, q1⟩ => ?_)
  exact thn (hr pos pins s1 σ H1 _ I1 q1) fun us s2 ⟨xs, H2, I2, r2, q2⟩ => ⟨x :: xs, H2, I2, .cons r1 r2, q2⟩

/-- a tuple, a list of written items -/
def tTup (t : TA) : TE := fun σ H Q => t σ H fun xs H1 => xs.length ≤ sizeLine ∧ ∀ p, H1 p = none → Q (.ref p) (upd H1 p (.tup xs))
def tLst (t : TA) : TE := fun σ H Q => t σ H fun xs H1 => xs.length ≤ sizeLine ∧ ∀ p, H1 p = none → Q (.ref p) (upd H1 p (.lst xs))
theorem pe_tup {x1} (h : PA X es t) : PE X (.Tuple es x1 pos) (tTup t) := by
  intro pins s σ H Q I hq
  refine wpAny_Tuple_spliced (thn (h pos pins s σ H _ I hq) fun us s1 ⟨xs, H1, I1, r, z, q⟩ => ⟨by rw [← r.length]; exact z, ?_⟩)
  have hf : H1 s1.heap.objs.size = none := I1.hok.fresh (Nat.le_refl _)
  refine ⟨.ref s1.heap.objs.size, upd H1 s1.heap.objs.size (.tup xs), I1.laid (t' := s1.toks) (fun b u e => Heap.get?_push_of_some _ e) (Nat.le_refl _) ?_, rfl, q _ hf⟩
  exact ⟨z, us, r, ⟨_, Heap.get?_push_size _ rfl, rfl, _, rfl⟩⟩
theorem pe_lst (h : PA X es t) : PE X (.List es pos) (tLst t) := by
  intro pins s σ H Q I hq
  refine wpAny_List_spliced (thn (h pos pins s σ H _ I hq) fun us s1 ⟨xs, H1, I1, r, z, q⟩ => ⟨by rw [← r.length]; exact z, ?_⟩)
  have hf : H1 s1.heap.objs.size = none := I1.hok.fresh (Nat.le_refl _)
  refine ⟨.ref s1.heap.objs.size, upd H1 s1.heap.objs.size (.lst xs), I1.laid (t' := s1.toks) (fun b u e => Heap.get?_push_of_some _ e) (Nat.le_refl _) ?_, rfl, q _ hf⟩
  exact ⟨z, us, 0, r, Heap.get?_push_size _ rfl⟩
end

/-! ### what a def promises -/
/-- a def's promise: the bound arguments in the parameters' order, the heap, the wanted end, the wanted exception -/
abbrev Sp := List V → Hp → VK → XK → Prop
/-- how an exception lies behind a call (file 08 gives it): the callers' frames, abstract heap and state ahead of the call, the wish, the exception, the state -/
abbrev CXT := List Env → Hp → Shared → XK → Value → Shared → Prop

/-- the state at a call -/
structure Env0 (P : Program) (w : World) (K : PySem.W.Frag) (mg : Str → Option Value) (base : Heap) (A : Around) (outer : List Env) (s : Shared) (H : Hp) : Prop where
  frames : A.frames = some outer
  mod : Mod K mg base
  bs : ∀ b o, base.get? b = some o → s.heap.get? b = some o ∧ H b = none
  bsz : base.objs.size ≤ s.heap.objs.size
  funs : s.heap.FunFrames base outer
  frf : ∀ b ∈ frs outer, H b = none
  hok : HOk P w H s.heap
  bare : AllBare s.gens
/-- a call's end -/
def CE (outer : List Env) (P : Program) (w : World) (H : Hp) (s : Shared) (Q : VK) (u : Value) (s' : Shared) : Prop :=
  ∃ v H', s'.os = s.os ∧ AllBare s'.gens ∧ Un (frs outer) [] H H' s.heap s'.heap ∧ HOk P w H' s'.heap ∧ RelV v u ∧ Q v H'
def CR (CX : CXT) (outer : List Env) (P : Program) (w : World) (H : Hp) (s : Shared) (Q : VK) (E : XK) (r : Result) (s' : Shared) : Prop :=
  match r with
  | .ok (.ret u) => CE outer P w H s Q u s'
  | .ok _ => False
  | .error e => CX outer H s E e s'
structure FnOk (P : Program) (w : World) (K : PySem.W.Frag) (mg : Str → Option Value) (base : Heap) (CX : CXT) (k : Nat) (f : Addr) (fd : FuncData) (ps : List Str) (sp : Sp) : Prop where
  len : ∀ vs H Q E, sp vs H Q E → vs.length = ps.length
  run : ∀ (A : Around) (outer : List Env) (s : Shared) (H : Hp) (args : Args) (us : List Value) (vs : List V) (Q : VK) (E : XK), Room k A → Env0 P w K mg base A outer s H → BindsTo s fd args (ps.zip us) → Vals vs us → sp vs H Q E →
    codeAny (model P w) A (.call (.ref f) args) (CR CX outer P w H s Q E) s
theorem FnOk.mono {P : Program} {w : World} {K : PySem.W.Frag} {mg : Str → Option Value} {base : Heap} {CX : CXT} {j k : Nat} {f : Addr} {fd : FuncData} {ps : List Str} {sp : Sp} (F : FnOk P w K mg base CX j f fd ps sp) (h : j ≤ k) :
    FnOk P w K mg base CX k f fd ps sp := ⟨F.len, fun A outer s H args us vs Q E hr => F.run A outer s H args us vs Q E (hr.mono h)⟩
/-- a weaker promise -/
theorem FnOk.imp {P : Program} {w : World} {K : PySem.W.Frag} {mg : Str → Option Value} {base : Heap} {CX : CXT} {k : Nat} {f : Addr} {fd : FuncData} {ps : List Str} {sp sp' : Sp} (F : FnOk P w K mg base CX k f fd ps sp)
    (h : ∀ vs H Q E, sp' vs H Q E → sp vs H Q E) : FnOk P w K mg base CX k f fd ps sp' :=
  ⟨fun vs H Q E q => F.len vs H Q E (h _ _ _ _ q), fun A outer s H args us vs Q E hr he hb hv hs => F.run A outer s H args us vs Q E hr he hb hv (h _ _ _ _ hs)⟩

theorem Env0.make {P : Program} {w : World} {K : PySem.W.Frag} {mg : Str → Option Value} {base : Heap} {A : Around} {outer : List Env} {s : Shared} {H : Hp} (e : Env0 P w K mg base A outer s H) (C : Addr) (us : List Value) (kw : List (Str × Value)) :
    Env0 P w K mg base (A.under (.builtin "type.__call__" ⟨.ref C :: us, kw⟩)) outer s H := ⟨by first | exact e.frames | (simpa [Around.under, Code.envs, Code.isFrame, pushEnvs] using e.frames), e.mod, e.bs, e.bsz, e.funs, e.frf, e.hok, e.bare⟩
theorem Env0.in1 {P : Program} {w : World} {K : PySem.W.Frag} {mg : Str → Option Value} {base : Heap} {A : Around} {outer : List Env} {s : Shared} {H : Hp} (e : Env0 P w K mg base A outer s H) :
    Env0 P w K mg base A.in1 outer s H := ⟨e.frames, e.mod, e.bs, e.bsz, e.funs, e.frf, e.hok, e.bare⟩

section
variable {X : Cx} {pins : List (Addr × Obj)} {σ : St} {H : Hp} {s s' : Shared}
/-- from a body: what a callee wants -/
theorem Inv.env0 (I : Inv X pins σ H s) : Env0 X.prog X.w X.K X.mg X.base X.A X.stack s H :=
  ⟨I.ok.frames, I.ok.mod, I.bs, Nat.le_trans I.ok.bsz I.sz, I.stack, I.stkFree, I.hok, I.bare⟩
/-- behind a call -/
theorem Inv.after {Q : VK} {u : Value} (I : Inv X pins σ H s) (h : CE X.stack X.prog X.w H s Q u s') : EP X pins σ Q u s' := by
  obtain ⟨v, H', os, bare, un, hok, r, q⟩ := h
  obtain ⟨hh, g, d, t, os'⟩ := s'
  obtain rfl : os' = s.os := os
  exact ⟨v, H', I.call (h' := hh) (g' := g) (d' := d) (t' := t) (ch := []) un hok bare (fun b z => absurd z (by simp)), r, q⟩
end

/-! ### calls -/
/-- f(..): the written arguments, then the defaults dvs; E: what is wanted of an exception -/
def tCall (sp : Sp) (dvs : List V) (E : XK) (t : TA) : TE := fun σ H Q => t σ H fun vs H1 => sp (vs ++ dvs) H1 Q E
/-- o.m(..) of an instance of the class at C -/
def tMeth (C : Addr) (m : Str) (sp : Sp) (dvs : List V) (E : XK) (ta : TE) (t : TA) : TE := fun σ H Q => ta σ H fun x H1 => ∃ a dx fs, x = .ref a ∧ H1 a = some (.ins C dx fs) ∧ fs.lookup m = none ∧
  t σ H1 fun vs H2 => sp (x :: (vs ++ dvs)) H2 Q E
/-- C(..): a new instance and its dict, then __init__ -/
def tMake (C : Addr) (sp : Sp) (dvs : List V) (E : XK) (t : TA) : TE := fun σ H Q => t σ H fun vs H1 => ∀ x dx, H1 x = none → H1 dx = none → dx ≠ x →
  sp (.ref x :: (vs ++ dvs)) (upd (upd H1 dx (.own x)) x (.ins C dx [])) (fun v H2 => v = .non ∧ Q (.ref x) H2) E

/-- how the parameters are bound: us the positional arguments, kw the keywords' values by name, ds the defaults that fill up -/
def Binds (K : PySem.W.Frag) (fd : FuncData) (ps : List Str) (ds : List Value) : Prop :=
  ∀ (s : Shared) (us : List Value), K.In s.heap → (us ++ ds).length = ps.length → BindsTo s fd ⟨us, []⟩ (ps.zip (us ++ ds))
/-- every parameter is given -/
theorem Binds.all {K : PySem.W.Frag} {fd : FuncData} {ps : List Str} (h : ∀ us : List Value, us.length = ps.length → bindArgs fd ⟨us, []⟩ = pure (ps.zip us)) : Binds K fd ps [] := fun s us _ hl => by
  rw [List.append_nil] at hl ⊢
  exact .of_eq (h us hl)

/-- an exception of a callee reaches what this body wants of exceptions -/
def Passes (CX : CXT) (X : Cx) (E : XK) : Prop := ∀ (pins : List (Addr × Obj)) (σ : St) (H : Hp) (s : Shared) (e : Value) (s' : Shared), Inv X pins σ H s → CX X.stack H s E e s' → X.xe e s'

section
variable {X : Cx} {CX : CXT} {k : Nat} {f C : Addr} {fd : FuncData} {ps : List Str} {sp : Sp} {dvs : List V} {ds : List Value} {E : XK} {x m : Str} {p pos apos : Pos} {e o : Expr} {es : List Expr} {ta : TE} {t : TA}

/-- the callee runs -/
theorem run_fn {pins : List (Addr × Obj)} {σ : St} {H : Hp} {s : Shared} {Q : VK} {us : List Value} {vs : List V} (F : FnOk X.prog X.w X.K X.mg X.base CX k f fd ps sp) (hr : Room k X.A) (hb : Binds X.K fd ps ds) (hd : Vals dvs ds) (hx : Passes CX X E)
    (I : Inv X pins σ H s) (r : Vals vs us) (h : sp (vs ++ dvs) H Q E) : wpAny (model X.prog X.w) X.A (call (.ref f) us) (EP X pins σ Q) X.xe s := by
  have r2 : Vals (vs ++ dvs) (us ++ ds) := r.append hd
  have hl : (us ++ ds).length = ps.length := by rw [← r2.length]; exact F.len _ _ _ _ h
  refine wpAny_call (codeAny_mono (F.run X.A X.stack s H ⟨us, []⟩ (us ++ ds) (vs ++ dvs) Q E hr I.env0 (hb s us I.kIn hl) r2 h) fun r s' hq => ?_)
  cases r with
  | error e => exact hx pins σ H s e s' I hq
  | ok fl =>
    cases fl with
    | ret u => exact I.after hq
    | next => exact False.elim hq
    | brk => exact False.elim hq
    | cont => exact False.elim hq

theorem pe_call (F : FnOk X.prog X.w X.K X.mg X.base CX k f fd ps sp) (hr : Room k X.A) (hg : Gl X x) (hm : X.mg x = some (.ref f)) (hk : PySem.W.keepIn X.K (.ref f) = true) (hb : Binds X.K fd ps ds) (hd : Vals dvs ds) (hx : Passes CX X E)
    (ha : PA X (e :: es) t) (hdb : (x == ("__debug__" : Str)) = false := by decide) (he : starEach (e :: es) X.env = (false, eval e X.env) :: starEach es X.env := by rfl) (hpl : (backTo pos (starEach es X.env)).any (·.1) = false := by rfl) :
    PE X (.Call (.Name x p) (e :: es) [] pos) (tCall sp dvs E t) := by
  intro pins s σ H Q I h
  refine wpAny_Call_Name_kw (ld_glob I hg hm ?_ hdb)
  refine PySem.W.callWith_K (h₀ := X.base) I.ok.mod.kin hk (thn (ha pos pins s σ H _ I h) fun us s1 ⟨vs, H1, I1, r, q⟩ => ⟨I1.kIn, ?_⟩) he hpl
  exact run_fn F hr hb hd hx I1 r q
theorem pe_call0 (F : FnOk X.prog X.w X.K X.mg X.base CX k f fd ps sp) (hr : Room k X.A) (hg : Gl X x) (hm : X.mg x = some (.ref f)) (hk : PySem.W.keepIn X.K (.ref f) = true) (hb : Binds X.K fd ps ds) (hd : Vals dvs ds) (hx : Passes CX X E)
    (hdb : (x == ("__debug__" : Str)) = false := by decide) : PE X (.Call (.Name x p) [] [] pos) (tCall sp dvs E tNil) := by
  intro pins s σ H Q I h
  refine wpAny_Call_Name_kw (ld_glob I hg hm ?_ hdb)
  exact PySem.W.callWith_K0 I.kIn hk (run_fn (us := []) F hr hb hd hx I .nil h)

/-- o.m(e, ..) -/
theorem pe_meth {pl : Sem Bool} (he : PE X o ta) (c : Cls X.K C) (hm : Meth X.K C m f) (F : FnOk X.prog X.w X.K X.mg X.base CX k f fd ps sp) (hr : Room k X.A) (hb : Binds X.K fd ps ds) (hd : Vals dvs ds) (hx : Passes CX X E) (ha : PA X (e :: es) t)
    (hst : starEach (e :: es) X.env = (false, eval e X.env) :: starEach es X.env := by rfl) (hpl : (backTo pos (starEach es X.env)).any (·.1) = false := by rfl)
    (ht : eval (.Call (.Attribute o m apos) (e :: es) [] pos) X.env = (do
      let ov ← eval o X.env
      standAt apos.atName
      let (f, first) ← holding [ov] (getMethod ov m pl)
      callWith pos f first (backTo pos (starEach (e :: es) X.env)) (backToKw pos (keywordEach [] X.env))) := by rfl) :
    PE X (.Call (.Attribute o m apos) (e :: es) [] pos) (tMeth C m sp dvs E ta t) := by
  intro pins s σ H Q I h
  refine PySem.W.methodCall_KW (pl := pl) (thn (he pins s σ H _ I h) fun u s1 ⟨x, H1, I1, rx, a, dx, fs, ex, ea, l, q⟩ => ?_) ht
  subst ex
  obtain rfl : u = Value.ref a := rx
  refine getmeth_ok I1 ea c hm l ?_
  refine PySem.W.callWith_K (first := [.ref a]) (h₀ := X.base) I.ok.mod.kin hm.kp (thn (ha pos pins s1 σ H1 _ I1 q) fun us s2 ⟨vs, H2, I2, r, q2⟩ => ⟨I2.kIn, ?_⟩) hst hpl
  exact run_fn (us := .ref a :: us) (vs := .ref a :: vs) F hr hb hd hx I2 (.cons rfl r) q2
/-- o.m() -/
theorem pe_meth0 {pl : Sem Bool} (he : PE X o ta) (c : Cls X.K C) (hm : Meth X.K C m f) (F : FnOk X.prog X.w X.K X.mg X.base CX k f fd ps sp) (hr : Room k X.A) (hb : Binds X.K fd ps ds) (hd : Vals dvs ds) (hx : Passes CX X E)
    (ht : eval (.Call (.Attribute o m apos) [] [] pos) X.env = (do
      let ov ← eval o X.env
      standAt apos.atName
      let (f, first) ← holding [ov] (getMethod ov m pl)
      callWith pos f first (backTo pos (starEach [] X.env)) (backToKw pos (keywordEach [] X.env))) := by rfl) :
    PE X (.Call (.Attribute o m apos) [] [] pos) (tMeth C m sp dvs E ta tNil) := by
  intro pins s σ H Q I h
  refine PySem.W.methodCall_KW (pl := pl) (thn (he pins s σ H _ I h) fun u s1 ⟨x, H1, I1, rx, a, dx, fs, ex, ea, l, q⟩ => ?_) ht
  subst ex
  obtain rfl : u = Value.ref a := rx
  refine getmeth_ok I1 ea c hm l ?_
  exact PySem.W.callWith_K0 (first := [.ref a]) I1.kIn hm.kp (run_fn (us := [.ref a]) (vs := [.ref a]) F hr hb hd hx I1 (.cons rfl .nil) q)

/-- what a class must have to be made -/
structure Mk (K : PySem.W.Frag) (C f : Addr) : Prop where
  makes : PySem.W.makesIn K C = true
  init : PySem.W.findIn K (.ref C) "__init__" = some (some (.ref f))
  fn : PySem.W.isFn K (.ref f) = true
  kp : PySem.W.keepIn K (.ref C) = true

theorem run_make {pins : List (Addr × Obj)} {σ : St} {H : Hp} {s : Shared} {Q : VK} {us : List Value} {vs : List V} (M : Mk X.K C f) (F : FnOk X.prog X.w X.K X.mg X.base CX k f fd ps sp) (hr : Room (k + 1) X.A) (hb : Binds X.K fd ps ds) (hd : Vals dvs ds)
    (hx : Passes CX X E) (I : Inv X pins σ H s) (r : Vals vs us)
    (h : ∀ x dx, H x = none → H dx = none → dx ≠ x → sp (.ref x :: (vs ++ dvs)) (upd (upd H dx (.own x)) x (.ins C dx [])) (fun v H2 => v = .non ∧ Q (.ref x) H2) E) :
    wpAny (model X.prog X.w) X.A (call (.ref C) us) (EP X pins σ Q) X.xe s := by
  have hq := h (s.heap.objs.size + 1) s.heap.objs.size (I.hok.fresh (Nat.le_succ _)) (I.hok.fresh (Nat.le_refl _)) (Nat.ne_of_lt (Nat.lt_succ_self _))
  have I2 := Inv.made (C := C) I
  have r2 : Vals (V.ref (s.heap.objs.size + 1) :: (vs ++ dvs)) (Value.ref (s.heap.objs.size + 1) :: (us ++ ds)) := .cons rfl (r.append hd)
  have hl : (Value.ref (s.heap.objs.size + 1) :: us ++ ds).length = ps.length := by
    have e := r2.length
    rw [F.len _ _ _ _ hq] at e
    exact e.symm
  refine wpAny_call (make_map (f := f) I.kIn M.makes M.init (beq_iff_eq.mp M.fn) (codeAny_mono (F.run _ X.stack _ _ ⟨Value.ref (s.heap.objs.size + 1) :: us, []⟩ (Value.ref (s.heap.objs.size + 1) :: (us ++ ds)) _ _ E (hr.make C us [])
    (I2.env0.make C us []) (hb _ (Value.ref (s.heap.objs.size + 1) :: us) I2.kIn hl) r2 hq) fun r s' hq' => ?_))
  cases r with
  | error e => exact hx pins σ _ _ e s' I2 hq'
  | ok fl =>
    cases fl with
    | ret u =>
      obtain ⟨v, H', I3, rv, ev, q3⟩ := I2.after hq'
      subst ev
      exact ⟨rv, ⟨V.ref (s.heap.objs.size + 1), H', I3, rfl, q3⟩⟩
    | next => exact False.elim hq'
    | brk => exact False.elim hq'
    | cont => exact False.elim hq'
theorem pe_make (M : Mk X.K C f) (F : FnOk X.prog X.w X.K X.mg X.base CX k f fd ps sp) (hr : Room (k + 1) X.A) (hg : Gl X x) (hm : X.mg x = some (.ref C)) (hb : Binds X.K fd ps ds) (hd : Vals dvs ds) (hx : Passes CX X E)
    (ha : PA X (e :: es) t) (hdb : (x == ("__debug__" : Str)) = false := by decide) (he : starEach (e :: es) X.env = (false, eval e X.env) :: starEach es X.env := by rfl) (hpl : (backTo pos (starEach es X.env)).any (·.1) = false := by rfl) :
    PE X (.Call (.Name x p) (e :: es) [] pos) (tMake C sp dvs E t) := by
  intro pins s σ H Q I h
  refine wpAny_Call_Name_kw (ld_glob I hg hm ?_ hdb)
  refine PySem.W.callWith_K (h₀ := X.base) I.ok.mod.kin M.kp (thn (ha pos pins s σ H _ I h) fun us s1 ⟨vs, H1, I1, r, q⟩ => ⟨I1.kIn, ?_⟩) he hpl
  exact run_make M F hr hb hd hx I1 r q
theorem pe_make0 (M : Mk X.K C f) (F : FnOk X.prog X.w X.K X.mg X.base CX k f fd ps sp) (hr : Room (k + 1) X.A) (hg : Gl X x) (hm : X.mg x = some (.ref C)) (hb : Binds X.K fd ps ds) (hd : Vals dvs ds) (hx : Passes CX X E)
    (hdb : (x == ("__debug__" : Str)) = false := by decide) : PE X (.Call (.Name x p) [] [] pos) (tMake C sp dvs E tNil) := by
  intro pins s σ H Q I h
  refine wpAny_Call_Name_kw (ld_glob I hg hm ?_ hdb)
  exact PySem.W.callWith_K0 I.kIn M.kp (run_make (us := []) M F hr hb hd hx I .nil h)
end

/-! ### keywords -/
/-- the values of the keywords, from the left -/
def PK (X : Cx) (kws : List Keyword) (t : TA) : Prop :=
  ∀ (pos : Pos) (pins : List (Addr × Obj)) (s : Shared) (σ : St) (H : Hp) (Q : List V → Hp → Prop), Inv X pins σ H s → t σ H Q → wpAny (model X.prog X.w) X.A (evalAll ((backToKw pos (keywordEach kws X.env)).map (·.2))) (AP X pins σ Q) X.xe s
section
variable {X : Cx} {CX : CXT} {k : Nat} {f C : Addr} {fd : FuncData} {ps ks : List Str} {sp : Sp} {E : XK} {x m : Str} {p pos apos kpos : Pos} {e o : Expr} {es : List Expr} {kws : List Keyword} {te ta : TE} {t tk : TA} {nm : Option Str}
theorem pk_nil : PK X [] tNil := fun _ _ _ _ H Q I h => wpAny_evalAll_nil ⟨[], H, I, .nil, h⟩
theorem pk_cons (ha : PE X e te) (hr : PK X kws t) : PK X (⟨nm, e, kpos⟩ :: kws) (tCons te t) := by
  intro pos pins s σ H Q I h
  show wpAny _ _ (evalAll ((do let v ← eval e X.env; standAt pos; pure v) :: (backToKw pos (keywordEach kws X.env)).map (·.2))) _ _ s
  refine wpAny_evalAll_cons (wpAny_bind (thn (ha pins s σ H _ I h) fun u s1 ⟨x, H1, I1, r1, q1⟩ => wpAny_bind (wpAny_standAt (wpAny_pure ?_))))
  exact thn (hr pos pins s1 σ H1 _ I1 q1) fun us s2 ⟨xs, H2, I2, r2, q2⟩ => ⟨x :: xs, H2, I2, .cons r1 r2, q2⟩

/-- how a call with keywords binds: g puts the positional values us and the keywords' values ws (names ks) in the parameters' order, defaults among them -/
structure KBinds (K : PySem.W.Frag) (fd : FuncData) (ps ks : List Str) (g : List Value → List Value → List Value) (gV : List V → List V → List V) : Prop where
  to : ∀ (s : Shared) (us ws : List Value), K.In s.heap → (g us ws).length = ps.length → BindsTo s fd ⟨us, ks.zip ws⟩ (ps.zip (g us ws))
  rel : ∀ {vs : List V} {us : List Value} {zs : List V} {ws : List Value}, Vals vs us → Vals zs ws → Vals (gV vs zs) (g us ws)
def tCallK (sp : Sp) (gV : List V → List V → List V) (E : XK) (t tk : TA) : TE := fun σ H Q => t σ H fun vs H1 => tk σ H1 fun zs H2 => sp (gV vs zs) H2 Q E
variable {g : List Value → List Value → List Value} {gV : List V → List V → List V}
theorem run_fnk {pins : List (Addr × Obj)} {σ : St} {H : Hp} {s : Shared} {Q : VK} {us ws : List Value} {vs zs : List V} (F : FnOk X.prog X.w X.K X.mg X.base CX k f fd ps sp) (hr : Room k X.A) (hb : KBinds X.K fd ps ks g gV) (hx : Passes CX X E)
    (I : Inv X pins σ H s) (r : Vals vs us) (rz : Vals zs ws) (h : sp (gV vs zs) H Q E) : wpAny (model X.prog X.w) X.A (call (.ref f) us (ks.zip ws)) (EP X pins σ Q) X.xe s := by
  have r2 := hb.rel r rz
  have hl : (g us ws).length = ps.length := by rw [← r2.length]; exact F.len _ _ _ _ h
  refine wpAny_call (codeAny_mono (F.run X.A X.stack s H ⟨us, ks.zip ws⟩ (g us ws) (gV vs zs) Q E hr I.env0 (hb.to s us ws I.kIn hl) r2 h) fun r s' hq => ?_)
  cases r with
  | error e => exact hx pins σ H s e s' I hq
  | ok fl =>
    cases fl with
    | ret u => exact I.after hq
    | next => exact False.elim hq
    | brk => exact False.elim hq
    | cont => exact False.elim hq
/-- f(e, .., k = v, ..) -/
theorem pe_callK (F : FnOk X.prog X.w X.K X.mg X.base CX k f fd ps sp) (hr : Room k X.A) (hg : Gl X x) (hm : X.mg x = some (.ref f)) (hk : PySem.W.keepIn X.K (.ref f) = true) (hb : KBinds X.K fd ps ks g gV) (hx : Passes CX X E)
    (ha : PA X (e :: es) t) (hkw : PK X kws tk) (hall : (backToKw pos (keywordEach kws X.env)).all (·.1.isSome) = true := by rfl) (hks : (backToKw pos (keywordEach kws X.env)).filterMap (·.1) = ks := by rfl)
    (hdb : (x == ("__debug__" : Str)) = false := by decide) (he : starEach (e :: es) X.env = (false, eval e X.env) :: starEach es X.env := by rfl)
    (hpl : ((backTo pos (starEach (e :: es) X.env)).any (·.1) || (backToKw pos (keywordEach kws X.env)).any (·.1.isNone)) = false := by rfl) :
    PE X (.Call (.Name x p) (e :: es) kws pos) (tCallK sp gV E t tk) := by
  intro pins s σ H Q I h
  refine wpAny_Call_Name_kw (ld_glob I hg hm ?_ hdb)
  refine PySem.W.callWith_KW (h₀ := X.base) I.ok.mod.kin hk hall (thn (ha pos pins s σ H _ I h) fun us s1 ⟨vs, H1, I1, r, q⟩ => ?_) hpl he
  refine thn (hkw pos pins s1 σ H1 _ I1 q) fun ws s2 ⟨zs, H2, I2, rz, q2⟩ => ⟨I2.kIn, ?_⟩
  rw [hks]
  exact run_fnk F hr hb hx I2 r rz q2
end

/-! ### a def's body keeps its promise -/
/-- names: the parameters first -/
structure FnScope (N P : List Str) (sc : Scope) : Prop where
  kind : sc.kind = .function
  co : sc.isCoroutine = false
  gen : sc.isGenerator = false
  nd : N.Nodup
  pre : N.take P.length = P
  par : ∀ x ∈ P, sc.names.lookup x = some .local ∨ sc.names.lookup x = some .cell
  nofree : ∀ y ∈ sc.names, y.2 ≠ .free

theorem bindL_out {kindOf : Str → Option NameKind} {x : Str} : ∀ {binds : List (Str × Value)} {m : Str → Option Value}, (∀ v, (x, v) ∉ binds) → bindL kindOf binds m x = m x
  | [], _, _ => rfl
  | (n, v) :: r, m, h => by
    unfold bindL
    rw [bindL_out fun w hw => h w (List.mem_cons_of_mem _ hw)]
    split
    · have : x ≠ n := by rintro rfl; exact h v List.mem_cons_self
      simp [this]
    · rfl
theorem bindC_out {kindOf : Str → Option NameKind} {x : Str} : ∀ {binds : List (Str × Value)} {m : Str → Option Value}, (∀ v, (x, v) ∉ binds) → bindC kindOf binds m x = m x
  | [], _, _ => rfl
  | (n, v) :: r, m, h => by
    unfold bindC
    rw [bindC_out fun w hw => h w (List.mem_cons_of_mem _ hw)]
    split
    · rfl
    · have : x ≠ n := by rintro rfl; exact h v List.mem_cons_self
      simp [this]
theorem bindL_get {kindOf : Str → Option NameKind} {x : Str} {v : Value} : ∀ {P : List Str} {vs : List Value} {i : Nat} {m : Str → Option Value}, P.Nodup → P[i]? = some x → vs[i]? = some v → kindOf x = some .local →
    bindL kindOf (P.zip vs) m x = some v
  | [], _, _, _, _, h, _, _ => by simp at h
  | _ :: _, [], _, _, _, _, h, _ => by simp at h
  | p :: P, w :: vs, 0, m, nd, h1, h2, hk => by
    simp at h1 h2; subst h1; subst h2
    show bindL kindOf ((p, w) :: P.zip vs) m p = _
    unfold bindL
    rw [bindL_out fun v hv => (List.nodup_cons.mp nd).1 (List.of_mem_zip hv).1, if_pos hk]
    simp
  | p :: P, w :: vs, i + 1, m, nd, h1, h2, hk => by
    show bindL kindOf ((p, w) :: P.zip vs) m x = _
    unfold bindL
    exact bindL_get (i := i) (List.nodup_cons.mp nd).2 (by simpa using h1) (by simpa using h2) hk
theorem bindC_get {kindOf : Str → Option NameKind} {x : Str} {v : Value} : ∀ {P : List Str} {vs : List Value} {i : Nat} {m : Str → Option Value}, P.Nodup → P[i]? = some x → vs[i]? = some v → kindOf x ≠ some .local →
    bindC kindOf (P.zip vs) m x = some v
  | [], _, _, _, _, h, _, _ => by simp at h
  | _ :: _, [], _, _, _, _, h, _ => by simp at h
  | p :: P, w :: vs, 0, m, nd, h1, h2, hk => by
    simp at h1 h2; subst h1; subst h2
    show bindC kindOf ((p, w) :: P.zip vs) m p = _
    unfold bindC
    rw [bindC_out fun v hv => (List.nodup_cons.mp nd).1 (List.of_mem_zip hv).1, if_neg hk]
    simp
  | p :: P, w :: vs, i + 1, m, nd, h1, h2, hk => by
    show bindC kindOf ((p, w) :: P.zip vs) m x = _
    unfold bindC
    exact bindC_get (i := i) (List.nodup_cons.mp nd).2 (by simpa using h1) (by simpa using h2) hk

/-- the names' values at the entry -/
def start (N : List Str) (vs : List V) : St := vs.map some ++ List.replicate (N.length - vs.length) none

/-- the context of a def's body, at its entry; an exception leaves the frame, then lies as CX says -/
def cxOf (CX : CXT) (P : Program) (w : World) (K : PySem.W.Frag) (mg : Str → Option Value) (base : Heap) (N : List Str) (qual : Str) (scope : Scope) (f : Addr) (cd : Value) (A : Around) (outer : List Env) (s : Shared) (H : Hp) (E : XK) : Cx where
  prog := P
  w := w
  K := K
  mg := mg
  base := base
  A := A.deeper (envOfC qual scope s.heap.objs.size f cd)
  N := N
  s₀ := s
  H₀ := H
  env := envOfC qual scope s.heap.objs.size f cd
  outer := outer
  stack := envOfC qual scope s.heap.objs.size f cd :: outer
  ex := []
  calm := true
  fn := fun _ => true
  pn := []
  xe := fun e s' => wpAny (model P w) (A.deeper (envOfC qual scope s.heap.objs.size f cd)) (leaving (envOfC qual scope s.heap.objs.size f cd) e) (fun _ s'' => CX outer H s E e s'') (fun e' s'' => CX outer H s E e' s'') s'

theorem cell_has {sc : Scope} {n : Nat} {x : Str} (h : sc.names.lookup x = some .cell) : ∃ c, (cellsFrom n sc.names []).lookup x = some c := by
  have q := PySem.W.cellsFrom_some sc.names n [] (.inl h)
  exact Option.isSome_iff_exists.mp q

theorem inv_start {CX : CXT} {P : Program} {w : World} {K : PySem.W.Frag} {mg : Str → Option Value} {base : Heap} {N ps : List Str} {qual : Str} {scope : Scope} {f : Addr} {cd : Value} {A : Around} {outer : List Env} {s s1 : Shared} {H : Hp} {E : XK} {us : List Value} {vs : List V}
    (S : FnScope N ps scope) (hd : A.handled = none) (e0 : Env0 P w K mg base A outer s H) (hl : vs.length = ps.length) (r : Vals vs us)
    (x : InCallC s s.heap.objs.size (bindL (envOfC qual scope s.heap.objs.size f cd).kindOf (ps.zip us) fun _ => none) (cellsFrom (s.heap.objs.size + 1) scope.names []) (bindC (envOfC qual scope s.heap.objs.size f cd).kindOf (ps.zip us) fun _ => none) s1) :
    Inv (cxOf CX P w K mg base N qual scope f cd A outer s H E) [] (start N vs) H s1 := by
  have hpl : ps.length ≤ N.length := by have := congrArg List.length S.pre; rw [List.length_take] at this; omega
  obtain ⟨h1, tk, rfl, hk⟩ := x.done
  have noA : ∀ b : Addr, b ∉ (cxOf CX P w K mg base N qual scope f cd A outer s H E).ex := fun b z => absurd (show b ∈ ([] : List Addr) from z) (by simp)
  refine ⟨⟨e0.mod, S.kind, rfl, rfl, Nat.le_refl _, fun y z c h1 h2 => ?_, fun y hy => ?_, fun y c _ h => ?_, fun _ => hd, Around.frames_deeper e0.frames, .inr ⟨rfl, rfl⟩, fun b z => absurd z (noA b), e0.bs, e0.bsz, fun b _ _ => noA b, fun b z => absurd z (noA b), e0.funs, e0.frf⟩,
    rfl, e0.bare, Un.kept hk, ⟨_, x.toInCall.ns, fun i y v h1 h2 h3 => ?_⟩, fun y c h => ⟨_, x.cell y c h⟩, e0.hok.fresh (Nat.le_refl _), fun y c h => ?_, fun p hp => absurd (show p ∈ ([] : List (Addr × Obj)) from hp) (by simp), e0.hok.kept hk, ?_⟩
  · exact name_of_addr x.apart (PySem.mem_of_lookup h1) (PySem.mem_of_lookup h2)
  · have hy : scope.names.lookup y = some .cell ∨ scope.names.lookup y = some .free := hy
    rcases hy with hy | hy
    · exact cell_has hy
    · exact absurd rfl (S.nofree _ (PySem.mem_of_lookup hy))
  · exact Nat.le_of_lt (x.above y c (PySem.mem_of_lookup h))
  · have hi : i < vs.length := by
      unfold start at h2
      by_cases hi : i < vs.length
      · exact hi
      · rw [List.getElem?_append_right (by simpa using hi)] at h2
        rw [List.getElem?_replicate] at h2
        split at h2 <;> cases h2
    have ha : vs[i]? = some v := by
      unfold start at h2
      rw [List.getElem?_append_left (by simpa using hi), List.getElem?_map] at h2
      cases e : vs[i]? with
      | none => rw [e] at h2; cases h2
      | some a => rw [e] at h2; cases h2; rfl
    obtain ⟨u, hu, rv⟩ := r.get ha
    have hp : ps[i]? = some y := by
      rw [← S.pre, List.getElem?_take_of_lt (by omega)]; exact h1
    have ndP : ps.Nodup := by rw [← S.pre]; exact S.nd.sublist (List.take_sublist _ _)
    refine ⟨u, rv, ?_⟩
    rcases S.par y (List.mem_of_getElem? hp) with k | k
    · exact .inl ⟨k, bindL_get ndP hp hu k⟩
    · obtain ⟨c, e⟩ := cell_has (n := s.heap.objs.size + 1) k
      refine .inr ⟨.inl k, c, e, ?_⟩
      have q := x.cell y c e
      rw [bindC_get ndP hp hu (by show scope.names.lookup y ≠ _; rw [k]; decide)] at q
      exact q
  · exact e0.hok.fresh (Nat.le_of_lt (x.above y c (PySem.mem_of_lookup h)))
  · unfold start
    show _ = N.length
    rw [List.length_append, List.length_map, List.length_replicate]
    omega

/-- THE RULE: a def (or a method) of the text, by its body. The body's reading t is chosen for each entry; it is run at the parameters' values -/
theorem fn_of {CX : CXT} {P : Program} {w : World} {K : PySem.W.Frag} {mg : Str → Option Value} {base : Heap} {k : Nat} {f : Addr} {name qual : Str} {params : Arguments} {body : List Stmt} {scope : Scope} {dV kV doc pm cdv ct oc : Value} {an od : Option Addr}
    {osl : Array (Option Value)} {N ps : List Str} {sp : Sp} (lk : K.lookup f = some ⟨oc, od, .func (PySem.W.fnOf name qual params body scope dV kV doc pm an cdv ct), osl⟩) (hcd : PySem.W.codeIn K cdv qual = true) (S : FnScope N ps scope)
    (len : ∀ vs H Q E, sp vs H Q E → vs.length = ps.length)
    (hbody : ∀ (A : Around) (outer : List Env) (s : Shared) (H : Hp) (vs : List V) (Q : VK) (E : XK), Room k (A.deeper (envOfC qual scope s.heap.objs.size f cdv)) → sp vs H Q E →
      ∃ t, PSs (cxOf CX P w K mg base N qual scope f cdv A outer s H E) body t ∧ t { nx := fun _ H' => Q .non H', rt := Q } (start N vs) H) :
    FnOk P w K mg base CX (k + 1) f (PySem.W.fnOf name qual params body scope dV kV doc pm an cdv ct) ps sp := by
  refine ⟨len, fun A outer s H args us vs Q E hr e0 hb r hsp => ?_⟩
  have hl := len _ _ _ _ hsp
  have KX : K.In s.heap := e0.mod.kin.keeps fun b o e => (e0.bs b o e).1
  have lim : s.heap.NoLimit := e0.mod.nolimit.keeps fun b o e => (e0.bs b o e).1
  have hkind : ∀ y ∈ ps.zip us, scope.names.lookup y.1 = some .local ∨ (scope.names.lookup y.1 = some .cell ∧ ((cellsFrom (s.heap.objs.size + 1) scope.names []).lookup y.1).isSome = true) := fun ⟨n, v⟩ hy => by
    rcases S.par n (List.of_mem_zip hy).1 with q | q
    · exact .inl q
    · exact .inr ⟨q, PySem.W.cellsFrom_some _ _ _ (.inl q)⟩
  refine codeAny_call_function hr.depth (KX _ _ lk) rfl S.co S.gen rfl (PySem.W.codeRec_of KX hcd) (hb _ _ _ _ ?_)
  refine wpAny_newFunctionEnv_cells S.kind hkind fun env he s1 x => ?_
  subst he
  refine ⟨lim.keeps x.toInCall.keep, codeAny_func ?_⟩
  obtain ⟨t, ht, hq⟩ := hbody A outer s H vs Q E (hr.deeper _) hsp
  have I : Inv (cxOf CX P w K mg base N qual scope f cdv A outer s H E) [] (start N vs) H s1 := inv_start S hr.hd e0 hl r x
  refine wpAny_mono (ht [] s1 (start N vs) H _ I hq) (fun fl s' hs => ?_) fun e s' hs => hs
  have fin : ∀ {σ' : St} {H' : Hp} {v : V} {u : Value}, Inv (cxOf CX P w K mg base N qual scope f cdv A outer s H E) [] σ' H' s' → RelV v u → Q v H' → CE outer P w H s Q u s' :=
    fun {σ' H' v u} J rv q => ⟨v, H', J.os, J.bare, J.base, J.hok, rv, q⟩
  cases fl with
  | ret u =>
    obtain ⟨v, σ', H', J, rv, q⟩ := hs
    exact fin J rv q
  | next =>
    obtain ⟨σ', H', J, q⟩ := hs
    exact fin (v := V.non) (u := Value.none) J rfl q
  | brk =>
    obtain ⟨_, _, _, q⟩ := hs
    exact False.elim q
  | cont =>
    obtain ⟨_, _, _, q⟩ := hs
    exact False.elim q
end L2

namespace L2
open PySem PySem.Spec PyProof.Rows
section
variable {X : Cx} {x : Str} {p pos : Pos} {e : Expr} {es : List Expr} {t : TA} {id T : String} {r : List V → Hp → VK → Prop}

def tCB (r : List V → Hp → VK → Prop) (t : TA) : TE := fun σ H Q => t σ H fun vs H1 => r vs H1 Q
/-- f(e, ..), f a built-in function -/
theorem pe_callB (hc : CallR X (.builtin id) r) (hg : Gl X x) (hm : X.mg x = none) (hv : bootBuiltins x = some (.builtin id)) (ha : PA X (e :: es) t) (hn : x ≠ "__name__" := by decide) (hdb : (x == ("__debug__" : Str)) = false := by decide)
    (he : starEach (e :: es) X.env = (false, eval e X.env) :: starEach es X.env := by rfl) (hpl : (backTo pos (starEach es X.env)).any (·.1) = false := by rfl) : PE X (.Call (.Name x p) (e :: es) [] pos) (tCB r t) := by
  intro pins s σ H Q I h
  refine wpAny_Call_Name_kw (ld_blt I hg hm hv ?_ hn hdb)
  exact PyProof.Rows.callWith_builtin1 (thn (ha pos pins s σ H _ I h) fun us s1 ⟨vs, H1, I1, r1, q1⟩ => hc pins s1 σ H1 vs us Q I1 r1 q1) he hpl
/-- T(e, ..), T a built-in type -/
theorem pe_callTy (hc : CallR X (.type T) r) (hg : Gl X x) (hm : X.mg x = none) (hv : bootBuiltins x = some (.type T)) (ha : PA X (e :: es) t) (hn : x ≠ "__name__" := by decide) (hdb : (x == ("__debug__" : Str)) = false := by decide)
    (he : starEach (e :: es) X.env = (false, eval e X.env) :: starEach es X.env := by rfl) (hpl : (backTo pos (starEach es X.env)).any (·.1) = false := by rfl) : PE X (.Call (.Name x p) (e :: es) [] pos) (tCB r t) := by
  intro pins s σ H Q I h
  refine wpAny_Call_Name_kw (ld_blt I hg hm hv ?_ hn hdb)
  exact PyProof.Rows.callWith_type1 (thn (ha pos pins s σ H _ I h) fun us s1 ⟨vs, H1, I1, r1, q1⟩ => hc pins s1 σ H1 vs us Q I1 r1 q1) he hpl
/-- T() -/
theorem pe_callTy0 (hc : CallR X (.type T) r) (hg : Gl X x) (hm : X.mg x = none) (hv : bootBuiltins x = some (.type T)) (hn : x ≠ "__name__" := by decide) (hdb : (x == ("__debug__" : Str)) = false := by decide) :
    PE X (.Call (.Name x p) [] [] pos) (tCB r tNil) := by
  intro pins s σ H Q I h
  refine wpAny_Call_Name_kw (ld_blt I hg hm hv ?_ hn hdb)
  exact PyProof.Rows.callWith_type0 (hc pins s σ H [] [] Q I .nil h)
end
end L2

namespace HT
open PySem PyProof.Rows

/-- t < u of tuples of ints -/
def lexLt : List Int → List Int → Bool
  | [], [] => false
  | [], _ :: _ => true
  | _ :: _, [] => false
  | x :: xs, y :: ys => if x = y then lexLt xs ys else decide (x < y)
theorem lexLt_cons (x y : Int) (xs ys : List Int) : lexLt (x :: xs) (y :: ys) = if x = y then lexLt xs ys else decide (x < y) := rfl
theorem lexLt_nil_nil : lexLt [] [] = false := rfl
theorem lexLt_nil_cons (y : Int) (ys : List Int) : lexLt [] (y :: ys) = true := rfl
theorem lexLt_cons_nil (x : Int) (xs : List Int) : lexLt (x :: xs) [] = false := rfl

theorem eqAt_int (A : Around) (s : Shared) (a : Int) (t : Tok) (c : Int) (u : Tok) : ∃ e, SeqAt.EqAt A s (.int a t) (.int c u) e ∧ (e = true ↔ a = c) :=
  ⟨(a == c), SeqAt.EqAt.int_int a t c u, by simp⟩
theorem rcLt_int (A : Around) (s : Shared) (a : Int) (t : Tok) (c : Int) (u : Tok) (prog : Program) (w : World) (E : Value → Shared → Prop) (Q : Value → Shared → Prop) (h : Q (.bool (decide (a < c))) s) :
    wpAny (model prog w) A (richCompare .Lt (.int a t) (.int c u)) Q E s :=
  (PyProof.Rows.lt_int h : wpAny (model prog w) A (compareOp .Lt (.int a t) (.int c u)) Q E s)

section
open PySem.SeqAt
open PySem.AutoSeq1 (wpAny_loadPart')
open PySem.MeetsSeq PySem.MeetsSeq2 PySem.MeetsSeq3

theorem tuple_lt_ints (l b : Addr) (items items2 : Array Value) (n n2 : Nat) (dd dd2 : Option Addr) (sl sl2 : Array (Option Value)) (ns ms : List Int) (hi : IntsAre items.toList ns) (hj : IntsAre items2.toList ms) :
    Meets (Builtin.«tuple.__lt__» ⟨[.ref l, .ref b], []⟩)
      (fun _ R s => s.heap.get? l = some { cls := .type "tuple", dict := dd, data := .seq items n, slots := sl } ∧ s.heap.get? b = some { cls := .type "tuple", dict := dd2, data := .seq items2 n2, slots := sl2 } ∧
        R (.ok (.ret (.bool (lexLt ns ms)))) s) :=
  .of_wp fun prog w A R s h => by
    obtain ⟨hp, g, d, tk, os⟩ := s; obtain ⟨hl, hb, h⟩ := h
    have f2 := AutoSeq1.sub_tuple_tuple
    have z1 : items.size = ns.length := by rw [← hi.length]; simp
    have z2 : items2.size = ms.length := by rw [← hj.length]; simp
    wp_walk using wpAny_loadPart' hl, wpAny_loadPart' hb, wpAny_forIn_list _ (fun rest b s' => b.1 = none ∧ s' = ⟨hp, g, d, tk, os⟩ ∧ ∃ (vs ws : List Value) (ns' ms' : List Int), rest = vs.zip ws ∧
      IntsAre vs ns' ∧ IntsAre ws ms' ∧ ns'.length + items2.size = ms'.length + items.size ∧ R (.ok (.ret (.bool (lexLt ns' ms')))) ⟨hp, g, d, tk, os⟩) _
    case turn =>
      rintro ⟨y, x⟩ rest b s' ⟨hb', rfl, vs, ws, ns', ms', hz, hvi, hwi, hlen, hR⟩
      cases hvi with
      | nil => rw [List.zip_nil_left] at hz; cases hz
      | cons a t hvi' =>
        cases hwi with
        | nil => rw [List.zip_nil_right] at hz; cases hz
        | cons c u hwi' =>
          rw [List.zip_cons_cons] at hz
          injection hz with hyx hrest
          injection hyx with hy hx
          subst hy hx
          rw [lexLt_cons] at hR
          simp only [List.length_cons] at hlen
          obtain ⟨e, he, hiff⟩ := eqAt_int A.in1 ⟨hp, g, d, tk, os⟩ a t c u
          refine wpAny_bind (he prog w _ _ ?_)
          cases e with
          | true =>
            rw [if_pos (hiff.mp rfl)] at hR
            wp_walk
            exact ⟨rfl, rfl, _, _, _, _, hrest, hvi', hwi', by omega, hR⟩
          | false =>
            rw [if_neg (fun q => absurd (hiff.mpr q) Bool.false_ne_true)] at hR
            have hri := rcLt_int A.in1 ⟨hp, g, d, tk, os⟩ a t c u prog w
            wp_walk using hri
            exact ⟨_, rfl, by simpa using hR⟩
    case fin =>
      rintro ⟨b1, b2⟩ s' ⟨hb', rfl, vs, ws, ns', ms', hz, hvi, hwi, hlen, hR⟩
      simp only at hb'
      subst hb'
      have hv : lexLt ns' ms' = decide (items.size < items2.size) := by
        cases hvi with
        | nil =>
          cases hwi with
          | nil =>
            simp only [List.length_nil] at hlen
            rw [lexLt_nil_nil]
            exact (decide_eq_false (by omega)).symm
          | cons c u hw =>
            simp only [List.length_nil, List.length_cons] at hlen
            rw [lexLt_nil_cons]
            exact (decide_eq_true (by omega)).symm
        | cons a t hv =>
          cases hwi with
          | nil =>
            simp only [List.length_nil, List.length_cons] at hlen
            rw [lexLt_cons_nil]
            exact (decide_eq_false (by omega)).symm
          | cons c u hw =>
            rw [List.zip_cons_cons] at hz
            cases hz
      rw [hv] at hR
      wp_walk
      exact ⟨_, rfl, by simpa [Builtin.Tuple.tupleCompareSizes] using hR⟩
    case h =>
      exact ⟨rfl, rfl, items.toList, items2.toList, ns, ms, rfl, hi, hj, by omega, h⟩
end

section
variable {prog : Program} {w : World} {A : Around} {E : Value → Shared → Prop} {s : Shared}

theorem lt_tupInts {l b : Addr} {items items2 : Array Value} {ns ms : List Int} {Q : Value → Shared → Prop} (hl : IsTup s.heap l items) (hb : IsTup s.heap b items2) (hi : IntsAre items.toList ns) (hj : IntsAre items2.toList ms)
    (hu : A.units < cLine) (h : Q (.bool (lexLt ns ms)) s) : wpAny (model prog w) A (compareOp .Lt (.ref l) (.ref b)) Q E s := by
  obtain ⟨⟨cls, dd, data, sl⟩, ho, hc, n, hd⟩ := id hl
  obtain ⟨⟨cls2, dd2, data2, sl2⟩, ho2, hc2, n2, hd2⟩ := id hb
  simp only at hc hd hc2 hd2
  subst hc hd hc2 hd2
  exact richCompare_meets_room (op := .Lt) ⟨_, ho, rfl⟩ ⟨_, ho2, rfl⟩ PySem.F.slot_tuple_lt PySem.F.entry_tuple_lt (PySem.F.args_tuple_lt_2 _ _) (tuple_lt_ints l b items items2 n n2 dd dd2 sl sl2 ns ms hi hj)
    ⟨ho, ho2, show Value.bool (lexLt ns ms) ≠ Value.notImplemented ∧ Q (.bool (lexLt ns ms)) s from ⟨(fun x => nomatch x), h⟩⟩ hu

/-- t + u, t not empty -/
theorem cat_tup {t b : Addr} {vs ws : List Value} {Q : Value → Shared → Prop} (ht : IsTup s.heap t vs.toArray) (hb : IsTup s.heap b ws.toArray) (hv : vs ≠ [])
    (h1 : ws = [] → Q (.ref t) s) (h2 : ws ≠ [] → Q (.ref s.heap.objs.size) { s with heap := s.heap.push { cls := .type "tuple", data := .seq (vs ++ ws).toArray } })
    (hsz : vs.length + ws.length ≤ sizeLine) : wpAny (model prog w) A (binaryOp .Add (.ref t) (.ref b)) Q E s := by
  obtain ⟨⟨cls, dd, data, sl⟩, ho, hc, n, hd⟩ := id ht
  obtain ⟨⟨cls2, dd2, data2, sl2⟩, ho2, hc2, n2, hd2⟩ := id hb
  simp only at hc hd hc2 hd2
  subst hc hd hc2 hd2
  have e : vs.toArray ++ ws.toArray = (vs ++ ws).toArray := by simp
  by_cases hw : ws = []
  · exact concat_meets ⟨_, ho, rfl⟩ ⟨_, ho2, rfl⟩ noFill_tuple_add seq_tuple_add PySem.F.slot_tuple_add PySem.F.entry_tuple_add (PySem.F.args_tuple_add_2 _ _)
      (tuple_addW1 t b vs.toArray ws.toArray n n2 dd dd2 sl sl2 (by simpa using hv) (by simp [hw])) ⟨ho, ho2, h1 hw⟩
  · refine concat_meets ⟨_, ho, rfl⟩ ⟨_, ho2, rfl⟩ noFill_tuple_add seq_tuple_add PySem.F.slot_tuple_add PySem.F.entry_tuple_add (PySem.F.args_tuple_add_2 _ _)
      (tuple_addW2 t b vs.toArray ws.toArray n n2 dd dd2 sl sl2 (by simpa using hv) (by simpa using hw) (by rw [List.size_toArray, List.size_toArray]; exact hsz)) ⟨ho, ho2, ?_⟩
    rw [e]
    exact h2 hw

/-! ### t[a:b], not the whole -/
/-- a slice's bound as a place among n (d where it is left out) -/
def sIx (n d : Nat) : Option Int → Nat
  | none => d
  | some v => if v < 0 then (v + (n : Int)).toNat else min v.toNat n
theorem sIx_none (n d : Nat) : sIx n d none = d := rfl
theorem sIx_nat (n d k : Nat) : sIx n d (some (k : Int)) = min k n := by
  show (if (k : Int) < 0 then ((k : Int) + (n : Int)).toNat else min (k : Int).toNat n) = min k n
  rw [if_neg (by omega), Int.toNat_natCast]
theorem sIx_le (n d : Nat) (hd : d ≤ n) (o : Option Int) : sIx n d o ≤ n := by
  cases o with
  | none => exact hd
  | some v =>
    show (if v < 0 then (v + (n : Int)).toNat else min v.toNat n) ≤ n
    by_cases hv : v < 0
    · rw [if_pos hv]; omega
    · rw [if_neg hv]; exact Nat.min_le_right _ _
theorem clip_eq (v : Int) (n d : Nat) : (if v < 0 then max (v + (n : Int)) 0 else min v (n : Int)) = ((sIx n d (some v) : Nat) : Int) := by
  show (if v < 0 then max (v + (n : Int)) 0 else min v (n : Int)) = (((if v < 0 then (v + (n : Int)).toNat else min v.toNat n) : Nat) : Int)
  by_cases hv : v < 0
  · simp only [if_pos hv]; omega
  · simp only [if_neg hv]; omega
theorem adjust_gen (lo hi : Option Int) (n : Nat) : Builtin.Slice.sliceAdjust lo hi 1 (n : Int) = (((sIx n 0 lo : Nat) : Int), ((sIx n n hi : Nat) : Int)) := by
  have h1 : ¬ ((1 : Int) < 0) := by omega
  unfold Builtin.Slice.sliceAdjust
  simp only [h1, if_false]
  refine Prod.ext ?_ ?_
  · cases lo with
    | none => rfl
    | some v => exact clip_eq v n 0
  · cases hi with
    | none => rfl
    | some v => exact clip_eq v n n
theorem places_gen (i j : Nat) : Builtin.Slice.slicePlaces (i : Int) (j : Int) 1 = j - i := by
  unfold Builtin.Slice.slicePlaces
  have h1 : (1 : Int) > 0 := by omega
  simp only [h1, if_true, Int.ediv_one]
  split <;> omega
theorem slicePart_ {v : Value} {o : Option Int} {Q : Option Int → Shared → Prop} (p : IsPart v o) (h : Q o s) : wpAny (model prog w) A (Builtin.Slice.slicePartIndex v) Q E s := by
  cases p with
  | none => exact slicePart_none h
  | int i t => exact slicePart_int h
theorem sliceApplied_gen {sl : Addr} {vl vu : Value} {lo hi : Option Int} {n : Nat} {Q : Int × Int × Nat → Shared → Prop} (hs : s.heap.IsSliceOf sl vl vu .none) (pl : IsPart vl lo) (pu : IsPart vu hi)
    (h : Q (((sIx n 0 lo : Nat) : Int), 1, sIx n n hi - sIx n 0 lo) s) : wpAny (model prog w) A (Builtin.Slice.sliceApplied (.ref sl) (pure (n : Int))) Q E s := by
  obtain ⟨os, hos, hcs, hds⟩ := id hs
  unfold Builtin.Slice.sliceApplied Builtin.Slice.sliceFields
  refine wpAny_bind (wpAny_bind (wpAny_field hos hds (x := vl) rfl (wpAny_bind (wpAny_field hos hds (x := vu) rfl (wpAny_bind (wpAny_field hos hds (x := .none) rfl (wpAny_pure ?_)))))))
  refine wpAny_bind (slicePart_none ?_)
  show wpAny _ _ (if ((1 : Int) == 0) = true then _ else _) _ _ s
  rw [if_neg (by decide)]
  refine wpAny_bind (slicePart_ pl (wpAny_bind (slicePart_ pu (wpAny_bind (wpAny_pure ?_)))))
  show wpAny _ _ (match Builtin.Slice.sliceAdjust lo hi 1 (n : Int) with | (lo, hi) => pure (lo, (1 : Int), Builtin.Slice.slicePlaces lo hi 1)) _ _ s
  rw [adjust_gen lo hi n]
  show wpAny _ _ (pure (((sIx n 0 lo : Nat) : Int), (1 : Int), Builtin.Slice.slicePlaces ((sIx n 0 lo : Nat) : Int) ((sIx n n hi : Nat) : Int) 1)) _ _ s
  rw [places_gen]
  exact wpAny_pure h
theorem pick_gen (xs : Array Value) (i k : Nat) : ((List.range k).filterMap fun (m : Nat) => xs[((i : Int) + (m : Int) * 1).toNat]?).toArray = ((xs.toList.drop i).take k).toArray := by
  have e : (fun (m : Nat) => xs[((i : Int) + (m : Int) * 1).toNat]?) = fun m => xs[i + m]? := by
    funext m
    have : ((i : Int) + (m : Int) * 1).toNat = i + m := by omega
    rw [this]
  rw [e]
  have := pick_run xs i k
  rw [List.filterMap_map] at this
  have e2 : ((fun x => xs[x]?) ∘ fun x => i + x) = fun m => xs[i + m]? := rfl
  rw [e2] at this
  rw [this]

theorem getItem_tuple_cut {t sl : Addr} {items : Array Value} {vl vu : Value} {lo hi : Option Int} {Q : Value → Shared → Prop} (ht : IsTup s.heap t items) (hs : s.heap.IsSliceOf sl vl vu .none) (pl : IsPart vl lo) (pu : IsPart vu hi)
    (hw : ¬ (sIx items.size 0 lo = 0 ∧ sIx items.size items.size hi = items.size))
    (h : Q (.ref s.heap.objs.size) { s with heap := s.heap.push { cls := .type "tuple", data := .seq ((items.toList.drop (sIx items.size 0 lo)).take (sIx items.size items.size hi - sIx items.size 0 lo)).toArray } })
    (hsz : items.size ≤ sizeLine) : wpAny (model prog w) A (getItem (.ref t) (.ref sl)) Q E s := by
  have htake : sizeOk (.seq ((items.toList.drop (sIx items.size 0 lo)).take (sIx items.size items.size hi - sIx items.size 0 lo)).toArray) := by
    show ((items.toList.drop (sIx items.size 0 lo)).take (sIx items.size items.size hi - sIx items.size 0 lo)).toArray.size ≤ sizeLine
    rw [List.size_toArray, List.length_take, List.length_drop, Array.length_toList]
    omega
  have hj : sIx items.size items.size hi ≤ items.size := sIx_le _ _ (Nat.le_refl _) hi
  obtain ⟨os, hos, hcs, hds⟩ := id hs
  have hTs : s.TypeIs (.ref sl) "slice" := ⟨os, hos, hcs⟩
  unfold getItem
  try with_reducible refine wpAny_holding ?_
  first | refine wpAny_bind (wpAny_pure ?_) | skip
  refine wpAny_bind (wpAny_sequenceKey ht.typeIs (by decide) ?_)
  refine wpAny_bind (wpAny_callSpecial?_slot (name := Str.ofString "__getitem__") ht.typeIs PyProof.Rows.slot_tuple_getitem
    (wpAny_call_entry PyProof.Rows.slot_tuple_getitem ht.typeIs entry_tuple_getitem ?_ (args_tuple_getitem _ _)))
  show wpAny _ _ (Builtin.Tuple.tupleItemsOf (.ref t) >>= _) _ _ s
  refine wpAny_bind (tupleItemsOf_ ht ?_)
  refine wpAny_bind (wpAny_typeOf hTs ?_)
  rw [if_pos (by decide)]
  refine wpAny_bind (sliceApplied_gen hs pl pu ?_)
  have hno : ¬ ((((sIx items.size 0 lo : Nat) : Int) == 0 && (1 : Int) == 1 && (sIx items.size items.size hi - sIx items.size 0 lo) == items.size) = true) := by
    intro q
    rw [Bool.and_eq_true, Bool.and_eq_true] at q
    have q1 : ((sIx items.size 0 lo : Nat) : Int) = 0 := eq_of_beq q.1.1
    have q2 : sIx items.size items.size hi - sIx items.size 0 lo = items.size := eq_of_beq q.2
    exact hw ⟨by omega, by omega⟩
  show wpAny _ _ (if (((sIx items.size 0 lo : Nat) : Int) == 0 && (1 : Int) == 1 && (sIx items.size items.size hi - sIx items.size 0 lo) == items.size) = true then _ else _) _ _ s
  rw [if_neg hno, pick_gen]
  first
    | exact wpAny_bind (m := Builtin.Tuple.tupleExact _) (wpAny_newObj_type (wpAny_pure ⟨_, rfl, wpAny_pure h⟩) htake)
    | exact wpAny_bind (m := Builtin.Tuple.tupleExact _) (wpAny_newObj_type (wpAny_bind (wpAny_pure (wpAny_pure ⟨_, rfl, wpAny_pure h⟩))) htake)
    | exact wpAny_bind (wpAny_bind (m := Builtin.Tuple.tupleExact _) (wpAny_newObj_type (wpAny_pure (wpAny_pure ⟨_, rfl, wpAny_pure h⟩)) htake))
    | exact wpAny_bind (wpAny_bind (m := Builtin.Tuple.tupleExact _) (wpAny_newObj_type (wpAny_pure ⟨_, rfl, wpAny_pure h⟩) htake))
end
end HT

namespace L2
open PySem PySem.Spec PyProof.Rows

/-! ### the parts of a slice -/
abbrev TO := St → Hp → (Option Int → Hp → Prop) → Prop
/-- a slice's part (left out, or an int) -/
def PO (X : Cx) (e : Option Expr) (t : TO) : Prop :=
  ∀ (pins : List (Addr × Obj)) (s : Shared) (σ : St) (H : Hp) (Q : Option Int → Hp → Prop), Inv X pins σ H s → t σ H Q →
    wpAny (model X.prog X.w) X.A (evalPart e X.env) (fun u s' => ∃ o H', Inv X pins σ H' s' ∧ IsPart u o ∧ Q o H') X.xe s
def tNoPart : TO := fun _ H Q => Q none H
def tPart (t : TE) : TO := fun σ H Q => t σ H fun x H1 => ∃ i, x = .int i ∧ Q (some i) H1

theorem intsAre_of {ns : List Int} : ∀ {us : List Value}, Vals (ns.map V.int) us → IntsAre us ns := by
  induction ns with
  | nil => intro us r; rw [List.map_nil] at r; cases r; exact .nil
  | cons n ns ih =>
    intro us r
    rw [List.map_cons] at r
    cases r with
    | cons r1 r2 =>
      obtain ⟨t, e⟩ := r1
      subst e
      exact .cons n t (ih r2)

section
variable {X : Cx} {e : Expr} {te : TE} {lo hi : Option Expr} {tl th : TO} {pos p2 : Pos}

theorem po_none : PO X none tNoPart := by
  intro pins s σ H Q I h
  rw [evalPart_none]
  exact wpAny_pure ⟨none, H, I, .none, h⟩
theorem po_some (h : PE X e te) : PO X (some e) (tPart te) := by
  intro pins s σ H Q I hw
  rw [evalPart_some]
  refine thn (h pins s σ H _ I hw) fun u s1 ⟨x, H1, I1, r1, q1⟩ => ?_
  obtain ⟨i, rfl, q⟩ := q1
  obtain ⟨t, rfl⟩ := r1
  exact ⟨some i, H1, I1, .int i t, q⟩

/-- what a slice of a value is, by values: the slice object stands at sl -/
def SlR (X : Cx) (r : V → Option Int → Option Int → Hp → VK → Prop) : Prop :=
  ∀ (pins : List (Addr × Obj)) (s : Shared) (σ : St) (H : Hp) (x : V) (v vl vu : Value) (lo hi : Option Int) (sl : Addr) (Q : VK), Inv X pins σ H s → RelV x v → s.heap.IsSliceOf sl vl vu .none → IsPart vl lo → IsPart vu hi → r x lo hi H Q →
    ∃ T id, typeLookup (.type T) "__getitem__" = pure (some (.builtin id)) ∧ s.TypeIs v T ∧ wpAny (model X.prog X.w) X.A (getItem v (.ref sl)) (EP X pins σ Q) X.xe s
theorem SlR.or {r r' : V → Option Int → Option Int → Hp → VK → Prop} (h : SlR X r) (h' : SlR X r') : SlR X (fun x lo hi H Q => r x lo hi H Q ∨ r' x lo hi H Q) := by
  intro pins s σ H x v vl vu lo hi sl Q I rx hs pl pu q
  rcases q with q | q
  · exact h pins s σ H x v vl vu lo hi sl Q I rx hs pl pu q
  · exact h' pins s σ H x v vl vu lo hi sl Q I rx hs pl pu q
def tSl (r : V → Option Int → Option Int → Hp → VK → Prop) (te : TE) (tl th : TO) : TE := fun σ H Q => te σ H fun x H1 => tl σ H1 fun l H2 => th σ H2 fun u H3 => r x l u H3 Q
/-- a[lo:hi], any a -/
theorem pe_slice {r : V → Option Int → Option Int → Hp → VK → Prop} (hr : SlR X r) (he : PE X e te) (hl : PO X lo tl) (hu : PO X hi th) : PE X (.Subscript e (.Slice lo hi none p2) pos) (tSl r te tl th) := by
  intro pins s σ H Q I h
  refine Subscript_ (thn (he pins s σ H _ I h) fun v s1 ⟨x, H1, I1, r1, q1⟩ => ?_)
  refine wpAny_Slice (thn (hl pins s1 σ H1 _ I1 q1) fun vl s2 ⟨l, H2, I2, pl, q2⟩ => thn (hu pins s2 σ H2 _ I2 q2) fun vu s3 ⟨u, H3, I3, pu, q3⟩ => ?_)
  rw [evalPart_none]
  refine wpAny_pure ?_
  have I4 : Inv X pins σ H3 { s3 with heap := s3.heap.push { cls := .type "slice", data := .fields #[vl, vu, .none] } } := I3.kept (t' := s3.toks) fun b ob q => Heap.get?_push_of_some _ q
  obtain ⟨T, id, hT, ht, hg⟩ := hr pins { s3 with heap := s3.heap.push { cls := .type "slice", data := .fields #[vl, vu, .none] } } σ H3 x v vl vu l u s3.heap.objs.size Q I4 r1 (Heap.IsSliceOf.new ..) pl pu q3
  show wpAny (model X.prog X.w) X.A (subscriptTail e (.Slice lo hi none p2) v (.ref s3.heap.objs.size)) (EP X pins σ Q) X.xe { s3 with heap := s3.heap.push { cls := .type "slice", data := .fields #[vl, vu, .none] } }
  exact tail_any (ops := [.ref s3.heap.objs.size, v]) ht hT hg (by with_unfolding_all rfl)

/-- the items of xs[lo:hi] -/
def cutV (xs : List V) (lo hi : Option Int) : List V := (xs.drop (HT.sIx xs.length 0 lo)).take (HT.sIx xs.length xs.length hi - HT.sIx xs.length 0 lo)
theorem cutV_length (xs : List V) (lo hi : Option Int) : (cutV xs lo hi).length ≤ xs.length := by
  unfold cutV
  rw [List.length_take, List.length_drop]
  omega
/-- t[lo:hi], not the whole of it (the whole would be t itself) -/
def rSlT (K : PySem.W.Frag) : V → Option Int → Option Int → Hp → VK → Prop := fun x lo hi H Q => ∃ a xs, x = .ref a ∧ SqT K H a xs ∧
  ¬ (HT.sIx xs.length 0 lo = 0 ∧ HT.sIx xs.length xs.length hi = xs.length) ∧ ∀ p, H p = none → Q (.ref p) (upd H p (.tup (cutV xs lo hi)))
theorem sl_tup : SlR X (rSlT X.K) := by
  intro pins s σ H x v vl vu lo hi sl Q I rx hs pl pu h
  obtain ⟨a, xs, rfl, hx, hw, q⟩ := h
  cases rx
  obtain ⟨its, r, ht, hz⟩ := I.tuple hx
  have hlen : its.toArray.size = xs.length := by rw [List.size_toArray]; exact r.length.symm
  refine ⟨"tuple", _, PyProof.Rows.slot_tuple_getitem.lookup, ht.typeIs, ?_⟩
  refine HT.getItem_tuple_cut ht hs pl pu (by rw [hlen]; exact hw) ?_ (by rw [hlen]; exact hz)
  rw [hlen]
  refine ⟨.ref s.heap.objs.size, _, I.laid (t' := s.toks) (o := .tup (cutV xs lo hi)) (fun b ob q => Heap.get?_push_of_some _ q) (Nat.le_refl _) ?_, rfl, q _ (I.hok.fresh (Nat.le_refl _))⟩
  exact ⟨Nat.le_trans (cutV_length xs lo hi) hz, _, (r.drop (HT.sIx xs.length 0 lo)).take (HT.sIx xs.length xs.length hi - HT.sIx xs.length 0 lo), IsTup.new _ _⟩

/-! ### t < u, t + u -/
def rLtT (K : PySem.W.Frag) : R2 := fun x y H Q => ∃ a b ns ms, x = .ref a ∧ y = .ref b ∧ SqT K H a (ns.map V.int) ∧ SqT K H b (ms.map V.int) ∧ Q (.bl (HT.lexLt ns ms)) H
theorem op_ltT (hu : X.A.units < cLine) : OpR X (compareOp .Lt) (rLtT X.K) := by
  intro pins s σ H x y v u Q I rx ry h
  obtain ⟨a, b, ns, ms, rfl, rfl, ha, hb, q⟩ := h
  cases rx
  cases ry
  obtain ⟨its, r1, p1, _⟩ := I.tuple ha
  obtain ⟨its2, r2, p2, _⟩ := I.tuple hb
  have i1 : IntsAre its.toArray.toList ns := intsAre_of r1
  have i2 : IntsAre its2.toArray.toList ms := intsAre_of r2
  exact HT.lt_tupInts p1 p2 i1 i2 hu ⟨.bl (HT.lexLt ns ms), H, I, rfl, q⟩
/-- t + u, t not empty: u empty gives t itself -/
def rCatT (K : PySem.W.Frag) : R2 := fun x y H Q => ∃ a b xs ys, x = .ref a ∧ y = .ref b ∧ SqT K H a xs ∧ SqT K H b ys ∧ xs ≠ [] ∧ xs.length + ys.length ≤ sizeLine ∧
  (ys = [] → Q (.ref a) H) ∧ (ys ≠ [] → ∀ p, H p = none → Q (.ref p) (upd H p (.tup (xs ++ ys))))
theorem Vals.nil_iff {xs : List V} {us : List Value} (r : Vals xs us) : us = [] ↔ xs = [] := by
  cases r with
  | nil => simp
  | cons _ _ => simp
theorem op_catT : OpR X (binaryOp .Add) (rCatT X.K) := by
  intro pins s σ H x y v u Q I rx ry h
  obtain ⟨a, b, xs, ys, rfl, rfl, ha, hb, hx, hz, q1, q2⟩ := h
  cases rx
  cases ry
  obtain ⟨its, r1, p1, _⟩ := I.tuple ha
  obtain ⟨its2, r2, p2, _⟩ := I.tuple hb
  refine HT.cat_tup p1 p2 (fun z => hx (r1.nil_iff.mp z)) (fun z => ⟨.ref a, H, I, rfl, q1 (r2.nil_iff.mp z)⟩) (fun z => ?_) (by rw [← r1.length, ← r2.length]; exact hz)
  refine ⟨.ref s.heap.objs.size, _, I.laid (t' := s.toks) (o := .tup (xs ++ ys)) (fun b ob q => Heap.get?_push_of_some _ q) (Nat.le_refl _) ?_, rfl, q2 (fun w => z (r2.nil_iff.mpr w)) _ (I.hok.fresh (Nat.le_refl _))⟩
  exact ⟨by rw [List.length_append]; exact hz, _, r1.append r2, IsTup.new _ _⟩
/-- tuple(t) -/
theorem call_tupleT : CallR X (.type "tuple") (fun xs H Q => ∃ a ys, xs = [.ref a] ∧ SqT X.K H a ys ∧ Q (.ref a) H) := by
  intro pins s σ H xs us Q I r h
  obtain ⟨a, ys, rfl, ha, q⟩ := h
  obtain ⟨u, rfl, ru⟩ := vals1 r
  cases ru
  obtain ⟨its, _, p1, _⟩ := I.tuple ha
  exact call_tuple_same (items := its.toArray) p1 ⟨.ref a, H, I, rfl, q⟩
end
end L2

namespace L2
open PySem PySem.Spec PyProof.Rows

/-! ### places -/
/-- the place that an index of any sign means -/
def ixN (n : Nat) (i : Int) : Option Nat := if 0 ≤ i then (if i < n then some i.toNat else none) else if -(n : Int) ≤ i then some (i + n).toNat else none
def atI {α : Type} (xs : List α) (i : Int) : Option α := (ixN xs.length i).bind fun j => xs[j]?
theorem ixN_seq {n : Nat} {i : Int} {j : Nat} (h : ixN n i = some j) : seqIndex? i n = some j ∧ j < n ∧ -(n : Int) ≤ i ∧ i < n := by
  unfold ixN at h
  by_cases h0 : 0 ≤ i
  · rw [if_pos h0] at h
    by_cases h1 : i < n
    · rw [if_pos h1] at h
      have e : i.toNat = j := Option.some.inj h
      exact ⟨by rw [seqIndex_of h0 h1, e], by omega, by omega, h1⟩
    · rw [if_neg h1] at h; cases h
  · rw [if_neg h0] at h
    by_cases h1 : -(n : Int) ≤ i
    · rw [if_pos h1] at h
      have e : (i + n).toNat = j := Option.some.inj h
      exact ⟨by rw [seqIndex_neg (by omega) h1, e], by omega, h1, by omega⟩
    · rw [if_neg h1] at h; cases h
theorem atI_get {α : Type} {xs : List α} {i : Int} {v : α} (h : atI xs i = some v) : ∃ j, seqIndex? i xs.length = some j ∧ xs[j]? = some v ∧ j < xs.length ∧ -(xs.length : Int) ≤ i ∧ i < xs.length := by
  unfold atI at h
  cases e : ixN xs.length i with
  | none => rw [e] at h; cases h
  | some j =>
    rw [e] at h
    obtain ⟨h1, h2, h3, h4⟩ := ixN_seq e
    exact ⟨j, h1, h, h2, h3, h4⟩
theorem atI_nat {α : Type} {xs : List α} {j : Nat} {v : α} (h : xs[j]? = some v) : atI xs (j : Int) = some v := by
  have hj : j < xs.length := (List.getElem?_eq_some_iff.mp h).1
  have e : ixN xs.length (j : Int) = some j := by
    unfold ixN
    rw [if_pos (by omega), if_pos (by omega)]; simp
  unfold atI; rw [e]; exact h
theorem atI_last {α : Type} (xs : List α) (v : α) : atI (xs ++ [v]) (-1) = some v := by
  have hl : (xs ++ [v]).length = xs.length + 1 := by simp
  have e : ixN (xs ++ [v]).length (-1) = some xs.length := by
    unfold ixN
    rw [hl, if_neg (by decide), if_pos (by omega)]
    congr 1
    omega
  unfold atI
  rw [e]
  show (xs ++ [v])[xs.length]? = some v
  simp

/-! ### what may be subscripted -/
/-- what stands as an index of a plain subscript -/
def PlainIx (b : Expr) : Prop := ∀ o i, subscripted b false o i = operate [o, i] (getItem o i)
/-- a subscript by values -/
def IxR (X : Cx) (r : R2) : Prop :=
  ∀ (value slice : Expr) (pins : List (Addr × Obj)) (s : Shared) (σ : St) (H : Hp) (x y : V) (v u : Value) (Q : VK), Inv X pins σ H s → RelV x v → RelV y u → r x y H Q →
    subscripted slice false v u = operate [v, u] (getItem v u) → wpAny (model X.prog X.w) X.A (subscriptTail value slice v u) (EP X pins σ Q) X.xe s
/-- a call of a builtin's method by values: the receiver, the arguments -/
def MtR (X : Cx) (id : String) (r : V → List V → Hp → VK → Prop) : Prop :=
  ∀ (pins : List (Addr × Obj)) (s : Shared) (σ : St) (H : Hp) (x : V) (xs : List V) (v : Value) (us : List Value) (Q : VK), Inv X pins σ H s → RelV x v → Vals xs us → r x xs H Q →
    wpAny (model X.prog X.w) X.A (call (.builtin id) (v :: us)) (EP X pins σ Q) X.xe s
section
variable {X : Cx} {a b : Expr} {ta tb : TE} {pos : Pos}
theorem IxR.or {r r' : R2} (h : IxR X r) (h' : IxR X r') : IxR X (fun x y H Q => r x y H Q ∨ r' x y H Q) := by
  intro value slice pins s σ H x y v u Q I rx ry q hs
  rcases q with q | q
  · exact h value slice pins s σ H x y v u Q I rx ry q hs
  · exact h' value slice pins s σ H x y v u Q I rx ry q hs
theorem MtR.or {id : String} {r r' : V → List V → Hp → VK → Prop} (h : MtR X id r) (h' : MtR X id r') : MtR X id (fun x xs H Q => r x xs H Q ∨ r' x xs H Q) := by
  intro pins s σ H x xs v us Q I rx rs q
  rcases q with q | q
  · exact h pins s σ H x xs v us Q I rx rs q
  · exact h' pins s σ H x xs v us Q I rx rs q
/-- a[b] -/
theorem pe_ix {r : R2} (hr : IxR X r) (ha : PE X a ta) (hb : PE X b tb) (hs : PlainIx b) : PE X (.Subscript a b pos) (tOp r ta tb) := by
  intro pins s σ H Q I h
  exact Subscript_ (binT ha hb I h fun v u s2 x y H2 I2 rx ry q => hr a b pins s2 σ H2 x y v u Q I2 rx ry q (hs _ _))

def rIxL (K : PySem.W.Frag) : R2 := fun x y H Q => ∃ p xs i v, x = .ref p ∧ y = .int i ∧ SqL K H p xs ∧ atI xs i = some v ∧ Q v H
def rIxT (K : PySem.W.Frag) : R2 := fun x y H Q => ∃ p xs i v, x = .ref p ∧ y = .int i ∧ SqT K H p xs ∧ atI xs i = some v ∧ Q v H
def rIxS : R2 := fun x y H Q => ∃ z i c, x = .str z ∧ y = .int i ∧ z.length ≤ sizeLine ∧ atI z.cps.toList i = some c ∧ Q (.str ⟨#[c]⟩) H
theorem ix_list : IxR X (rIxL X.K) := by
  intro value slice pins s σ H x y v u Q I rx ry h hs
  obtain ⟨p, xs, i, z, rfl, rfl, hq, he, q⟩ := h
  cases rx
  obtain ⟨t, rfl⟩ := ry
  obtain ⟨its, r, pl, hz⟩ := I.list hq
  obtain ⟨j, h1, h2, h3, h4, h5⟩ := atI_get he
  obtain ⟨w, ew, rw'⟩ := r.get h2
  have hl := r.length
  have hn := line63
  have fin : EP X pins σ Q w s := ⟨z, H, I, rw', q⟩
  by_cases h0 : 0 ≤ i
  · have hj : i.toNat = j := by
      rw [seqIndex_of h0 h5] at h1
      exact Option.some.inj h1
    exact item_listR pl.isList h0 (by omega) (by rw [hj]; simpa using ew) fin hs
  · have hj : (i + (its.toArray.size : Int)).toNat = j := by
      rw [seqIndex_neg (by omega) h4] at h1
      rw [List.size_toArray, ← hl]
      exact Option.some.inj h1
    exact subscriptTail_builtinR (x := w) pl.isList.typeIs slot_list_getitem.lookup
      (wpAny_getItem_list_neg (Q := fun r s' => r = w ∧ EP X pins σ Q r s') pl.isList (by omega) (by rw [List.size_toArray] <;> omega) (by omega) (by rw [hj]; simpa using ew) ⟨rfl, fin⟩) hs
theorem ix_tup : IxR X (rIxT X.K) := by
  intro value slice pins s σ H x y v u Q I rx ry h hs
  obtain ⟨p, xs, i, z, rfl, rfl, hq, he, q⟩ := h
  cases rx
  obtain ⟨t, rfl⟩ := ry
  obtain ⟨its, r, pl, hz⟩ := I.tuple hq
  obtain ⟨j, h1, h2, h3, h4, h5⟩ := atI_get he
  obtain ⟨w, ew, rw'⟩ := r.get h2
  have hl := r.length
  have hn := line63
  have fin : EP X pins σ Q w s := ⟨z, H, I, rw', q⟩
  exact subscriptTail_builtinR (x := w) pl.typeIs slot_tuple_getitem.lookup
    (getItem_tuple (j := j) (Q := fun r s' => r = w ∧ EP X pins σ Q r s') pl (by omega) (by omega) (by rw [List.size_toArray, ← hl]; exact h1) (by simpa using ew) ⟨rfl, fin⟩) hs
theorem ix_str : IxR X rIxS := by
  intro value slice pins s σ H x y v u Q I rx ry h hs
  obtain ⟨z, i, c, rfl, rfl, hz, he, q⟩ := h
  obtain ⟨t, rfl⟩ := rx
  obtain ⟨t', rfl⟩ := ry
  obtain ⟨j, h1, h2, h3, h4, h5⟩ := atI_get he
  have hl : z.cps.toList.length = z.length := by simp [Str.length]
  rw [hl] at h1 h4 h5
  have hn := line63
  exact tail_any (typeIs_str s z t) slot_str_getitem.lookup (getItem_str (c := c) (by
    have e1 : decide (i < -(2 ^ 63 : Int)) = false := decide_eq_false (by omega)
    have e2 : decide (i ≥ 2 ^ 63) = false := decide_eq_false (by omega)
    rw [e1, e2, Bool.or_false]) (by rw [h1]; simpa using h2) ⟨.str ⟨#[c]⟩, H, I.tok _, ⟨_, rfl⟩, q⟩) hs
/-- list, tuple or str -/
def rIx (K : PySem.W.Frag) : R2 := fun x y H Q => rIxL K x y H Q ∨ rIxT K x y H Q ∨ rIxS x y H Q
theorem ix_seq : IxR X (rIx X.K) := ix_list.or (ix_tup.or ix_str)

/-! ### xs[i] = v, any sign -/
/-- the list's object behind a store -/
theorem mapSeq_set (its : List Value) (n j : Nat) (u : Value) : Obj.mapSeq (·.setIfInBounds j u) { cls := .type "list", data := .seq its.toArray n } = { cls := .type "list", data := .seq (its.set j u).toArray n } := by
  simp [Obj.mapSeq]
theorem Inv.lst {pins : List (Addr × Obj)} {σ : St} {H : Hp} {s : Shared} {p : Addr} {xs : List V} (I : Inv X pins σ H s) (h : H p = some (.lst xs)) :
    ∃ (its : List Value) (n : Nat), Vals xs its ∧ s.heap.get? p = some { cls := .type "list", data := .seq its.toArray n } ∧ xs.length ≤ sizeLine := by
  obtain ⟨z, its, n, r, e⟩ := I.hok p _ h
  exact ⟨its, n, r, e, z⟩
/-- the list at p is written by an update of its object -/
theorem Inv.lstUpd {pins : List (Addr × Obj)} {σ : St} {H : Hp} {s : Shared} {p : Addr} {xs ys : List V} {its its' : List Value} {n n' : Nat} {f : Obj → Obj} (I : Inv X pins σ H s) (h : H p = some (.lst xs))
    (ho : s.heap.get? p = some { cls := .type "list", data := .seq its.toArray n }) (hf : f { cls := .type "list", data := .seq its.toArray n } = { cls := .type "list", data := .seq its'.toArray n' }) (r : Vals ys its') (hz : ys.length ≤ sizeLine) (t : Nat) :
    Inv X pins σ (upd H p (.lst ys)) { s with heap := s.heap.update p f, toks := t } := by
  have e : (s.heap.update p f).get? p = some { cls := .type "list", data := .seq its'.toArray n' } := by
    rw [Heap.get?_update_self f ho (by rw [hf] <;> rfl), hf]
  refine I.write (x := p) (e := p) (by rw [h]; trivial) (.inl rfl) (fun b u hb q => (Heap.get?_update_other _ _ (Ne.symm hb)).trans q) ⟨_, e⟩ ?_
  exact ⟨hz, its', n', r, e⟩
def rSetL : V → V → V → Hp → (Hp → Prop) → Prop := fun o i v H Q => ∃ p xs k j, o = .ref p ∧ i = .int k ∧ H p = some (.lst xs) ∧ ixN xs.length k = some j ∧ Q (upd H p (.lst (xs.set j v)))
theorem set_list : PSet X rSetL := by
  intro pins s σ H o i v ov iv u Q I ro ri rv h
  obtain ⟨p, xs, k, j, rfl, rfl, hp, hj, q⟩ := h
  cases ro
  obtain ⟨t, rfl⟩ := ri
  obtain ⟨its, n, r, ho, hz⟩ := I.lst hp
  obtain ⟨h1, h2, h3, h4⟩ := ixN_seq hj
  have hl := r.length
  have hn := line63
  have I' : Inv X pins σ (upd H p (.lst (xs.set j v))) { s with heap := s.heap.update p (Obj.mapSeq (·.setIfInBounds j u)) } :=
    I.lstUpd hp ho (mapSeq_set its n j u) (r.set rv j) (by rw [List.length_set]; exact hz) s.toks
  by_cases h0 : 0 ≤ k
  · have hk : k.toNat = j := by
      rw [seqIndex_of h0 h4] at h1
      exact Option.some.inj h1
    exact PySem.W.ki_setAt ho h0 (by omega) (by rw [List.size_toArray, ← hl]; exact h4) (by rw [hk]; exact ⟨_, I', q⟩)
  · have hk : (k + (its.toArray.size : Int)).toNat = j := by
      rw [seqIndex_neg (by omega) h3] at h1
      rw [List.size_toArray, ← hl]
      exact Option.some.inj h1
    exact PySem.W.ki_setBack ho (by omega) (by rw [List.size_toArray, ← hl]; exact h3) (by omega) (by rw [hk]; exact ⟨_, I', q⟩)

/-! ### slices -/
theorem slice_bounds (lo hi : Option Int) (n : Nat) : (sliceBounds lo hi none n).1 = ((HT.sIx n 0 lo : Nat) : Int) ∧ (sliceBounds lo hi none n).2.1 = ((HT.sIx n n hi : Nat) : Int) ∧ (sliceBounds lo hi none n).2.2 = 1 := by
  refine ⟨?_, ?_, rfl⟩
  · cases lo with
    | none => simp [sliceBounds, HT.sIx]
    | some i =>
      simp only [sliceBounds, HT.sIx, Option.getD_none, show (1 : Int) > 0 by decide, if_true]
      by_cases h : i < 0
      · simp only [h, if_true] <;> omega
      · simp only [h, if_false] <;> omega
  · cases hi with
    | none => simp [sliceBounds, HT.sIx]
    | some i =>
      simp only [sliceBounds, HT.sIx, Option.getD_none, show (1 : Int) > 0 by decide, if_true]
      by_cases h : i < 0
      · simp only [h, if_true] <;> omega
      · simp only [h, if_false] <;> omega
theorem slicePick_cut (its : List Value) (lo hi : Option Int) : slicePick its.toArray lo hi none = ((its.drop (HT.sIx its.length 0 lo)).take (HT.sIx its.length its.length hi - HT.sIx its.length 0 lo)).toArray := by
  obtain ⟨h1, h2, h3⟩ := slice_bounds lo hi its.toArray.size
  unfold slicePick
  rw [h1, h2, h3]
  simp only [sliceRange_one, pick_run, List.size_toArray] <;> rfl
/-- xs[lo:hi] of a list: a new list -/
def rSlL (K : PySem.W.Frag) : V → Option Int → Option Int → Hp → VK → Prop := fun x lo hi H Q => ∃ a xs, x = .ref a ∧ SqL K H a xs ∧ ∀ p, H p = none → Q (.ref p) (upd H p (.lst (cutV xs lo hi)))
theorem sl_list : SlR X (rSlL X.K) := by
  intro pins s σ H x v vl vu lo hi sl Q I rx hs pl pu h
  obtain ⟨a, xs, rfl, hx, q⟩ := h
  cases rx
  obtain ⟨its, r, ht, hz⟩ := I.list hx
  have hlen := r.length
  refine ⟨"list", _, slot_list_getitem.lookup, ht.isList.typeIs, ?_⟩
  refine wpAny_getItem_list_slice ht.isList hs pl pu .none (by simp) ?_ (by rw [List.size_toArray] <;> omega)
  rw [slicePick_cut, ← hlen]
  refine ⟨.ref s.heap.objs.size, _, I.laid (t' := s.toks) (o := .lst (cutV xs lo hi)) (fun b ob q => Heap.get?_push_of_some _ q) (Nat.le_refl _) ?_, rfl, q _ (I.hok.fresh (Nat.le_refl _))⟩
  exact ⟨Nat.le_trans (cutV_length xs lo hi) hz, _, 0, (r.drop (HT.sIx xs.length 0 lo)).take (HT.sIx xs.length xs.length hi - HT.sIx xs.length 0 lo), Heap.get?_push_size _ rfl⟩

/-! ### in, not in: flat items -/
def flatV : V → Bool
  | .non => true
  | .bl _ => true
  | .int _ => true
  | .str _ => true
  | _ => false
/-- == of flat values -/
def eqV : V → V → Bool
  | .non, .non => true
  | .bl a, .bl b => a == b
  | .bl a, .int b => (if a then 1 else 0) == b
  | .int a, .bl b => a == (if b then 1 else 0)
  | .int a, .int b => a == b
  | .str a, .str b => a == b
  | _, _ => false
theorem eqAt_V {A : Around} {s : Shared} {y x : V} {u v : Value} (ry : RelV y u) (rx : RelV x v) (fy : flatV y = true) (fx : flatV x = true) : SeqAt.EqAt A s u v (eqV y x) := by
  cases y with
  | non =>
    cases ry
    cases x with
    | non => cases rx; exact SeqAt.EqAt.same _
    | bl b => cases rx; exact SeqAt.EqAt.none_bool b
    | int b => obtain ⟨t, rfl⟩ := rx; exact SeqAt.EqAt.none_int b t
    | str b => obtain ⟨t, rfl⟩ := rx; exact SeqAt.EqAt.none_str b t
    | _ => exact absurd (show false = true from fx) Bool.false_ne_true
  | bl a =>
    cases ry
    cases x with
    | non => cases rx; exact SeqAt.EqAt.bool_none a
    | bl b => cases rx; exact SeqAt.EqAt.bool_bool a b
    | int b => obtain ⟨t, rfl⟩ := rx; exact SeqAt.EqAt.bool_int a b t
    | str b => obtain ⟨t, rfl⟩ := rx; exact SeqAt.EqAt.bool_str a b t
    | _ => exact absurd (show false = true from fx) Bool.false_ne_true
  | int a =>
    obtain ⟨t', rfl⟩ := ry
    cases x with
    | non => cases rx; exact SeqAt.EqAt.int_none a t'
    | bl b => cases rx; exact SeqAt.EqAt.int_bool a t' b
    | int b => obtain ⟨t, rfl⟩ := rx; exact SeqAt.EqAt.int_int a t' b t
    | str b => obtain ⟨t, rfl⟩ := rx; exact SeqAt.EqAt.int_str a t' b t
    | _ => exact absurd (show false = true from fx) Bool.false_ne_true
  | str a =>
    obtain ⟨t', rfl⟩ := ry
    cases x with
    | non => cases rx; exact SeqAt.EqAt.str_none a t'
    | bl b => cases rx; exact SeqAt.EqAt.str_bool a t' b
    | int b => obtain ⟨t, rfl⟩ := rx; exact SeqAt.EqAt.str_int a t' b t
    | str b => obtain ⟨t, rfl⟩ := rx; exact SeqAt.EqAt.str_str a t' b t
    | _ => exact absurd (show false = true from fx) Bool.false_ne_true
  | _ => exact absurd (show false = true from fy) Bool.false_ne_true
/-- the items' answers, read off the values (a value's own answer does not lean on its token) -/
def eqU (x : V) (u : Value) : Bool := match u with
  | .none => eqV .non x
  | .bool b => eqV (.bl b) x
  | .int i _ => eqV (.int i) x
  | .str z _ => eqV (.str z) x
  | _ => false
theorem eqU_of {x y : V} {u : Value} (r : RelV y u) (f : flatV y = true) : eqU x u = eqV y x := by
  cases y with
  | non => cases r; rfl
  | bl b => cases r; rfl
  | int i => obtain ⟨t, rfl⟩ := r; rfl
  | str z => obtain ⟨t, rfl⟩ := r; rfl
  | _ => exact absurd (show false = true from f) Bool.false_ne_true
theorem any_eqU {x : V} : ∀ {xs : List V} {us : List Value}, Vals xs us → xs.all flatV = true → us.any (eqU x) = xs.any fun y => eqV y x
  | _, _, .nil, _ => rfl
  | y :: xs, u :: us, .cons r t, f => by
    rw [List.all_cons, Bool.and_eq_true] at f
    rw [List.any_cons, List.any_cons, eqU_of r f.1, any_eqU t f.2]
theorem mem_eqAt {A : Around} {s : Shared} {x : V} {v : Value} (rx : RelV x v) (fx : flatV x = true) : ∀ {xs : List V} {us : List Value}, Vals xs us → xs.all flatV = true → ∀ u ∈ us, SeqAt.EqAt A s u v (eqU x u)
  | _, _, .nil, _ => fun u hu => by cases hu
  | y :: xs, u :: us, .cons r t, f => fun u' hu => by
    rw [List.all_cons, Bool.and_eq_true] at f
    rcases List.mem_cons.mp hu with rfl | hu
    · rw [eqU_of r f.1]; exact eqAt_V r rx f.1 fx
    · exact mem_eqAt rx fx t f.2 u' hu
def inV (x : V) (xs : List V) : Bool := xs.any fun y => eqV y x
/-- x in a list or tuple of flat items -/
def rIn (K : PySem.W.Frag) (neg : Bool) : R2 := fun x y H Q => ∃ p xs, y = .ref p ∧ (SqL K H p xs ∨ SqT K H p xs) ∧ flatV x = true ∧ xs.all flatV = true ∧ Q (.bl (if neg then !inV x xs else inV x xs)) H
theorem op_in_seq : OpR X (compareOp .In) (rIn X.K false) := by
  intro pins s σ H x y v u Q I rx ry h
  obtain ⟨p, xs, rfl, hq, fx, fs, q⟩ := h
  cases ry
  rcases hq with hq | hq
  · obtain ⟨its, r, pl, hz⟩ := I.list hq
    refine SeqAt.in_listAt (eqU x) pl.isList (fun w hw => mem_eqAt rx fx r fs w (by simpa using hw)) ⟨.bl _, H, I, rfl, ?_⟩
    rw [show its.toArray.any (eqU x) = its.any (eqU x) by simp, any_eqU r fs]
    exact q
  · obtain ⟨its, r, pl, hz⟩ := I.tuple hq
    refine SeqAt.in_tupleAt (eqU x) pl (fun w hw => mem_eqAt rx fx r fs w (by simpa using hw)) ⟨.bl _, H, I, rfl, ?_⟩
    rw [show its.toArray.any (eqU x) = its.any (eqU x) by simp, any_eqU r fs]
    exact q
theorem op_notIn_seq : OpR X (compareOp .NotIn) (rIn X.K true) := by
  intro pins s σ H x y v u Q I rx ry h
  obtain ⟨p, xs, rfl, hq, fx, fs, q⟩ := h
  cases ry
  rcases hq with hq | hq
  · obtain ⟨its, r, pl, hz⟩ := I.list hq
    refine SeqAt.notIn_listAt (eqU x) pl.isList (fun w hw => mem_eqAt rx fx r fs w (by simpa using hw)) ⟨.bl _, H, I, rfl, ?_⟩
    rw [show its.toArray.any (eqU x) = its.any (eqU x) by simp, any_eqU r fs]
    exact q
  · obtain ⟨its, r, pl, hz⟩ := I.tuple hq
    refine SeqAt.notIn_tupleAt (eqU x) pl (fun w hw => mem_eqAt rx fx r fs w (by simpa using hw)) ⟨.bl _, H, I, rfl, ?_⟩
    rw [show its.toArray.any (eqU x) = its.any (eqU x) by simp, any_eqU r fs]
    exact q
theorem op_notIn_str : OpR X (compareOp .NotIn) (fun x y H Q => ∃ i j, x = .str i ∧ y = .str j ∧ Q (.bl (!(!(Builtin.Str.occurrences j i 0 j.length 1).isEmpty))) H) := by
  intro pins s σ H x y v u Q I rx ry h
  obtain ⟨i, j, rfl, rfl, q⟩ := h
  obtain ⟨t, rfl⟩ := rx
  obtain ⟨t', rfl⟩ := ry
  exact notIn_str ⟨.bl _, H, I, rfl, q⟩

/-! ### len, list(x), tuple(x) of any list or tuple that is read -/
theorem call_len_seq : CallR X (.builtin "len") (fun xs H Q => ∃ p ys, xs = [.ref p] ∧ (SqL X.K H p ys ∨ SqT X.K H p ys) ∧ Q (.int ys.length) H) := by
  intro pins s σ H xs us Q I r h
  obtain ⟨p, ys, rfl, hq, q⟩ := h
  obtain ⟨u, rfl, rx⟩ := vals1 r
  cases rx
  have hn := line63
  rcases hq with hq | hq
  · obtain ⟨its, r', pl, hz⟩ := I.list hq
    have hlen := r'.length
    exact Calls.call_len_list pl.isList (by simp only [List.size_toArray] <;> omega) ⟨.int ys.length, H, I.tok _, ⟨s.toks + 1, by rw [List.size_toArray, hlen]⟩, q⟩
  · obtain ⟨its, r', pl, hz⟩ := I.tuple hq
    have hlen := r'.length
    exact len_tuple pl (by simp only [List.size_toArray] <;> omega) ⟨.int ys.length, H, I.tok _, ⟨s.toks + 1, by rw [List.size_toArray, hlen]⟩, q⟩
theorem call_len_str : CallR X (.builtin "len") (fun xs H Q => ∃ z, xs = [.str z] ∧ z.length ≤ sizeLine ∧ Q (.int z.length) H) := by
  intro pins s σ H xs us Q I r h
  obtain ⟨z, rfl, hz, q⟩ := h
  obtain ⟨u, rfl, t, rfl⟩ := vals1 r
  have hn := line63
  exact len_str (by omega) ⟨.int z.length, H, I.tok _, ⟨_, rfl⟩, q⟩
theorem CallR.or {f : Value} {r r' : List V → Hp → VK → Prop} (h : CallR X f r) (h' : CallR X f r') : CallR X f (fun xs H Q => r xs H Q ∨ r' xs H Q) := by
  intro pins s σ H xs us Q I rs q
  rcases q with q | q
  · exact h pins s σ H xs us Q I rs q
  · exact h' pins s σ H xs us Q I rs q
theorem call_list_of : CallR X (.type "list") (fun xs H Q => ∃ p ys, xs = [.ref p] ∧ (SqL X.K H p ys ∨ SqT X.K H p ys) ∧ ∀ l, H l = none → Q (.ref l) (upd H l (.lst ys))) := by
  intro pins s σ H xs us Q I r h
  obtain ⟨p, ys, rfl, hq, q⟩ := h
  obtain ⟨u, rfl, rx⟩ := vals1 r
  cases rx
  have fin : ∀ (its : List Value), Vals ys its → ys.length ≤ sizeLine → ∀ (h' : Heap) (c' : Nat), (∀ b o', s.heap.get? b = some o' → h'.get? b = some o') →
      h'.get? s.heap.objs.size = some { cls := .type "list", dict := none, data := .seq its.toArray c', slots := #[] } → EP X pins σ Q (.ref s.heap.objs.size) { s with heap := h' } := fun its r' hz h' c' kp e =>
    ⟨.ref s.heap.objs.size, _, I.laid (t' := s.toks) kp (Nat.le_refl _) (show ObjOk X.prog X.w _ h' _ (.lst ys) from ⟨hz, its, c', r', e⟩), rfl, q _ (I.hok.fresh (Nat.le_refl _))⟩
  rcases hq with hq | hq
  · obtain ⟨its, r', pl, hz⟩ := I.list hq
    have hlen := r'.length
    obtain ⟨o, ho, hc, n, hd⟩ := pl.isList
    exact call_list_seq p (.inl rfl) ho hc hd (fun h' c' kp e => fin its r' hz h' c' kp e) (by simp only [List.size_toArray] <;> omega)
  · obtain ⟨its, r', pl, hz⟩ := I.tuple hq
    have hlen := r'.length
    obtain ⟨o, ho, hc, n, hd⟩ := pl
    exact call_list_seq p (.inr rfl) ho hc hd (fun h' c' kp e => fin its r' hz h' c' kp e) (by simp only [List.size_toArray] <;> omega)
theorem call_tuple_of : CallR X (.type "tuple") (fun xs H Q => ∃ p ys, xs = [.ref p] ∧ ((SqL X.K H p ys ∧ ∀ l, H l = none → Q (.ref l) (upd H l (.tup ys))) ∨ (SqT X.K H p ys ∧ Q (.ref p) H))) := by
  intro pins s σ H xs us Q I r h
  obtain ⟨p, ys, rfl, h⟩ := h
  obtain ⟨u, rfl, rx⟩ := vals1 r
  cases rx
  rcases h with ⟨hq, q⟩ | ⟨hq, q⟩
  · obtain ⟨its, r', pl, hz⟩ := I.list hq
    have hlen := r'.length
    refine call_tuple_list pl.isList (fun h' kp => ?_) (by simp only [List.size_toArray] <;> omega)
    have I1 : Inv X pins σ H { s with heap := h' } := I.kept (t' := s.toks) kp
    have I2 : Inv X pins σ (upd H h'.objs.size (.tup ys)) { s with heap := h'.push { cls := .type "tuple", data := .seq its.toArray } } :=
      I1.laid (t' := s.toks) (fun b o e => Heap.get?_push_of_some _ e) (Nat.le_refl _) (show ObjOk X.prog X.w _ _ _ (.tup ys) from ⟨hz, its, r', IsTup.new _ _⟩)
    exact ⟨.ref h'.objs.size, _, I2, rfl, q _ (I1.hok.fresh (Nat.le_refl _))⟩
  · obtain ⟨its, r', pl, hz⟩ := I.tuple hq
    exact call_tuple_same pl ⟨.ref p, H, I, rfl, q⟩

/-! ### the call of a builtin's method: o.m(..) -/
/-- the value is of that builtin type -/
def tyV (K : PySem.W.Frag) (T : String) (x : V) (H : Hp) : Prop := match x with
  | .str _ => T = "str"
  | .int _ => T = "int"
  | .ref p => (T = "list" ∧ ∃ xs, SqL K H p xs) ∨ (T = "tuple" ∧ ∃ o, K.lookup p = some o ∧ o.cls = .type "tuple" ∧ o.dict = none) ∨
      (T = "dict" ∧ ((∃ kvs, H p = some (.dK kvs)) ∨ ∃ kvs, H p = some (.dT kvs))) ∨ (T = "set" ∧ ∃ S n, H p = some (.set S n))
  | _ => False
theorem tyV_is {pins : List (Addr × Obj)} {σ : St} {H : Hp} {s : Shared} {T : String} {x : V} {v : Value} (I : Inv X pins σ H s) (r : RelV x v) (ty : tyV X.K T x H) :
    s.TypeIs v T ∧ ∀ a, v = .ref a → ∃ ob, s.heap.get? a = some ob ∧ ob.dict = none := by
  cases x with
  | str z =>
    obtain ⟨t, rfl⟩ := r
    cases (show T = "str" from ty)
    exact ⟨typeIs_str s z t, fun _ e => nomatch e⟩
  | int i =>
    obtain ⟨t, rfl⟩ := r
    cases (show T = "int" from ty)
    exact ⟨typeIs_int s i t, fun _ e => nomatch e⟩
  | ref p =>
    cases r
    rcases ty with ⟨rfl, xs, hq⟩ | ⟨rfl, o, hk, hc, hd⟩ | ⟨rfl, hk⟩ | ⟨rfl, S, n, hk⟩
    · obtain ⟨its, _, pl, _⟩ := I.list hq
      refine ⟨pl.isList.typeIs, fun a e => ?_⟩
      cases e
      obtain ⟨o, n, e, c, hd, _⟩ := pl
      exact ⟨o, e, hd⟩
    · refine ⟨⟨o, I.kIn p o hk, hc⟩, fun a e => ?_⟩
      cases e
      exact ⟨o, I.kIn _ o hk, hd⟩
    · have z : ∃ o, s.heap.get? p = some o ∧ o.ExactDict := by
        rcases hk with ⟨kvs, hk⟩ | ⟨kvs, hk⟩
        · obtain ⟨_, _, _, _, o, _, _, e, ex, _⟩ := I.hok p _ hk
          exact ⟨o, e, ex⟩
        · obtain ⟨_, _, _, _, o, _, _, e, ex, _⟩ := I.hok p _ hk
          exact ⟨o, e, ex⟩
      obtain ⟨o, e, ex⟩ := z
      refine ⟨⟨o, e, ex.1⟩, fun a e2 => ?_⟩
      cases e2
      exact ⟨o, e, ex.2.1⟩
    · obtain ⟨o, _, _, _, e, ex, _⟩ := I.hok p _ hk
      refine ⟨⟨o, e, ex.1⟩, fun a e2 => ?_⟩
      cases e2
      exact ⟨o, e, ex.2.1⟩
  | _ => exact False.elim ty
def tBM0 (K : PySem.W.Frag) (T : String) (r : V → List V → Hp → VK → Prop) (to : TE) : TE := fun σ H Q => to σ H fun x H1 => tyV K T x H1 ∧ r x [] H1 Q
def tBM (K : PySem.W.Frag) (T : String) (r : V → List V → Hp → VK → Prop) (to : TE) (t : TA) : TE := fun σ H Q => to σ H fun x H1 => tyV K T x H1 ∧ t σ H1 fun xs H2 => r x xs H2 Q
variable {o e : Expr} {es : List Expr} {to : TE} {t : TA} {name : Str} {apos cpos : Pos} {T id : String} {r : V → List V → Hp → VK → Prop}
theorem pe_bm0 (pa : PlainAttrs T) (slot : Slot T name id) (hty : typeOf (.builtin id) = pure (.type "method_descriptor")) (hm : MtR X id r) (ho : PE X o to)
    (hbase : attributeBase o name X.env (eval o X.env) = eval o X.env := by rfl) (hline : (apos.endLine == cpos.line) = true := by rfl) : PE X (.Call (.Attribute o name apos) [] [] cpos) (tBM0 X.K T r to) := by
  intro pins s σ H Q I h
  refine wpAny_Call_method0_late hbase hline (thn (ho pins s σ H _ I h) fun v s1 ⟨x, H1, I1, r1, ty, q1⟩ => ?_)
  obtain ⟨h1, h2⟩ := tyV_is I1 r1 ty
  exact ⟨T, id, pa, slot, hty, h1, h2, Calls.callWith_builtin rfl (PySem.evalArgs_none (hm pins s1 σ H1 x [] v [] Q I1 r1 .nil q1))⟩
theorem pe_bm (pa : PlainAttrs T) (slot : Slot T name id) (hty : typeOf (.builtin id) = pure (.type "method_descriptor")) (hm : MtR X id r) (ho : PE X o to) (ha : PA X (e :: es) t)
    (hbase : attributeBase o name X.env (eval o X.env) = eval o X.env := by rfl)
    (hfew : ((backTo cpos (starEach (e :: es) X.env)).all (fun x => !x.1) && (backToKw cpos (keywordEach [] X.env)).all (fun x => x.1.isSome)
      && decide ((e :: es).length + ([] : List Keyword).length + (if ([] : List Keyword).isEmpty then 0 else 1) < 30)) = true := by rfl)
    (hline : (apos.endLine == cpos.line) = true := by rfl) (hs : starEach (e :: es) X.env = (false, eval e X.env) :: starEach es X.env := by rfl) (hplain : (backTo cpos (starEach es X.env)).any (·.1) = false := by rfl) :
    PE X (.Call (.Attribute o name apos) (e :: es) [] cpos) (tBM X.K T r to t) := by
  intro pins s σ H Q I h
  refine wpAny_Call_method_late hbase hfew hline rfl (thn (ho pins s σ H _ I h) fun v s1 ⟨x, H1, I1, r1, ty, q1⟩ => ?_)
  obtain ⟨h1, h2⟩ := tyV_is I1 r1 ty
  refine ⟨T, id, pa, slot, hty, h1, h2, ?_⟩
  have hA := ha cpos pins s1 σ H1 _ I1 q1
  rw [hs] at hA ⊢
  refine Calls.callWith_builtin (by show (false || (backTo cpos (starEach es X.env)).any (·.1)) = false; rw [hplain] <;> rfl) (Calls.evalArgs_plain ?_)
  exact thn hA fun us s2 ⟨vs, H2, I2, r2, q2⟩ => hm pins s2 σ H2 x vs v us Q I2 r1 r2 q2
/- xs.append(e), list.index on a module's tuple .. are MtR facts of 06m -/
end
end L2

namespace L2
open PySem PySem.Spec PyProof.Rows

def MtM (X : Cx) (id : String) (r : V → List V → Hp → VK → Prop) : Prop :=
  ∀ (pins : List (Addr × Obj)) (s : Shared) (σ : St) (H : Hp) (x : V) (xs : List V) (v : Value) (us : List Value) (Q : VK), Inv X pins σ H s → RelV x v → Vals xs us → r x xs H Q →
    wpAny (model X.prog X.w) X.A (call (.builtin id) (v :: us)) (EP X pins σ Q) X.xe s

/-! ### lists of values -/
theorem Vals.one : ∀ {x : V} {us : List Value}, Vals [x] us → ∃ u, us = [u] ∧ RelV x u
  | _, _, .cons r .nil => ⟨_, rfl, r⟩
theorem Vals.two : ∀ {x y : V} {us : List Value}, Vals [x, y] us → ∃ u v, us = [u, v] ∧ RelV x u ∧ RelV y v
  | _, _, _, .cons r (.cons q .nil) => ⟨_, _, rfl, r, q⟩
theorem Vals.zero : ∀ {us : List Value}, Vals [] us → us = []
  | _, .nil => rfl
theorem Vals.dropLast {xs : List V} {us : List Value} (h : Vals xs us) : Vals xs.dropLast us.dropLast := by
  induction h with
  | nil => exact .nil
  | cons r t ih =>
    cases t with
    | nil => exact .nil
    | cons q t' => exact .cons r ih
theorem Vals.eraseIdx : ∀ {xs : List V} {us : List Value} (i : Nat), Vals xs us → Vals (xs.eraseIdx i) (us.eraseIdx i)
  | _, _, _, .nil => .nil
  | _, _, 0, .cons _ t => t
  | _, _, i + 1, .cons r t => .cons r (Vals.eraseIdx i t)
theorem Vals.reverse {xs : List V} {us : List Value} (h : Vals xs us) : Vals xs.reverse us.reverse := by
  induction h with
  | nil => exact .nil
  | cons r t ih => rw [List.reverse_cons, List.reverse_cons]; exact Vals.append ih (.cons r .nil)
theorem Vals.rep {xs : List V} {us : List Value} (h : Vals xs us) : ∀ k : Nat, Vals (List.replicate k xs).flatten (List.replicate k us).flatten
  | 0 => .nil
  | k + 1 => by
    rw [List.replicate_succ, List.replicate_succ, List.flatten_cons, List.flatten_cons]
    exact Vals.append h (Vals.rep h k)
theorem erase_last {α : Type} (l : List α) : l.eraseIdx (l.length - 1) = l.dropLast := by
  induction l with
  | nil => rfl
  | cons a r ih =>
    cases r with
    | nil => rfl
    | cons b r =>
      have e : (a :: b :: r).length - 1 = ((b :: r).length - 1) + 1 := by
        have h1 : (a :: b :: r).length = r.length + 2 := rfl
        have h2 : (b :: r).length = r.length + 1 := rfl
        omega
      rw [e, List.eraseIdx_cons_succ, ih]
      all_goals rfl
theorem len_erase {α : Type} : ∀ (l : List α) (i : Nat), (l.eraseIdx i).length ≤ l.length
  | [], _ => Nat.le_refl _
  | _ :: _, 0 => Nat.le_succ _
  | _ :: r, i + 1 => Nat.succ_le_succ (len_erase r i)
theorem foldl_rep (its : List Value) : ∀ (k : Nat) (acc : List Value),
    List.foldl (fun x1 x2 => x1 ++ x2) acc.toArray (List.replicate k its.toArray) = (acc ++ (List.replicate k its).flatten).toArray
  | 0, acc => by simp
  | k + 1, acc => by
    have e : acc.toArray ++ its.toArray = (acc ++ its).toArray := by simp
    have e2 : (acc ++ its) ++ (List.replicate k its).flatten = acc ++ (List.replicate (k + 1) its).flatten := by
      rw [List.replicate_succ, List.flatten_cons, List.append_assoc]
    rw [← e2, ← foldl_rep its k (acc ++ its), ← e, List.replicate_succ, List.foldl_cons]

section
variable {X : Cx} {pins : List (Addr × Obj)} {σ : St} {H : Hp} {s : Shared} {l b : Addr} {xs ys zs : List V}

/-! ### the two steps: a tracked list is rewritten, a new list is laid -/
theorem Inv.lset {its its' : List Value} {n : Nat} {f : Array Value → Array Value} {t' : Nat} (I : Inv X pins σ H s) (hH : H l = some (.lst xs))
    (e : s.heap.get? l = some { cls := .type "list", data := .seq its.toArray n }) (hf : f its.toArray = its'.toArray) (hv : Vals ys its') (hz : ys.length ≤ sizeLine) :
    Inv X pins σ (upd H l (.lst ys)) { s with heap := s.heap.update l (Obj.mapSeq f), toks := t' } := by
  have q := PySem.IsL.update e f
  rw [hf] at q
  refine I.write (x := l) (e := l) (by rw [hH]; exact trivial) (.inl rfl) (fun b' u hb hu => (Heap.get?_update_other s.heap (Obj.mapSeq f) (Ne.symm hb)).trans hu) ⟨_, q⟩ ?_
  exact ⟨hz, its', _, hv, q⟩
theorem Inv.lnew {its : List Value} {t' : Nat} (I : Inv X pins σ H s) (hv : Vals ys its) (hz : ys.length ≤ sizeLine) :
    Inv X pins σ (upd H s.heap.objs.size (.lst ys)) { s with heap := s.heap.push { cls := .type "list", data := .seq its.toArray }, toks := t' } :=
  I.laid (fun _ _ q => Heap.get?_push_of_some _ q) (Nat.le_refl _) ⟨hz, its, 0, hv, Heap.get?_push_size _ rfl⟩
theorem Inv.fresh (I : Inv X pins σ H s) : H s.heap.objs.size = none := I.hok.fresh (Nat.le_refl _)
theorem Inv.lstM (I : Inv X pins σ H s) (hH : H l = some (.lst xs)) : xs.length ≤ sizeLine ∧ ∃ (its : List Value) (n : Nat), Vals xs its ∧ xs.length = its.length ∧ s.heap.get? l = some { cls := .type "list", data := .seq its.toArray n } := by
  obtain ⟨z, its, n, r, e⟩ := I.hok l _ hH
  exact ⟨z, its, n, r, r.length, e⟩

theorem notLongL {n : Nat} (h : n ≤ sizeLine) : Builtin.List.listTooLong n = false := by
  unfold Builtin.List.listTooLong
  exact decide_eq_false (by omega)
end

section
variable {X : Cx}

/-! ### methods -/
def rAppend : V → List V → Hp → VK → Prop := fun x vs H Q => ∃ l xs y, x = .ref l ∧ vs = [y] ∧ H l = some (.lst xs) ∧ xs.length < sizeLine ∧ Q .non (upd H l (.lst (xs ++ [y])))
theorem mt_append : MtM X "list.append" rAppend := by
  intro pins s σ H x vs v us Q I rx rv h
  obtain ⟨l, xs, y, rfl, rfl, hH, hz, q⟩ := h
  cases rx
  obtain ⟨u, rfl, ru⟩ := rv.one
  obtain ⟨z, its, n, r, hl, e⟩ := I.lstM hH
  refine call_meets F.slot_list_append ⟨_, e, rfl⟩ F.entry_list_append (F.args_list_append_2 _ _) (PySem.list_append l its.toArray n u (by rw [List.size_toArray]; omega)) ⟨e, ?_⟩
  refine ⟨.non, _, I.lset (its' := its ++ [u]) hH e (by simp) (r.append (.cons ru .nil)) ?_, rfl, q⟩
  rw [List.length_append, List.length_singleton]
  omega

def rExtend : V → List V → Hp → VK → Prop := fun x vs H Q => ∃ l b xs zs, x = .ref l ∧ vs = [.ref b] ∧ H l = some (.lst xs) ∧ H b = some (.lst zs) ∧ xs.length + zs.length ≤ sizeLine ∧ Q .non (upd H l (.lst (xs ++ zs)))
theorem mt_extend : MtM X "list.extend" rExtend := by
  intro pins s σ H x vs v us Q I rx rv h
  obtain ⟨l, b, xs, zs, rfl, rfl, hH, hB, hz, q⟩ := h
  cases rx
  obtain ⟨u, rfl, ru⟩ := rv.one
  cases ru
  obtain ⟨z, its, n, r, hl, e⟩ := I.lstM hH
  obtain ⟨z2, its2, n2, r2, hl2, e2⟩ := I.lstM hB
  have hsz : its.toArray.size + its2.toArray.size ≤ sizeLine := by rw [List.size_toArray, List.size_toArray]; omega
  have hlong : ¬ (!its.toArray.isEmpty && Builtin.List.listTooLong (its.toArray.size + its2.toArray.size)) = true := by
    rw [notLongL hsz, Bool.and_false]
    exact Bool.false_ne_true
  refine call_meets F.slot_list_extend ⟨_, e, rfl⟩ F.entry_list_extend (F.args_list_extend_2 _ _)
    (AutoSeq1.list_extend_list_list_0 l its.toArray n b its2.toArray n2 hlong (by rw [List.size_toArray]; omega) (by omega)) ⟨e, e2, ?_⟩
  refine ⟨.non, _, I.lset (its' := its ++ its2) hH e (by simp) (r.append r2) ?_, rfl, q⟩
  rw [List.length_append]
  omega

def rPop : V → List V → Hp → VK → Prop := fun x vs H Q => ∃ l xs y, x = .ref l ∧ vs = [] ∧ H l = some (.lst xs) ∧ xs[xs.length - 1]? = some y ∧ Q y (upd H l (.lst xs.dropLast))
theorem mt_pop : MtM X "list.pop" rPop := by
  intro pins s σ H x vs v us Q I rx rv h
  obtain ⟨l, xs, y, rfl, rfl, hH, hy, q⟩ := h
  cases rx
  have hus := rv.zero
  subst hus
  obtain ⟨z, its, n, r, hl, e⟩ := I.lstM hH
  obtain ⟨u, hu, ru⟩ := r.get hy
  have hy' : its.toArray[its.toArray.size - 1]? = some u := by
    show its.toArray[its.length - 1]? = some u
    rw [← Array.getElem?_toList, ← hl]
    exact hu
  refine call_meets F.slot_list_pop ⟨_, e, rfl⟩ F.entry_list_pop (F.args_list_pop_1 _) (MeetsSeq.list_pop_last l its.toArray n u hy' (by rw [List.size_toArray]; omega)) ⟨e, ?_⟩
  refine ⟨y, _, I.lset (its' := its.dropLast) hH e ?_ r.dropLast ?_, ru, q⟩
  · show its.toArray.eraseIdxIfInBounds (its.toArray.size - 1) = its.dropLast.toArray
    rw [List.size_toArray, List.eraseIdxIfInBounds_toArray, erase_last]
  · rw [List.length_dropLast]
    omega

def rPopAt : V → List V → Hp → VK → Prop := fun x vs H Q => ∃ l xs i k y, x = .ref l ∧ vs = [.int i] ∧ H l = some (.lst xs) ∧ -(2 ^ 63) ≤ i ∧ i < 2 ^ 63 ∧ seqIndex? i xs.length = some k ∧ xs[k]? = some y ∧ Q y (upd H l (.lst (xs.eraseIdx k)))
theorem mt_popAt : MtM X "list.pop" rPopAt := by
  intro pins s σ H x vs v us Q I rx rv h
  obtain ⟨l, xs, i, k, y, rfl, rfl, hH, h1, h2, hk, hy, q⟩ := h
  cases rx
  obtain ⟨u, rfl, ru⟩ := rv.one
  obtain ⟨t, rfl⟩ := ru
  obtain ⟨z, its, n, r, hl, e⟩ := I.lstM hH
  obtain ⟨w, hw, rw'⟩ := r.get hy
  refine call_meets F.slot_list_pop ⟨_, e, rfl⟩ F.entry_list_pop (F.args_list_pop_2 _ _)
    (MeetsSeq.list_pop_at l its.toArray n i t k w (fitsIndex_both h1 h2) (by rw [List.size_toArray, ← hl]; exact hk) (by rw [← Array.getElem?_toList]; exact hw) (by rw [List.size_toArray]; omega)) ⟨e, ?_⟩
  refine ⟨y, _, I.lset (its' := its.eraseIdx k) hH e ?_ (r.eraseIdx k) ?_, rw', q⟩
  · show its.toArray.eraseIdxIfInBounds k = (its.eraseIdx k).toArray
    rw [List.eraseIdxIfInBounds_toArray]
  · have := len_erase xs k
    omega

def rReverse : V → List V → Hp → VK → Prop := fun x vs H Q => ∃ l xs, x = .ref l ∧ vs = [] ∧ H l = some (.lst xs) ∧ Q .non (upd H l (.lst xs.reverse))
theorem mt_reverse : MtM X "list.reverse" rReverse := by
  intro pins s σ H x vs v us Q I rx rv h
  obtain ⟨l, xs, rfl, rfl, hH, q⟩ := h
  cases rx
  have hus := rv.zero
  subst hus
  obtain ⟨z, its, n, r, hl, e⟩ := I.lstM hH
  refine call_meets F.slot_list_reverse ⟨_, e, rfl⟩ F.entry_list_reverse (F.args_list_reverse_1 _) (AutoSeq1.list_reverse_list_0 l its.toArray n (by rw [List.size_toArray]; omega)) ⟨e, ?_⟩
  refine ⟨.non, _, I.lset (its' := its.reverse) hH e (by simp) r.reverse ?_, rfl, q⟩
  rw [List.length_reverse]
  omega

def rClear : V → List V → Hp → VK → Prop := fun x vs H Q => ∃ l xs, x = .ref l ∧ vs = [] ∧ H l = some (.lst xs) ∧ Q .non (upd H l (.lst []))
theorem mt_clear : MtM X "list.clear" rClear := by
  intro pins s σ H x vs v us Q I rx rv h
  obtain ⟨l, xs, rfl, rfl, hH, q⟩ := h
  cases rx
  have hus := rv.zero
  subst hus
  obtain ⟨z, its, n, r, hl, e⟩ := I.lstM hH
  refine call_meets F.slot_list_clear ⟨_, e, rfl⟩ F.entry_list_clear (F.args_list_clear_1 _) (AutoSeq1.list_clear_list_0 l its.toArray n (by rw [List.size_toArray]; omega)) ⟨e, ?_⟩
  exact ⟨.non, _, I.lset (its' := []) (ys := []) hH e rfl .nil (Nat.zero_le _), rfl, q⟩

/-! ### list + list, list += list, list * int -/
def rCat : R2 := fun x y H Q => ∃ l b xs zs, x = .ref l ∧ y = .ref b ∧ H l = some (.lst xs) ∧ H b = some (.lst zs) ∧ xs.length + zs.length ≤ sizeLine ∧ ∀ p, H p = none → Q (.ref p) (upd H p (.lst (xs ++ zs)))
theorem op_cat : OpR X (binaryOp .Add) rCat := by
  intro pins s σ H x y v u Q I rx ry h
  obtain ⟨l, b, xs, zs, rfl, rfl, hH, hB, hz, q⟩ := h
  cases rx
  cases ry
  obtain ⟨z, its, n, r, hl, e⟩ := I.lstM hH
  obtain ⟨z2, its2, n2, r2, hl2, e2⟩ := I.lstM hB
  refine PySem.P.add_list e e2 ?_ (by rw [List.size_toArray, List.size_toArray]; omega)
  have ea : its.toArray ++ its2.toArray = (its ++ its2).toArray := by simp
  rw [ea]
  exact ⟨.ref _, _, I.lnew (t' := s.toks) (r.append r2) (by rw [List.length_append]; omega), rfl, q _ I.fresh⟩
/-- a list times an int (a negative one is nothing) -/
def rRep : R2 := fun x y H Q => ∃ l k xs, x = .ref l ∧ y = .int k ∧ H l = some (.lst xs) ∧ -(2 ^ 63) ≤ k ∧ k < 2 ^ 63 ∧ xs.length * k.toNat ≤ sizeLine ∧
  ∀ p, H p = none → Q (.ref p) (upd H p (.lst (List.replicate k.toNat xs).flatten))
theorem len_rep {α : Type} (xs : List α) (k : Nat) : (List.replicate k xs).flatten.length = k * xs.length := by
  induction k with
  | zero => simp
  | succ k ih => rw [List.replicate_succ, List.flatten_cons, List.length_append, ih, Nat.succ_mul, Nat.add_comm]
theorem op_rep : OpR X (binaryOp .Mult) rRep := by
  intro pins s σ H x y v u Q I rx ry h
  obtain ⟨l, k, xs, rfl, rfl, hH, h1, h2, hz, q⟩ := h
  cases rx
  obtain ⟨t, rfl⟩ := ry
  obtain ⟨z, its, n, r, hl, e⟩ := I.lstM hH
  have hlen : its.toArray.size * k.toNat ≤ sizeLine := by rw [List.size_toArray, ← hl]; exact hz
  have hcap : ¬ its.toArray.size * k.toNat > (2 ^ 63 - 1) / 8 := by
    have : (sizeLine : Nat) ≤ (2 ^ 63 - 1) / 8 := by decide
    omega
  have hfit : ¬ (!Builtin.List.listFitsIndex k) = true := by
    rw [fitsIndex_both h1 h2]
    exact Bool.false_ne_true
  have hlong : ¬ Builtin.List.listTooLong (its.toArray.size * k.toNat) = true := by
    rw [notLongL hlen]
    exact Bool.false_ne_true
  have hnew : List.foldl (fun x1 x2 => x1 ++ x2) #[] (List.replicate (if its.toArray.isEmpty = true then 0 else k.toNat) its.toArray) = (List.replicate k.toNat its).flatten.toArray := by
    have f0 : ∀ m : Nat, List.foldl (fun x1 x2 => x1 ++ x2) #[] (List.replicate m its.toArray) = (List.replicate m its).flatten.toArray := fun m => by
      have := foldl_rep its m []
      rw [List.nil_append] at this
      exact this
    rw [f0]
    cases its with
    | nil => simp
    | cons a r' => rw [if_neg (by simp)]
  refine wpAny_binaryOp_repeat_ref (T := "list") (U := "int") (by decide) ⟨_, e, rfl⟩ (fun s' => typeIs_int s' k t) noFill_list_mul F.fills_int_mul F.slot_int_rmul repeat_list F.slot_int_index.lookup
    (call_meets F.slot_int_rmul (typeIs_int s k t) F.entry_int_rmul (F.args_int_rmul_2 _ _) (int___rmul___int_list k t l its.toArray n)
      ⟨e, rfl, ⟨_, e, rfl⟩, call_meets F.slot_list_mul ⟨_, e, rfl⟩ F.entry_list_mul (F.args_list_mul_2 _ _) (AutoListH.list___mul___list_int_3 l its.toArray n k t hfit hcap hlong) ⟨e, ?_⟩⟩)
  rw [hnew]
  exact ⟨.ref _, _, I.lnew (t' := s.toks) (r.rep k.toNat) (by rw [len_rep, Nat.mul_comm]; exact hz), rfl, q _ I.fresh⟩

/-! ### del xs[i] -/
theorem del_list {pins : List (Addr × Obj)} {s : Shared} {σ : St} {H : Hp} {l : Addr} {xs : List V} {i : Int} {t : Tok} {k : Nat} {Q : Unit → Shared → Prop} (I : Inv X pins σ H s) (hH : H l = some (.lst xs))
    (h1 : -(2 ^ 63) ≤ i) (h2 : i < 2 ^ 63) (hk : seqIndex? i xs.length = some k) (h : ∀ s', Inv X pins σ (upd H l (.lst (xs.eraseIdx k))) s' → Q () s') :
    wpAny (model X.prog X.w) X.A (delItem (.ref l) (.int i t)) Q X.xe s := by
  obtain ⟨z, its, n, r, hl, e⟩ := I.lstM hH
  refine PySem.P.delItem_list (k := k) e (fitsIndex_both h1 h2) (by rw [List.size_toArray, ← hl]; exact hk) (h _ ?_) (by rw [List.size_toArray]; omega)
  refine I.lset (its' := its.eraseIdx k) (t' := s.toks) hH e ?_ (r.eraseIdx k) ?_
  · show its.toArray.eraseIdxIfInBounds k = (its.eraseIdx k).toArray
    rw [List.eraseIdxIfInBounds_toArray]
  · have := len_erase xs k
    omega
end

/-! ### xs[a:b] = ys -/
section
variable {prog : Program} {w : World} {A : Around} {E : Value → Shared → Prop} {s : Shared}
theorem splice_eq (its its2 : List Value) (a c : Nat) : its.toArray.extract 0 a ++ its2.toArray ++ its.toArray.extract c its.toArray.size = (its.take a ++ its2 ++ its.drop c).toArray := by
  apply Array.toList_inj.mp
  first
    | (simp
       exact List.take_of_length_le (by simp))
    | simp [List.take_of_length_le]
    | simp
theorem bounds_run {a c n : Nat} (hac : a ≤ c) (hc : c ≤ n) : sliceBounds (some (a : Int)) (some (c : Int)) none n = ((a : Int), (c : Int), 1) := by
  simp only [sliceBounds, Option.getD_none]
  have h1 : ¬ ((a : Int) < 0) := by omega
  have h2 : ¬ ((c : Int) < 0) := by omega
  simp only [h1, h2, if_false, show (1 : Int) > 0 by decide, if_true]
  congr 1
  · omega
  · congr 1; omega
set_option maxRecDepth 100000 in
/-- list.__setitem__ with a slice of step one and another list -/
theorem setItem_slice {l b sl : Addr} {items new : Array Value} {n n2 : Nat} {vl vu : Value} {a c : Nat} {Q : Unit → Shared → Prop}
    (e : s.heap.get? l = some { cls := .type "list", data := .seq items n }) (e2 : s.heap.get? b = some { cls := .type "list", data := .seq new n2 }) (hne : l ≠ b)
    (hs : s.heap.IsSliceOf sl vl vu .none) (pl : IsPart vl (some (a : Int))) (pu : IsPart vu (some (c : Int))) (hac : a ≤ c) (hc : c ≤ items.size)
    (hsz : items.size + new.size ≤ sizeLine) (h : Q () { s with heap := s.heap.update l (Obj.mapSeq fun xs => xs.extract 0 a ++ new ++ xs.extract c xs.size) }) :
    wpAny (model prog w) A (setItem (.ref l) (.ref sl) (.ref b)) Q E s := by
  have hl : s.heap.IsList l items := PySem.IsL.isList e
  have hb : s.heap.IsList b new := PySem.IsL.isList e2
  obtain ⟨os, hos, hcs, hds⟩ := id hs
  have hTs : s.TypeIs (.ref sl) "slice" := ⟨os, hos, hcs⟩
  have hstep : ¬ ((rawPart none == rawInt 0) = true) := Bool.false_ne_true
  have hsame : Builtin.List.listSameRef (.ref l) (.ref b) = false := by
    unfold Builtin.List.listSameRef
    exact beq_eq_false_iff_ne.mpr hne
  have hmax : (max (a : Int) (c : Int)).toNat = c := by omega
  have hz' : ((fun xs : Array Value => xs.extract 0 a ++ new ++ xs.extract c xs.size) items).size ≤ sizeLine + 1 := by
    simp only [Array.size_append, Array.size_extract]
    omega
  unfold setItem
  try with_reducible refine wpAny_holding ?_
  first | refine wpAny_bind (wpAny_pure ?_) | skip
  refine wpAny_bind (wpAny_sequenceKey hl.typeIs (by decide) ?_)
  refine wpAny_bind (wpAny_callSpecial?_slot (name := Str.ofString "__setitem__") hl.typeIs slot_list_setitem
    (wpAny_call_entry slot_list_setitem hl.typeIs entry_list_setitem ?_ (args_list_setitem _ _ _)))
  show wpAny _ _ (Builtin.List.listSubscript? (.ref sl) >>= _) _ _ s
  refine wpAny_bind ?_
  unfold Builtin.List.listSubscript?
  refine wpAny_bind (wpAny_specialOf hTs slice_no_index ?_)
  simp only [Option.isNone_none, if_true]
  refine wpAny_pure ?_
  show wpAny _ _ (typeOf (.ref sl) >>= _) _ _ s
  refine wpAny_bind (wpAny_typeOf hTs ?_)
  first
    | rw [if_neg (by decide)]
    | refine PySem.W.KFB.if_not (by decide) ?_
  rw [listSliceParts_eq]
  refine wpAny_bind (wpAny_bind (wpAny_field hos hds (x := .none) rfl (wpAny_bind (wpAny_listPart .none ?_))))
  rw [if_neg hstep]
  refine wpAny_bind (wpAny_field hos hds (x := vl) rfl (wpAny_bind (wpAny_listPart pl ?_)))
  refine wpAny_bind (wpAny_field hos hds (x := vu) rfl (wpAny_bind (wpAny_listPart pu (wpAny_pure ?_))))
  first
    | simp only [hsame, Bool.false_eq_true, if_false]
    | refine PySem.W.KFB.if_not hsame ?_
    | (dsimp only
       rw [if_neg (by rw [hsame]; exact Bool.false_ne_true)])
  refine wpAny_bind (m := Builtin.List.listAllItems (.ref b) "must assign iterable to extended slice") ?_
  unfold Builtin.List.listAllItems
  refine wpAny_bind (wpAny_typeOf hb.typeIs ?_)
  first
    | refine PySem.W.KFB.if_so (by decide) ?_
    | rw [if_pos (by decide)]
    | simp only [beq_self_eq_true, Bool.true_or, if_true]
  unfold Builtin.List.listItems
  refine wpAny_bind (wpAny_seqItems e2 rfl (wpAny_pure ?_))
  refine wpAny_bind (wpAny_bind (wpAny_seqItems e rfl (wpAny_pure ?_)))
  refine wpAny_bind (wpAny_of_eq ((sliceIndices_raw (some (a : Int)) (some (c : Int)) none items.size (by simp)).trans (congrArg (pure : Int × Int × Int → Sem (Int × Int × Int)) (bounds_run hac hc))) ?_)
  show wpAny _ _ (if ((1 : Int) == 1) = true then _ else _) _ _ s
  rw [if_pos (by decide)]
  refine wpAny_bind (wpAny_rule ?_)
  first
    | simp only [notLongL hsz, Bool.false_eq_true, if_false]
    | refine PySem.W.KFB.if_not (notLongL hsz) ?_
  first | refine wpAny_bind (wpAny_pure ?_) | skip
  show wpAny _ _ (updateSeq l (fun xs => xs.extract 0 ((a : Int)).toNat ++ new ++ xs.extract (max (a : Int) (c : Int)).toNat xs.size) >>= _) _ _ s
  rw [hmax, Int.toNat_natCast]
  refine wpAny_bind (wpAny_updateSeq (hz := Nat.le_trans (Nat.le_add_right _ _) hsz) (_hz' := hz') e rfl ?_)
  refine wpAny_bind (wpAny_letGo ?_)
  first
    | exact wpAny_bind (wpAny_pure (wpAny_pure ⟨.none, rfl, wpAny_pure h⟩))
    | exact wpAny_pure ⟨.none, rfl, wpAny_pure h⟩
end

section
variable {X : Cx}
/-- xs[a:c] = ys of another list, at the value level: sl is the slice object that was just made -/
theorem set_slice {pins : List (Addr × Obj)} {s : Shared} {σ : St} {H : Hp} {l b sl : Addr} {xs ys : List V} {a c : Int} {vl vu : Value} {Q : Unit → Shared → Prop} (I : Inv X pins σ H s)
    (hH : H l = some (.lst xs)) (hB : H b = some (.lst ys)) (hne : l ≠ b) (hs : s.heap.IsSliceOf sl vl vu .none) (ra : RelV (.int a) vl) (rc : RelV (.int c) vu) (h0 : 0 ≤ a) (hac : a ≤ c) (hc : c ≤ xs.length)
    (hz : xs.length + ys.length ≤ sizeLine) (h : ∀ s', Inv X pins σ (upd H l (.lst (xs.take a.toNat ++ ys ++ xs.drop c.toNat))) s' → Q () s') :
    wpAny (model X.prog X.w) X.A (setItem (.ref l) (.ref sl) (.ref b)) Q X.xe s := by
  obtain ⟨ta, rfl⟩ := ra
  obtain ⟨tc, rfl⟩ := rc
  obtain ⟨z, its, n, r, hl, e⟩ := I.lstM hH
  obtain ⟨z2, its2, n2, r2, hl2, e2⟩ := I.lstM hB
  obtain ⟨a', rfl⟩ := Int.eq_ofNat_of_zero_le h0
  obtain ⟨c', rfl⟩ := Int.eq_ofNat_of_zero_le (Int.le_trans h0 hac)
  simp only [Int.toNat_natCast] at h
  refine setItem_slice (a := a') (c := c') e e2 hne hs (.int _ _) (.int _ _) (by omega) (by rw [List.size_toArray]; omega) (by rw [List.size_toArray, List.size_toArray]; omega) (h _ ?_)
  refine I.lset (its' := its.take a' ++ its2 ++ its.drop c') (t' := s.toks) hH e ?_ (Vals.append (Vals.append (r.take _) r2) (r.drop _)) ?_
  · exact splice_eq its its2 a' c'
  · rw [List.length_append, List.length_append, List.length_take, List.length_drop]
    omega
end
end L2

namespace Att
open PySem PySem.W PySem.Calls PyProof.Rows

/-! ### the script -/
theorem ints_of_wellAll {P : Params} {h : Heap} : ∀ (ns : List Int) (vs : List Value), WellAll P h vs (ns.map WData.int) → IntsAre vs ns := by
  intro ns
  induction ns with
  | nil =>
    intro vs w
    rw [List.map_nil] at w
    cases w
    exact .nil
  | cons n ns ih =>
    intro vs w
    rw [List.map_cons] at w
    cases w with
    | cons a b =>
      cases a
      exact .cons _ _ (ih _ b)

theorem script_of {l : OpenLaw} {n : Nat} (hn : l.most = some n) {P : Params} {h : Heap} {args : List WData} {vals : List Value}
    (hpre : l.row.toRowW.claim.pre args = true) (hwl : WellAll P h vals args) :
    ∃ a vs ns, vals = [Value.ref a] ∧ args = [WData.list (ns.map WData.int)] ∧ h.get? a = some { cls := .type "list", data := .seq vs.toArray } ∧ IntsAre vs ns ∧ ns.length ≤ n := by
  have hsh : WShape.hasAll [] args [.list .int] = true := (pre_splitW hpre).1
  have hc : l.pre.holds [] { args := args } = true := (pre_splitW hpre).2
  obtain ⟨d, r, rfl, h1, h2⟩ := hasAllW_cons hsh
  obtain rfl := hasAllW_nil h2
  obtain ⟨xs, rfl, h3⟩ := hasW_list h1
  obtain ⟨ns, rfl⟩ := items_int h3
  have hlen : ns.length ≤ n := by
    unfold OpenLaw.pre at hc
    have h4 : (WTm.not (.lt (.lit (.int (n : Int))) (.len (.arg 0)))).holds [] { args := [.list (ns.map .int)] } = true := by
      have h4 := (holds_andW hc).1
      rw [hn] at h4
      exact h4
    have h5 := condW_of h4 (w_not (w_lt w_lit (w_len_list (w_arg rfl))))
    rw [List.length_map] at h5
    refine Nat.le_of_not_lt fun q => ?_
    have q' : (n : Int) < ((ns.length : Nat) : Int) := by omega
    first
      | (rw [decide_eq_true q'] at h5; exact absurd h5 (by decide))
      | (simp at h5; omega)
  cases hwl with
  | cons w1 w2 =>
    cases w2
    cases w1 with
    | list ho hall => exact ⟨_, _, ns, rfl, rfl, ho, ints_of_wellAll ns _ hall, hlen⟩

theorem post_true (l : OpenLaw) (args : List WData) : l.row.toRowW.claim.post args (.bool true) args = true :=
  postW_of (r := l.row.toRowW) (X := (true == true))
    (show WShape.has [] (.bool true) .bool = true by first | rfl | decide | simp [WShape.has, WShape.arms, WShape.armsAll])
    (show (WTm.eq .res (.lit (.bool true))).value [] { args := args, res := some (.bool true), after := args } = some (.bool (true == true)) from w_eq_bool (w_res rfl) w_lit) rfl

/-! ### the attachment: holds_open's last premise (the goal 'hc' behind k_head) from a wpAny of the law's body -/
theorem attach {l : OpenLaw} {n : Nat} {q : Program} {loose : List Str} {XP : (Str → Option Value) → Heap → Prop} {YP : World → Heap → Prop} {d : DefRec} {x : Str}
    (hn : l.most = some n) (hdf : d.params.defaults = [])
    (hbind : ∀ pm cd doc v : Value, bindArgs (docDef d.name d.params d.body d.scope pm cd doc) ⟨[v], []⟩ = pure [(x, v)])
    (hx : d.scope.names.lookup x = some .local ∨ d.scope.names.lookup x = some .cell)
    (hk : d.scope.kind = .function) (hco : d.scope.isCoroutine = false) (hgen : d.scope.isGenerator = false)
    (body : ∀ (w : World) (s₀ s₁ s : Shared) (mg mb : Str → Option Value) (fa : Addr) (o : Obj) (pm cd doc : Value) (a : Addr) (vs : List Value) (ns : List Int),
      Ground q loose [] XP w s₀ mg mb s₁.heap → YP w s₁.heap →
      s₁.heap.get? fa = some o → o.data = .func (docDef d.name d.params d.body d.scope pm cd doc) → s₁.heap.CodeRec cd d.name → mg d.name = some (.ref fa) →
      s₁.heap.get? a = some { cls := .type "list", data := .seq vs.toArray } → IntsAre vs ns → ns.length ≤ n →
      s.gens = #[] → s.os = s₁.os →
      Fr s₁.heap s₁.heap.objs.size s.heap (bindL (envOfC d.name d.scope s₁.heap.objs.size fa cd).kindOf [(x, .ref a)] fun _ => none) →
      Cl s₁.heap.objs.size (cellsFrom (s₁.heap.objs.size + 1) d.scope.names []) s.heap (bindC (envOfC d.name d.scope s₁.heap.objs.size fa cd).kindOf [(x, .ref a)] fun _ => none) →
      wpAny (model l.prog w) (callerA.deeper (envOfC d.name d.scope s₁.heap.objs.size fa cd)) (execs d.body (envOfC d.name d.scope s₁.heap.objs.size fa cd))
        (fun f s' => f = .ret (.bool true) ∧ OldK s₁.heap s'.heap ∧ s'.os = s₁.os ∧ AllBare s'.gens) (fun _ _ => False) s) :
    WalkO q loose XP YP l.row.toRowW d [] (fun f vs => PySem.call f vs) := by
  intro w s₀ s₁ mg mb G Y fa o pm cd doc dV kV ho hd hcd hD hmg hg args vals as hpre hlay hrd hwl hlo
  obtain rfl : dV = .none := Dflts.none hD hdf
  obtain rfl : kV = .none := Dflts.noKw hD
  obtain ⟨a, vs, ns, rfl, rfl, hobj, hints, hlen⟩ := script_of hn hpre hwl
  refine enter_call ?_
  refine call_cells_ret (o := o) (by rw [depth_caller]; decide) ho (fd_plain hd) G.T.nolimit hcd (hbind pm cd doc (.ref a)) (fun y hy => ?_) (fun h₁ tk F X => ?_) hco hgen hk
  · obtain rfl : y = (x, Value.ref a) := List.mem_singleton.mp hy
    rcases hx with e | e
    · exact .inl e
    · exact .inr ⟨e, cellsFrom_some _ _ _ (.inl e)⟩
  · refine wpAny_mono (body w s₀ s₁ { s₁ with heap := h₁, toks := tk } mg mb fa o pm cd doc a vs ns G Y ho (fd_plain hd) hcd hmg hobj hints hlen hg rfl F X) (fun f s' hq => ?_) (fun _ _ hq => hq)
    obtain ⟨rfl, h2, h3, h4⟩ := hq
    exact ⟨.inl ⟨.bool true, .bool true, [], rfl, fun _ => rfl, .bool true, post_true l _, fun _ => ⟨List.Pairwise.nil, fun _ hm => (nomatch hm)⟩⟩, h2, h3, h4⟩

/-- the same from a codeAny of the CALL (for a layer whose function contracts speak of calls) -/
theorem attach_call {l : OpenLaw} {n : Nat} {q : Program} {loose : List Str} {XP : (Str → Option Value) → Heap → Prop} {YP : World → Heap → Prop} {d : DefRec}
    (hn : l.most = some n) (hdf : d.params.defaults = [])
    (call : ∀ (w : World) (s₀ s₁ : Shared) (mg mb : Str → Option Value) (fa : Addr) (o : Obj) (pm cd doc : Value) (a : Addr) (vs : List Value) (ns : List Int),
      Ground q loose [] XP w s₀ mg mb s₁.heap → YP w s₁.heap →
      s₁.heap.get? fa = some o → o.data = .func (docDef d.name d.params d.body d.scope pm cd doc) → s₁.heap.CodeRec cd d.name → mg d.name = some (.ref fa) →
      s₁.heap.get? a = some { cls := .type "list", data := .seq vs.toArray } → IntsAre vs ns → ns.length ≤ n → s₁.gens = #[] →
      codeAny (model l.prog w) callerA (.call (.ref fa) ⟨[.ref a], []⟩) (fun r s' => r = .ok (.ret (.bool true)) ∧ OldK s₁.heap s'.heap ∧ s'.os = s₁.os ∧ AllBare s'.gens) s₁) :
    WalkO q loose XP YP l.row.toRowW d [] (fun f vs => PySem.call f vs) := by
  intro w s₀ s₁ mg mb G Y fa o pm cd doc dV kV ho hd hcd hD hmg hg args vals as hpre hlay hrd hwl hlo
  obtain rfl : dV = .none := Dflts.none hD hdf
  obtain rfl : kV = .none := Dflts.noKw hD
  obtain ⟨a, vs, ns, rfl, rfl, hobj, hints, hlen⟩ := script_of hn hpre hwl
  refine enter_call (codeAny_mono (call w s₀ s₁ mg mb fa o pm cd doc a vs ns G Y ho (fd_plain hd) hcd hmg hobj hints hlen hg) fun r s' hq => ?_)
  obtain ⟨rfl, h2, h3, h4⟩ := hq
  exact ⟨.inl ⟨.bool true, .bool true, [], rfl, fun _ => rfl, .bool true, post_true l _, fun _ => ⟨List.Pairwise.nil, fun _ hm => (nomatch hm)⟩⟩, h2, h3, h4⟩

/-- the same where the top left finished generators (o_head chose holds_openN): nothing may have changed at all and no generator may be left -/
theorem attachN {l : OpenLaw} {n : Nat} {q : Program} {loose : List Str} {XP : (Str → Option Value) → Heap → Prop} {YP : World → Heap → Prop} {d : DefRec} {x : Str}
    (hn : l.most = some n) (hdf : d.params.defaults = [])
    (hbind : ∀ pm cd doc v : Value, bindArgs (docDef d.name d.params d.body d.scope pm cd doc) ⟨[v], []⟩ = pure [(x, v)])
    (hx : d.scope.names.lookup x = some .local ∨ d.scope.names.lookup x = some .cell)
    (hk : d.scope.kind = .function) (hco : d.scope.isCoroutine = false) (hgen : d.scope.isGenerator = false)
    (body : ∀ (w : World) (s₀ s₁ s : Shared) (mg mb : Str → Option Value) (fa : Addr) (o : Obj) (pm cd doc : Value) (a : Addr) (vs : List Value) (ns : List Int),
      Ground q loose [] XP w s₀ mg mb s₁.heap → YP w s₁.heap →
      s₁.heap.get? fa = some o → o.data = .func (docDef d.name d.params d.body d.scope pm cd doc) → s₁.heap.CodeRec cd d.name → mg d.name = some (.ref fa) →
      s₁.heap.get? a = some { cls := .type "list", data := .seq vs.toArray } → IntsAre vs ns → ns.length ≤ n →
      s.gens = #[] → s.os = s₁.os →
      Fr s₁.heap s₁.heap.objs.size s.heap (bindL (envOfC d.name d.scope s₁.heap.objs.size fa cd).kindOf [(x, .ref a)] fun _ => none) →
      Cl s₁.heap.objs.size (cellsFrom (s₁.heap.objs.size + 1) d.scope.names []) s.heap (bindC (envOfC d.name d.scope s₁.heap.objs.size fa cd).kindOf [(x, .ref a)] fun _ => none) →
      wpAny (model l.prog w) (callerA.deeper (envOfC d.name d.scope s₁.heap.objs.size fa cd)) (execs d.body (envOfC d.name d.scope s₁.heap.objs.size fa cd))
        (fun f s' => f = .ret (.bool true) ∧ (∀ b o, s₁.heap.get? b = some o → s'.heap.get? b = some o) ∧ s'.os = s₁.os ∧ s'.gens = #[]) (fun _ _ => False) s) :
    WalkN q loose XP YP l.row.toRowW d [] (fun f vs => PySem.call f vs) := by
  intro w s₀ s₁ mg mb G Y fa o pm cd doc dV kV ho hd hcd hD hmg hg args vals as hpre hlay hrd hwl hlo
  obtain rfl : dV = .none := Dflts.none hD hdf
  obtain rfl : kV = .none := Dflts.noKw hD
  obtain ⟨a, vs, ns, rfl, rfl, hobj, hints, hlen⟩ := script_of hn hpre hwl
  refine enter_callW ?_
  refine call_cells_ret (o := o) (by rw [depth_caller]; decide) ho (fd_plain hd) G.T.nolimit hcd (hbind pm cd doc (.ref a)) (fun y hy => ?_) (fun h₁ tk F X => ?_) hco hgen hk
  · obtain rfl : y = (x, Value.ref a) := List.mem_singleton.mp hy
    rcases hx with e | e
    · exact .inl e
    · exact .inr ⟨e, cellsFrom_some _ _ _ (.inl e)⟩
  · refine wpAny_mono (body w s₀ s₁ { s₁ with heap := h₁, toks := tk } mg mb fa o pm cd doc a vs ns G Y ho (fd_plain hd) hcd hmg hobj hints hlen hg rfl F X) (fun f s' hq => ?_) (fun _ _ hq => hq)
    obtain ⟨rfl, h2, h3, h4⟩ := hq
    exact ⟨.inl ⟨.bool true, .bool true, [], rfl, fun _ => rfl, .bool true, post_true l _, fun _ => ⟨List.Pairwise.nil, fun _ hm => (nomatch hm)⟩⟩, h2, h3, h4⟩

/-! ### rules over ANY heap (no ledger) from facts about the written part K: the library's own take a ledger (News) for what they write -/
section
variable {prog : Program} {w : World} {A : Around} {E : Value → Shared → Prop} {s : Shared} {K : Frag}

/-- a def of the module, or a method (qual 'C.m'), entered: the frame is the next address; cells behind it -/
theorem call_fn {R : Result → Shared → Prop} {name qual : Str} {params : Arguments} {body : List Stmt} {scope : Scope} {dV kV doc pm cdv ct oc : Value} {an od : Option Addr} {osl : Array (Option Value)} {f : Addr} {args : Args} {binds : List (Str × Value)}
    (X : K.In s.heap) (hlim : s.heap.NoLimit) (ho : K.lookup f = some ⟨oc, od, .func (fnOf name qual params body scope dV kV doc pm an cdv ct), osl⟩) (hcd : codeIn K cdv qual = true) (hroom : A.depth < recursionLimit)
    (hbind : BindsTo s (fnOf name qual params body scope dV kV doc pm an cdv ct) args binds)
    (hkind : (binds.all fun y => scope.names.lookup y.1 == some .local || scope.names.lookup y.1 == some .cell) = true)
    (h : ∀ s₁, InCallC s s.heap.objs.size (bindL (envOfC qual scope s.heap.objs.size f cdv).kindOf binds fun _ => none) (cellsFrom (s.heap.objs.size + 1) scope.names [])
        (bindC (envOfC qual scope s.heap.objs.size f cdv).kindOf binds fun _ => none) s₁ →
      wpAny (model prog w) (A.deeper (envOfC qual scope s.heap.objs.size f cdv)) (execs body (envOfC qual scope s.heap.objs.size f cdv))
        (fun fl s' => R (.ok (.ret (match fl with | .ret v => v | _ => .none))) s')
        (fun e s' => wpAny (model prog w) (A.deeper (envOfC qual scope s.heap.objs.size f cdv)) (leaving (envOfC qual scope s.heap.objs.size f cdv) e) (fun _ s'' => R (.error e) s'') (fun e' s'' => R (.error e') s'') s') s₁)
    (hco : scope.isCoroutine = false) (hgen : scope.isGenerator = false) (hk : scope.kind = .function) : codeAny (model prog w) A (.call (.ref f) args) R s := by
  refine codeAny_call_function hroom (X _ _ ho) rfl hco hgen rfl (codeRec_of X hcd) (hbind _ _ _ _ ?_)
  refine wpAny_newFunctionEnv_cells hk (kindsX hkind _) fun env he s₁ x => ?_
  subst he
  exact ⟨hlim.keeps x.toInCall.keep, codeAny_func (h s₁ x)⟩

/-- C(..): dict at size, instance at size + 1, then __init__ -/
theorem make_obj {R : Result → Shared → Prop} {C fI : Addr} {rest : List Value} {kw : List (Str × Value)}
    (X : K.In s.heap) (hm : makesIn K C = true) (hi : findIn K (.ref C) "__init__" = some (some (.ref fI))) (hf : isFn K (.ref fI) = true)
    (h : codeAny (model prog w) (A.under (.builtin "type.__call__" ⟨.ref C :: rest, kw⟩)) (.call (.ref fI) ⟨.ref (s.heap.objs.size + 1) :: rest, kw⟩) (InitBack (s.heap.objs.size + 1) R)
      { s with heap := (s.heap.push emptyDict).push (instObj C s.heap.objs.size) }) : codeAny (model prog w) A (.call (.ref C) ⟨rest, kw⟩) R s := by
  obtain ⟨hh, g, d, t, os⟩ := s
  exact make_core (makes_of X hm) (looks_findIn X hi) (fun self => bind_fn X self (beq_iff_eq.mp hf)) (.inl rfl) h

/-- x.name where the instance's dict holds the name and the class does not -/
theorem get_field {x C : Addr} {ox : Obj} {es : List DictEntry} {n : Nat} {name : Str} {expr : Bool} {v : Value} {Q : Value → Shared → Prop}
    (X : K.In s.heap) (I : PySem.W.InstAt s.heap x ox C (some (dictOf es n))) (hg : plainGet K C name = true) (hh : hasDictIn K C = true) (ha : findIn K (.ref C) name = some none)
    (hl : getL name es = some (some v)) (hv : handedIn v = true) (h : Q v { s with toks := s.toks + 1 }) : wpAny (model prog w) A (getAttr (.ref x) name expr) Q E s :=
  get_value X I (plainGet_of hg).1 (findObj_own hh ha rfl hl) hv h

/-- x.m(..): the method found in the class -/
theorem get_method {x C f : Addr} {ox : Obj} {es : List DictEntry} {n : Nat} {name : Str} {pl : Sem Bool} {Q : Value × List Value → Shared → Prop}
    (X : K.In s.heap) (I : PySem.W.InstAt s.heap x ox C (some (dictOf es n))) (hg : plainGet K C name = true) (hf : findIn K (.ref C) name = some (some (.ref f))) (ht : isFn K (.ref f) = true)
    (hl : getL name es = some none) (h : Q (.ref f, [.ref x]) s) : wpAny (model prog w) A (getMethod (.ref x) name pl) Q E s :=
  method_fn X I (plainGet_of hg).1 (plainGet_of hg).2 hf (beq_iff_eq.mp ht) (by show (lookIn name (dictOf es n)).map _ = _; rw [lookIn_dict, hl]; rfl) h

/-! the whole heap as the ledger: makes every rule that writes through a ledger a rule over any heap -/
def noObjs (h : Heap) : Heap := { h with objs := #[] }
theorem noObjs_get (h : Heap) (b : Addr) : (noObjs h).get? b = none := by
  cases e : (noObjs h).get? b with
  | none => rfl
  | some o => exact absurd (Heap.lt_size e) (Nat.not_lt_zero _)
def ledger (h : Heap) (L d : Addr) : List (Addr × Obj) := (List.range h.objs.size).filterMap fun a => if a = L ∨ a = d then none else (h.get? a).map fun o => (a, o)
theorem mem_ledger {h : Heap} {L d a : Addr} {o : Obj} : (a, o) ∈ ledger h L d ↔ a ≠ L ∧ a ≠ d ∧ h.get? a = some o := by
  unfold ledger
  rw [List.mem_filterMap]
  constructor
  · rintro ⟨b, _, e⟩
    split at e
    · cases e
    · rename_i hb
      obtain ⟨o', ho, e'⟩ := Option.map_eq_some_iff.mp e
      cases e'
      exact ⟨fun q => hb (.inl q), fun q => hb (.inr q), ho⟩
  · rintro ⟨n1, n2, ho⟩
    refine ⟨a, List.mem_range.mpr (Heap.lt_size ho), ?_⟩
    rw [if_neg (show ¬ (a = L ∨ a = d) from fun q => q.elim n1 n2), ho] <;> rfl
theorem news_ledger {h : Heap} {L d : Addr} {od : Obj} (hne : d ≠ L) (ho : h.get? d = some od) : News (noObjs h) L h ([] ++ (d, od) :: ledger h L d) := by
  rintro ⟨a, o⟩ hp
  rcases List.mem_cons.mp hp with e | hp
  · cases e
    exact ⟨ho, hne, noObjs_get _ _⟩
  · obtain ⟨n1, n2, e⟩ := mem_ledger.mp hp
    exact ⟨e, n1, noObjs_get _ _⟩
theorem fr_all {h : Heap} {L : Addr} {m : Str → Option Value} (n : h.Ns L m) : Fr (noObjs h) L h m :=
  ⟨n, fun b o e => (by rw [noObjs_get] at e; cases e), Nat.zero_le _⟩
/-- Upd of the head entry (for append_K, setItem_K ..) -/
theorem upd_ledger {h : Heap} {L d : Addr} {o o' : Obj} : Upd d o o' ((d, o) :: ledger h L d) ((d, o') :: ledger h L d) :=
  .head fun ⟨_, _⟩ hp => (mem_ledger.mp hp).2.1

/-- x.name = v over any heap: L is any namespace of the heap (the frame's, say): its map stays, its object is not told; all else but the dict stays -/
theorem set_field {x C dx L : Addr} {ox : Obj} {m : Str → Option Value} {es es' : List DictEntry} {n n' : Nat} {name : Str} {v : Value} {Q : Unit → Shared → Prop}
    (X : K.In s.heap) (I : PySem.W.InstAt s.heap x ox C (some (dictOf es n))) (hd : ox.dict = some dx) (hL : s.heap.Ns L m) (hne : dx ≠ L)
    (hs : findIn K (.ref C) "__setattr__" = some (some (.builtin "object.__setattr__"))) (hp : plainOver K C = true) (ht : takerIn K C name = some none) (hh : hasDictIn K C = true) (hl : (getL name es).isSome = true)
    (e : (putL name (PyData.keyHash w.params name) (.str name (s.toks + 1)) v es, putN name es n) = (es', n')) (hz : es'.length ≤ 1000)
    (h : ∀ h' : Heap, h'.Ns L m → h'.get? dx = some (dictOf es' n') → (∀ b o, b ≠ dx → b ≠ L → s.heap.get? b = some o → h'.get? b = some o) → Q () { s with heap := h', toks := s.toks + 2 }) :
    wpAny (model prog w) A (setAttr (.ref x) name v) Q E s := by
  obtain ⟨e1, e2⟩ := Prod.mk.inj e
  have hdx : s.heap.get? dx = some (dictOf es n) := by
    have := I.dict
    rw [hd] at this
    exact this
  refine set_plain X I hs (osa_dict (s := { s with toks := s.toks + 1 }) (h₀ := noObjs s.heap) (L := L) (m := m) (od := dictOf es n) (od' := dictOf es' n') (es := es') (n := n') (pre := []) (post := ledger s.heap L dx)
    (fr_all hL) (news_ledger hne hdx) X I hd hp ht hh hl (fun _ q => nomatch q) (fun ⟨_, _⟩ q => (mem_ledger.mp q).2.1) (by rw [putName_dict, e1, e2]) rfl hz fun h' F' N' => ?_)
  exact h h' F'.ns (N'.get (List.Mem.head _)) fun b o n1 n2 ho => N'.get (List.Mem.tail _ (mem_ledger.mpr ⟨n2, n1, ho⟩))
end
end Att

namespace L2
open PySem PySem.Spec PyProof.Rows

theorem vals_ints : ∀ {vs : List Value} {ns : List Int}, IntsAre vs ns → Vals (ns.map V.int) vs
  | _, _, .nil => .nil
  | _, _, .cons n t h => .cons ⟨t, rfl⟩ (vals_ints h)

/-- nothing is tracked but the script, known to the object (or it is an object of the module) -/
def Only (H : Hp) : Prop := ∀ b, H b = none ∨ ∃ o xs, H b = some (.frz o (.lst xs))

/-- THE HEAD: the law's promise, at the heap behind the top. F, the promise of the law's def, may use that base is part of the heap (so K.In base, base.Ns mainGlobals mg stand in Mod) -/
theorem law_call {P : Program} {w : World} {K : PySem.W.Frag} {mg mb : Str → Option Value} {CX : CXT} {k : Nat} {fa a : Addr} {fd : FuncData} {x : Str} {sp : Sp} {s₁ : Shared} {vs : List Value} {ns : List Int}
    (KX : K.In s₁.heap) (hns : s₁.heap.Ns mainGlobals mg) (hb : s₁.heap.Ns builtinsNs mb) (hbb : ∀ x : Str, x ≠ "__name__" → mb x = bootBuiltins x) (hlim : s₁.heap.NoLimit) (hg : s₁.gens = #[])
    (ha : s₁.heap.get? a = some { cls := .type "list", data := .seq vs.toArray }) (hi : IntsAre vs ns) (hl : ns.length ≤ sizeLine) (hr : Room k callerA)
    (F : ∀ base : Heap, K.In base → base.Ns mainGlobals mg → FnOk P w K mg base CX k fa fd [x] sp) (hbind : ∀ (s : Shared) (u : Value), BindsTo s fd ⟨[u], []⟩ [(x, u)])
    (hsp : ∀ H : Hp, Only H → SqL K H a (ns.map V.int) → sp [.ref a] H (fun v _ => v = .bl true) fun _ _ _ => False)
    (hCX : ∀ H e s', CX [] H s₁ (fun _ _ _ => False) e s' → False) :
    codeAny (model P w) callerA (.call (.ref fa) ⟨[.ref a], []⟩) (fun r s' => r = .ok (.ret (.bool true)) ∧ OldK s₁.heap s'.heap ∧ s'.os = s₁.os ∧ AllBare s'.gens) s₁ := by
  have rv := vals_ints hi
  have lenV := hi.length
  -- from an abstract heap in which nothing but the script may be tracked
  have core : ∀ H : Hp, Only H → SqL K H a (ns.map V.int) → HOk P w H s₁.heap → (∀ b, H b ≠ none → b = a) → (H a ≠ none → K.lookup a = none) →
      codeAny (model P w) callerA (.call (.ref fa) ⟨[.ref a], []⟩) (fun r s' => r = .ok (.ret (.bool true)) ∧ OldK s₁.heap s'.heap ∧ s'.os = s₁.os ∧ AllBare s'.gens) s₁ := by
    intro H hO hS hok hA hK
    have base_of : ∀ {b : Addr} {o : Obj}, s₁.heap.get? b = some o → H b = none → (hidT s₁.heap H).get? b = some o := fun e n => hidT_get e n
    have noA : ∀ {b : Addr} {o : Obj} {es : Array DictEntry} {ep : Nat}, s₁.heap.get? b = some o → o.data = .dict es ep → H b = none := fun {b o es ep} e d => by
      cases q : H b with
      | none => rfl
      | some u =>
        have e' : b = a := hA b (by rw [q]; simp)
        subst e'
        rw [ha] at e; cases e
        have d' : Data.seq vs.toArray _ = Data.dict es ep := d
        cases d'
    have nsK : ∀ {b : Addr} {m : Str → Option Value}, s₁.heap.Ns b m → (hidT s₁.heap H).Ns b m := fun {b m} ⟨o, es, ep, e, d, r⟩ => ⟨o, es, ep, base_of e (noA e d), d, r⟩
    have hKb : K.In (hidT s₁.heap H) := fun b o e => base_of (KX b o e) (by
      cases q : H b with
      | none => rfl
      | some u =>
        have e' : b = a := hA b (by rw [q]; simp)
        subst e'
        rw [hK (by rw [q]; simp)] at e; cases e)
    have hM : Mod K mg (hidT s₁.heap H) := ⟨hKb, nsK hns, ⟨mb, nsK hb, hbb⟩, let ⟨mc, h1, h2⟩ := hlim; ⟨mc, nsK h1, h2⟩⟩
    have e0 : Env0 P w K mg (hidT s₁.heap H) callerA [] s₁ H := ⟨rfl, hM, fun b o e => of_hidT e, Nat.le_of_eq (hidT_size _ _), trivial, fun b hb => absurd (show b ∈ ([] : List Addr) from hb) (by simp), hok, .of_eq hg⟩
    refine codeAny_mono ((F _ hKb (nsK hns)).run callerA [] s₁ H ⟨[.ref a], []⟩ [.ref a] [.ref a] _ _ hr e0 (hbind s₁ (.ref a)) (.cons rfl .nil) (hsp H hO hS)) fun r s' h => ?_
    cases r with
    | error e => exact (hCX H e s' h).elim
    | ok fl =>
      cases fl with
      | next => exact False.elim h
      | brk => exact False.elim h
      | cont => exact False.elim h
      | ret u =>
        obtain ⟨v, H', os, bare, un, hok', r', q⟩ := h
        have q' : v = .bl true := q
        subst q'
        obtain rfl : u = Value.bool true := r'
        refine ⟨rfl, OldK.of_keep fun b o e => ?_, os, bare⟩
        cases q : H b with
        | none => exact un.keep b o e q (by intro z; exact absurd (show b ∈ ([] : List Addr) from z) (by simp)) (by simp)
        | some u =>
          rcases hO b with z | ⟨ob, xs, z⟩
          · rw [q] at z; cases z
          · have z2 := un.frzs b ob _ z
            obtain ⟨e1, _⟩ := hok b _ z
            obtain ⟨e2, _⟩ := hok' b _ z2
            rw [e] at e1; cases e1
            exact e2
  cases hk : K.lookup a with
  | some o =>
    -- the script is one of the module's own objects
    have e := KX a o hk
    rw [ha] at e
    cases e
    refine core (fun _ => none) (fun _ => .inl rfl) (.inr ⟨_, vs.toArray, _, hk, rfl, rfl, rfl, by rw [List.size_toArray, lenV]; exact hl, by simpa using rv⟩) (fun b u z => by have z' : (none : Option HO) = some u := z; cases z') (fun b z => absurd rfl z) fun z => absurd rfl z
  | none =>
    refine core (fun b => if b = a then some (.frz { cls := .type "list", data := .seq vs.toArray } (.lst (ns.map V.int))) else none) (fun b => ?_) (.inl (.inr ⟨{ cls := .type "list", data := .seq vs.toArray }, if_pos rfl⟩)) (fun b u z => ?_) (fun b z => ?_) fun _ => hk
    · by_cases hb : b = a
      · exact .inr ⟨_, _, if_pos hb⟩
      · exact .inl (if_neg hb)
    · by_cases hb : b = a
      · have z' := (if_pos hb).symm.trans z
        cases z'
        subst hb
        exact ⟨ha, by rw [List.length_map]; exact hl, vs, _, rv, ha⟩
      · have z' := (if_neg hb).symm.trans z
        cases z'
    · by_cases hb : b = a
      · exact hb
      · exact absurd (if_neg hb) z
end L2

namespace L2
open PySem PySem.Spec PyProof.Rows

abbrev KOf {K : PySem.W.Frag} {h : Heap} (_ : K.In h) : PySem.W.Frag := K

/-- the goal that k_head leaves (case hc), from the law's promise. F gives the function object fd (K's own) once, then the promise over every base -/
theorem walk_of {l : PySem.W.OpenLaw} {n k : Nat} {q : Program} {loose : List Str} {XP : (Str → Option Value) → Heap → Prop} {YP : World → Heap → Prop} {d : DefRec} {K : Params → PySem.W.Frag} {CX : World → CXT} {sp : World → Sp} {x : Str}
    (hn : l.most = some n) (hn2 : n ≤ sizeLine) (hdf : d.params.defaults = []) (hr : Room k callerA)
    (hY : ∀ (w : World) (h : Heap), YP w h → (K w.params).In h)
    (F : ∀ (w : World) (mg : Str → Option Value) (fa : Addr) (h : Heap), (K w.params).In h → h.Ns mainGlobals mg → mg d.name = some (.ref fa) →
      ∃ fd : FuncData, (∀ (s : Shared) (u : Value), BindsTo s fd ⟨[u], []⟩ [(x, u)]) ∧
        ∀ base : Heap, (K w.params).In base → base.Ns mainGlobals mg → FnOk l.prog w (K w.params) mg base (CX w) k fa fd [x] (sp w))
    (hsp : ∀ (w : World) (H : Hp) (a : Addr) (ns : List Int), ns.length ≤ n → Only H → SqL (K w.params) H a (ns.map V.int) → sp w [.ref a] H (fun v _ => v = .bl true) fun _ _ _ => False)
    (hCX : ∀ (w : World) (H : Hp) (s : Shared) (e : Value) (s' : Shared), CX w [] H s (fun _ _ _ => False) e s' → False) :
    PySem.W.WalkO q loose XP YP l.row.toRowW d [] (fun f vs => PySem.call f vs) := by
  refine Att.attach_call hn hdf fun w s₀ s₁ mg mb fa o pm cd doc a vs ns G Y ho hd hcd hmg hobj hints hlen hg => ?_
  have KX := hY w _ Y
  obtain ⟨fd, hb, hF⟩ := F w mg fa _ KX G.T.g hmg
  exact law_call KX G.T.g G.T.b G.T.builtins G.T.nolimit hg hobj hints (Nat.le_trans hlen hn2) hr hF hb (fun H hO hS => hsp w H a ns hlen hO hS) fun H e s' => hCX w H s₁ e s'
/-- the same where the promise hangs on the written part alone: (sp := My.sp_law), no hole under a binder -/
theorem walk_ofK {l : PySem.W.OpenLaw} {n k : Nat} {q : Program} {loose : List Str} {XP : (Str → Option Value) → Heap → Prop} {YP : World → Heap → Prop} {d : DefRec} {K : Params → PySem.W.Frag} {CX : CXT} {sp : PySem.W.Frag → Sp} {x : Str}
    (hn : l.most = some n) (hn2 : n ≤ sizeLine) (hdf : d.params.defaults = []) (hr : Room k callerA)
    (hY : ∀ (w : World) (h : Heap), YP w h → (K w.params).In h)
    (F : ∀ (w : World) (mg : Str → Option Value) (fa : Addr) (h : Heap), (K w.params).In h → h.Ns mainGlobals mg → mg d.name = some (.ref fa) →
      ∃ fd : FuncData, (∀ (s : Shared) (u : Value), BindsTo s fd ⟨[u], []⟩ [(x, u)]) ∧
        ∀ base : Heap, (K w.params).In base → base.Ns mainGlobals mg → FnOk l.prog w (K w.params) mg base CX k fa fd [x] (sp (K w.params)))
    (hsp : ∀ (K : PySem.W.Frag) (H : Hp) (a : Addr) (ns : List Int), ns.length ≤ n → Only H → SqL K H a (ns.map V.int) → sp K [.ref a] H (fun v _ => v = .bl true) fun _ _ _ => False)
    (hCX : ∀ (H : Hp) (s : Shared) (e : Value) (s' : Shared), CX [] H s (fun _ _ _ => False) e s' → False) :
    PySem.W.WalkO q loose XP YP l.row.toRowW d [] (fun f vs => PySem.call f vs) :=
  walk_of (K := K) (CX := fun _ => CX) (sp := fun w => sp (K w.params)) hn hn2 hdf hr hY F (fun w H a ns h1 h2 h3 => hsp (K w.params) H a ns h1 h2 h3) fun _ H s e s' => hCX H s e s'
end L2

/- THE LAST THEOREM (shape; LID, My.* are yours):
   My.Adr: a structure of the addresses that your layer names (classes, functions); My.Txt K t: a structure (Prop) of the equations over K;
   My.txt_mk : {K} {implicit addresses ..} (e1 : nsIn K mainGlobals "law" = some (some (.ref f))) (e2 : K.lookup f = some ⟨oc, od, .func (fnOf "law" "law" params body scope dV kV doc pm an cdv ct), sl⟩) (e3 : codeIn K cdv "law" = true) .. : ∃ t, My.Txt K t

set_option maxRecDepth 100000 in
set_option maxHeartbeats 0 in
theorem PySem.Challenge.cw_LID_holds : PySem.Challenge.rw_LID.Holds := by
  w_on; o_law; k_head; (case hw => w_witness2)
  k_fill
  refine L2.walk_of (l := PySem.Challenge.rw_LID) (n := 63) (k := 40) (x := "script") (CX := fun w => ..) (sp := fun _ => My.sp_law) rfl (by decide) rfl ⟨rfl, by decide, by decide⟩ (fun w h Y => PySem.W.kIn_of Y) ?F ?S ?C
  case F =>
    intro w mg fa h KX G hmg
    have T : ∃ t, My.Txt (L2.KOf KX) t := by
      dsimp only [L2.KOf]                          -- K must stand as «<heap const> w.params» for k_is
      refine' My.txt_mk ?e1 ?e2 ?e3 ..
      (case e1 => PySem.W.k_is)                    -- in the order: a name -> its address -> its object -> its parts
      (case e2 => PySem.W.k_is)
      ..
    obtain ⟨t, T⟩ := T
    have e0 := hmg.symm.trans (PySem.W.mg_of KX G T.law)
    cases e0                                       -- fa is the law's own address
    exact ⟨_, fun s u => .of_eq rfl, fun base kb nb => My.law_fn T kb nb⟩     -- if «.of_eq rfl» comes too early: refine' ⟨_, ?b, fun base kb nb => My.law_fn T kb nb⟩; exact fun s u => .of_eq rfl
  case S => exact fun w H a ns hl hO hS => ..
  case C => exact ..
(the tactic k_is has no namespace: write k_is) -/

/-! SHORT WORDS over the layer: a def of the text, its body, what a loop and a test want. -/
namespace L2
open PySem PySem.Spec PyProof.Rows

/-! ### the text by places -/
/-- the j-th statement of a class's body -/
def inClass (s : Stmt) (j : Nat) : Stmt := match s with
  | .ClassDef _ _ _ body _ _ _ _ _ _ _ => body.getD j (.Pass ⟨0, 0, 0, 0⟩)
  | _ => .Pass ⟨0, 0, 0, 0⟩
def defArgs (s : Stmt) : Arguments := match s with
  | .FunctionDef _ a _ _ _ _ _ _ _ _ => a
  | _ => { posonlyargs := [], args := [], vararg := none, kwonlyargs := [], kw_defaults := [], kwarg := none, defaults := [] }
def defBody (s : Stmt) : List Stmt := match s with
  | .FunctionDef _ _ b _ _ _ _ _ _ _ => b
  | _ => []
def defScope (s : Stmt) : Scope := match s with
  | .FunctionDef _ _ _ _ _ _ sc _ _ _ => sc
  | _ => { kind := .function, names := [], isGenerator := false, isCoroutine := false }

/-! ### no exception leaves a def -/
abbrev CX0 : CXT := fun _ _ _ _ _ _ => False
abbrev E0 : XK := fun _ _ _ => False
theorem pass0 {X : Cx} : Passes CX0 X E0 := fun _ _ _ _ _ _ _ h => h.elim

/-! ### a def (or method) of the text as it stands behind the top -/
structure Fun (K : PySem.W.Frag) (x qual : Str) (st : Stmt) (f : Addr) (fd : FuncData) : Prop where
  ex : ∃ (oc : Value) (od : Option Addr) (kV doc pm : Value) (an : Option Addr) (cdv ct : Value) (osl : Array (Option Value)),
    fd = PySem.W.fnOf x qual (defArgs st) (defBody st) (defScope st) .none kV doc pm an cdv ct ∧ K.lookup f = some ⟨oc, od, .func fd, osl⟩ ∧ PySem.W.codeIn K cdv qual = true
  kp : PySem.W.keepIn K (.ref f) = true
section
variable {P : Program} {w : World} {K : PySem.W.Frag} {mg : Str → Option Value} {base : Heap}
/-- THE RULE for a def: its body as a term of rules, and the reading of that term -/
theorem Fun.ok {x qual : Str} {st : Stmt} {f : Addr} {fd : FuncData} {N ps : List Str} {k : Nat} {sp : Sp} (F : Fun K x qual st f fd) (S : FnScope N ps (defScope st)) (len : ∀ vs H Q E, sp vs H Q E → vs.length = ps.length)
    (hbody : ∀ (cdv : Value) (A : Around) (outer : List Env) (s : Shared) (H : Hp) (vs : List V) (Q : VK) (E : XK), Room k (A.deeper (envOfC qual (defScope st) s.heap.objs.size f cdv)) → sp vs H Q E →
      ∃ t, PSs (cxOf CX0 P w K mg base N qual (defScope st) f cdv A outer s H E).nox (defBody st) t ∧ t { nx := fun _ H' => Q .non H', rt := Q } (start N vs) H) : FnOk P w K mg base CX0 (k + 1) f fd ps sp := by
  obtain ⟨oc, od, kV, doc, pm, an, cdv, ct, osl, rfl, lk, hcd⟩ := F.ex
  refine fn_of lk hcd S len fun A outer s H vs Q E hr hsp => ?_
  obtain ⟨t, h, q⟩ := hbody cdv A outer s H vs Q E hr hsp
  exact ⟨t, h.nox, q⟩
/-- how its arguments bind (no defaults): h is «fun _ _ _ _ _ _ us hl => match us, hl with | [_, _], _ => rfl», one _ a parameter -/
theorem Fun.binds {x qual : Str} {st : Stmt} {f : Addr} {fd : FuncData} {ps : List Str} (F : Fun K x qual st f fd)
    (h : ∀ (kV doc pm : Value) (an : Option Addr) (cdv ct : Value) (us : List Value), us.length = ps.length → bindArgs (PySem.W.fnOf x qual (defArgs st) (defBody st) (defScope st) .none kV doc pm an cdv ct) ⟨us, []⟩ = pure (ps.zip us)) : Binds K fd ps [] := by
  obtain ⟨oc, od, kV, doc, pm, an, cdv, ct, osl, rfl, lk, hcd⟩ := F.ex
  exact .all (h kV doc pm an cdv ct)
theorem fun_mk {x qual : Str} {st : Stmt} {f : Addr} {oc : Value} {od an : Option Addr} {osl : Array (Option Value)} {kV doc pm cdv ct : Value} (l : K.lookup f = some ⟨oc, od, .func (PySem.W.fnOf x qual (defArgs st) (defBody st) (defScope st) .none kV doc pm an cdv ct), osl⟩)
    (c : PySem.W.codeIn K cdv qual = true) (k : PySem.W.keepIn K (.ref f) = true) : Fun K x qual st f (PySem.W.fnOf x qual (defArgs st) (defBody st) (defScope st) .none kV doc pm an cdv ct) := ⟨⟨oc, od, kV, doc, pm, an, cdv, ct, osl, rfl, l, c⟩, k⟩
end
theorem hu_of {A : Around} {k : Nat} (hr : Room k A) : A.units + 1 < cLine := Nat.lt_of_le_of_lt (Nat.add_le_add_left (by decide : 1 ≤ 64) _) hr.units
theorem small1000 {n : Nat} (h : n ≤ 1000) : n < sizeLine := Nat.lt_of_le_of_lt h (by decide)

/-! ### expressions in short: the name that stands in the i-th slot -/
section
variable {X : Cx}
theorem pv (i : Nat) {x : Str} {pos : Pos} (hN : X.N[i]? = some x := by rfl) (hv : Vis X.env.scope x := by first | exact Or.inl rfl | exact Or.inr (Or.inl rfl) | exact Or.inr (Or.inr rfl)) (hd : (x == ("__debug__" : Str)) = false := by decide)
    (hcd : (x == ("__classdict__" : Str)) = false := by decide) : PE X (.Name x pos) (tVar i) := pe_var hN hv hd hcd
end

/-! ### tests -/
theorem iteF {A B : Prop} (h : B) : if false = true then A else B := by
  rw [if_neg Bool.false_ne_true]
  exact h
theorem iteT {A B : Prop} (h : A) : if true = true then A else B := by
  rw [if_pos rfl]
  exact h
theorem ite2 {c A B : Prop} [Decidable c] (h1 : c → A) (h2 : ¬ c → B) : if c then A else B := by
  by_cases h : c
  · rw [if_pos h]
    exact h1 h
  · rw [if_neg h]
    exact h2 h
theorem iteNS {c A B : Prop} [Decidable c] (hc : c) (h : B) : if (!decide c) = true then A else B := by
  rw [decide_eq_true hc]
  exact iteF h

/-! ### heaps -/
/-- all that was tracked is as it was -/
def Same (H H' : Hp) : Prop := ∀ b o, H b = some o → H' b = some o
theorem Same.refl (H : Hp) : Same H H := fun _ _ h => h
theorem Same.trans {H H1 H2 : Hp} (a : Same H H1) (b : Same H1 H2) : Same H H2 := fun c o h => b c o (a c o h)
theorem Same.free {H H' : Hp} (e : Same H H') {l : Addr} (h : H' l = Option.none) : H l = Option.none := by
  cases q : H l with
  | none => rfl
  | some o =>
    rw [e l o q] at h
    cases h
theorem Same.seq {K : PySem.W.Frag} {H H' : Hp} {a : Addr} {xs : List V} (e : Same H H') (h : SqL K H a xs) : SqL K H' a xs := by
  rcases h with (h | ⟨o, h⟩) | h
  · exact .inl (.inl (e _ _ h))
  · exact .inl (.inr ⟨o, e _ _ h⟩)
  · exact .inr h

end L2

set_option maxHeartbeats 4000000
/-! PLAIN DATA over the hand layer: what a value is worth, without addresses. -/
namespace DL
open PySem L2

/-- plain data -/
inductive D where
  | non | bl (b : Bool) | int (i : Int) | tup (l : List D) | lst (l : List D) | exc (x : Str)

/-- an exception that was caught: its class -/
def ExcO (a C : Addr) : HO := .ext fun h => ∃ o vs, h.get? a = some o ∧ o.cls = .ref C ∧ o.data = .fields vs

mutual
/-- a value bears a datum in the frozen part F of the heap -/
def Den (K : PySem.W.Frag) (F : Hp) : D → V → Prop
  | .non, v => v = .non
  | .bl b, v => v = .bl b
  | .int i, v => v = .int i
  | .tup l, v => ∃ a xs, v = .ref a ∧ SqT K F a xs ∧ DenL K F l xs
  | .lst l, v => ∃ a xs, v = .ref a ∧ SqL K F a xs ∧ DenL K F l xs
  | .exc x, v => ∃ a C, v = .ref a ∧ PySem.W.nsIn K mainGlobals x = some (some (.ref C)) ∧ F a = some (ExcO a C)
def DenL (K : PySem.W.Frag) (F : Hp) : List D → List V → Prop
  | [], xs => xs = []
  | d :: l, xs => ∃ v vs, xs = v :: vs ∧ Den K F d v ∧ DenL K F l vs
end

theorem Same.tup {K : PySem.W.Frag} {H H' : Hp} {a : Addr} {xs : List V} (e : Same H H') (h : SqT K H a xs) : SqT K H' a xs := by
  rcases h with (h | ⟨o, h⟩) | h
  · exact .inl (.inl (e _ _ h))
  · exact .inl (.inr ⟨o, e _ _ h⟩)
  · exact .inr h

mutual
theorem Den.mono {K : PySem.W.Frag} {F F' : Hp} (s : Same F F') : ∀ (d : D) {v : V}, Den K F d v → Den K F' d v
  | .non, _, h => by simpa only [Den] using h
  | .bl _, _, h => by simpa only [Den] using h
  | .int _, _, h => by simpa only [Den] using h
  | .tup l, _, h => by
    simp only [Den] at h ⊢
    obtain ⟨a, xs, e, q, r⟩ := h
    exact ⟨a, xs, e, Same.tup s q, DenL.mono s l r⟩
  | .lst l, _, h => by
    simp only [Den] at h ⊢
    obtain ⟨a, xs, e, q, r⟩ := h
    exact ⟨a, xs, e, s.seq q, DenL.mono s l r⟩
  | .exc _, _, h => by
    simp only [Den] at h ⊢
    obtain ⟨a, C, e, q, r⟩ := h
    exact ⟨a, C, e, q, s _ _ r⟩
theorem DenL.mono {K : PySem.W.Frag} {F F' : Hp} (s : Same F F') : ∀ (l : List D) {xs : List V}, DenL K F l xs → DenL K F' l xs
  | [], _, h => by simpa only [DenL] using h
  | d :: l, _, h => by
    simp only [DenL] at h ⊢
    obtain ⟨v, vs, e, q, r⟩ := h
    exact ⟨v, vs, e, Den.mono s d q, DenL.mono s l r⟩
end

section
variable {K : PySem.W.Frag} {F F' : Hp}
theorem DenL.nil : DenL K F [] [] := by simp only [DenL]
theorem DenL.cons {d : D} {l : List D} {v : V} {vs : List V} (h : Den K F d v) (r : DenL K F l vs) : DenL K F (d :: l) (v :: vs) := by
  simp only [DenL]; exact ⟨v, vs, rfl, h, r⟩
theorem DenL.inv_nil {xs : List V} (h : DenL K F [] xs) : xs = [] := by simpa only [DenL] using h
theorem DenL.inv_cons {d : D} {l : List D} {xs : List V} (h : DenL K F (d :: l) xs) : ∃ v vs, xs = v :: vs ∧ Den K F d v ∧ DenL K F l vs := by simpa only [DenL] using h
theorem DenL.length : ∀ {l : List D} {xs : List V}, DenL K F l xs → xs.length = l.length
  | [], _, h => by rw [h.inv_nil]; rfl
  | d :: l, _, h => by
    obtain ⟨v, vs, e, _, r⟩ := h.inv_cons
    subst e
    rw [List.length_cons, List.length_cons, r.length]
theorem DenL.get : ∀ {l : List D} {xs : List V} {i : Nat} {d : D}, DenL K F l xs → l[i]? = some d → ∃ v, xs[i]? = some v ∧ Den K F d v
  | [], _, _, _, _, e => by simp at e
  | d :: l, _, 0, d', h, e => by
    obtain ⟨v, vs, z, q, r⟩ := h.inv_cons
    subst z
    simp at e; subst e
    exact ⟨v, by simp, q⟩
  | d :: l, _, i + 1, d', h, e => by
    obtain ⟨v, vs, z, q, r⟩ := h.inv_cons
    subst z
    obtain ⟨u, h1, h2⟩ := DenL.get (i := i) (d := d') r (by simpa using e)
    exact ⟨u, by simpa using h1, h2⟩
theorem DenL.at : ∀ {l : List D} {xs : List V} {i : Nat} {v : V}, DenL K F l xs → xs[i]? = some v → ∃ d, l[i]? = some d ∧ Den K F d v
  | [], _, _, _, h, e => by rw [h.inv_nil] at e; simp at e
  | d :: l, _, 0, v', h, e => by
    obtain ⟨v, vs, z, q, r⟩ := h.inv_cons
    subst z
    simp at e; subst e
    exact ⟨d, by simp, q⟩
  | d :: l, _, i + 1, v', h, e => by
    obtain ⟨v, vs, z, q, r⟩ := h.inv_cons
    subst z
    obtain ⟨u, h1, h2⟩ := DenL.at (i := i) (v := v') r (by simpa using e)
    exact ⟨u, by simpa using h1, h2⟩
theorem DenL.append : ∀ {l m : List D} {xs ys : List V}, DenL K F l xs → DenL K F m ys → DenL K F (l ++ m) (xs ++ ys)
  | [], _, _, _, h, q => by rw [h.inv_nil]; simpa using q
  | d :: l, m, _, ys, h, q => by
    obtain ⟨v, vs, z, p, r⟩ := h.inv_cons
    subst z
    exact DenL.cons p (DenL.append r q)
theorem DenL.take : ∀ {l : List D} {xs : List V} (n : Nat), DenL K F l xs → DenL K F (l.take n) (xs.take n)
  | [], _, n, h => by rw [h.inv_nil]; simpa using DenL.nil
  | _ :: _, _, 0, _ => by simpa using DenL.nil
  | d :: l, _, n + 1, h => by
    obtain ⟨v, vs, z, p, r⟩ := h.inv_cons
    subst z
    exact DenL.cons p (DenL.take n r)
theorem DenL.drop : ∀ {l : List D} {xs : List V} (n : Nat), DenL K F l xs → DenL K F (l.drop n) (xs.drop n)
  | [], _, n, h => by rw [h.inv_nil]; simpa using DenL.nil
  | _ :: _, _, 0, h => by simpa using h
  | d :: l, _, n + 1, h => by
    obtain ⟨v, vs, z, p, r⟩ := h.inv_cons
    subst z
    simpa using DenL.drop n r
theorem DenL.ints : ∀ (ns : List Int), DenL K F (ns.map D.int) (ns.map V.int)
  | [] => DenL.nil
  | n :: ns => DenL.cons (by simp only [Den]) (DenL.ints ns)
theorem Den.int {i : Int} {v : V} (h : Den K F (.int i) v) : v = .int i := by simpa only [Den] using h
theorem Den.bl {b : Bool} {v : V} (h : Den K F (.bl b) v) : v = .bl b := by simpa only [Den] using h
theorem Den.non {v : V} (h : Den K F .non v) : v = .non := by simpa only [Den] using h
theorem Den.tup {l : List D} {v : V} (h : Den K F (.tup l) v) : ∃ a xs, v = .ref a ∧ SqT K F a xs ∧ DenL K F l xs := by simpa only [Den] using h
theorem Den.lst {l : List D} {v : V} (h : Den K F (.lst l) v) : ∃ a xs, v = .ref a ∧ SqL K F a xs ∧ DenL K F l xs := by simpa only [Den] using h
theorem Den.exc {x : Str} {v : V} (h : Den K F (.exc x) v) : ∃ a C, v = .ref a ∧ PySem.W.nsIn K mainGlobals x = some (some (.ref C)) ∧ F a = some (ExcO a C) := by simpa only [Den] using h
theorem Den.int_mk {i : Int} : Den K F (.int i) (.int i) := by simp only [Den]
theorem Den.bl_mk {b : Bool} : Den K F (.bl b) (.bl b) := by simp only [Den]
theorem Den.non_mk : Den K F .non .non := by simp only [Den]
theorem Den.tup_mk {l : List D} {a : Addr} {xs : List V} (q : SqT K F a xs) (r : DenL K F l xs) : Den K F (.tup l) (.ref a) := by simp only [Den]; exact ⟨a, xs, rfl, q, r⟩
theorem Den.lst_mk {l : List D} {a : Addr} {xs : List V} (q : SqL K F a xs) (r : DenL K F l xs) : Den K F (.lst l) (.ref a) := by simp only [Den]; exact ⟨a, xs, rfl, q, r⟩
end

/-- what an expression is worth: a datum, or a list that has just been made and that nobody else holds -/
inductive W where
  | val (d : D) | new (l : List D)
def W.d : W → D
  | .val d => d
  | .new l => .lst l

abbrev Rho := List (Option D)

/-- the state within an expression: F the frozen part, H the heap, H0 the heap at the def's entry, Fc the frozen part there -/
structure ER (K : PySem.W.Frag) (H0 Fc F H : Hp) (σ : St) (ρ : Rho) : Prop where
  sub : Same F H
  same : Same H0 H
  base : Same Fc F
  new : ∀ a o, F a = some o → Fc a = some o ∨ H0 a = none
  env : ∀ (i : Nat) d, ρ[i]? = some (some d) → ∃ v, σ[i]? = some (some v) ∧ Den K F d v

def RW (K : PySem.W.Frag) (H0 F H : Hp) : W → V → Prop
  | .val d, v => Den K F d v
  | .new l, v => ∃ a xs, v = .ref a ∧ F a = none ∧ H0 a = none ∧ H a = some (.lst xs) ∧ DenL K F l xs

theorem same_upd {F : Hp} {a : Addr} {o : HO} (h : F a = none) : Same F (upd F a o) := fun b u e => by
  rw [upd_ne (fun z => by subst z; rw [h] at e; cases e)]; exact e

section
variable {K : PySem.W.Frag} {H0 Fc F H : Hp} {σ : St} {ρ : Rho}
/-- a fresh object is laid and frozen -/
theorem ER.lay (R : ER K H0 Fc F H σ ρ) {a : Addr} (o : HO) (hn : H a = none) : ER K H0 Fc (upd F a o) (upd H a o) σ ρ ∧ Same F (upd F a o) := by
  have hF : F a = none := by
    cases q : F a with
    | none => rfl
    | some u => rw [R.sub a u q] at hn; cases hn
  have h0 : H0 a = none := R.same.free hn
  have sF := same_upd (o := o) hF
  refine ⟨⟨fun b u e => ?_, R.same.trans (same_upd hn), R.base.trans sF, fun b u e => ?_, fun i d e => ?_⟩, sF⟩
  · by_cases hb : b = a
    · subst hb; rw [upd_same] at e ⊢; exact e
    · rw [upd_ne hb] at e ⊢; exact R.sub b u e
  · by_cases hb : b = a
    · subst hb; exact .inr h0
    · rw [upd_ne hb] at e; exact R.new b u e
  · obtain ⟨v, h1, h2⟩ := R.env i d e
    exact ⟨v, h1, h2.mono sF⟩
/-- a fresh list is frozen -/
theorem ER.freeze (R : ER K H0 Fc F H σ ρ) {a : Addr} {xs : List V} (hF : F a = none) (h0 : H0 a = none) (hH : H a = some (.lst xs)) : ER K H0 Fc (upd F a (.lst xs)) H σ ρ ∧ Same F (upd F a (.lst xs)) := by
  have sF := same_upd (o := .lst xs) hF
  refine ⟨⟨fun b u e => ?_, R.same, R.base.trans sF, fun b u e => ?_, fun i d e => ?_⟩, sF⟩
  · by_cases hb : b = a
    · subst hb; rw [upd_same] at e; cases e; exact hH
    · rw [upd_ne hb] at e; exact R.sub b u e
  · by_cases hb : b = a
    · subst hb; exact .inr h0
    · rw [upd_ne hb] at e; exact R.new b u e
  · obtain ⟨v, h1, h2⟩ := R.env i d e
    exact ⟨v, h1, h2.mono sF⟩
theorem RW.freeze {w : W} {v : V} (R : ER K H0 Fc F H σ ρ) (h : RW K H0 F H w v) : ∃ F', Same F F' ∧ ER K H0 Fc F' H σ ρ ∧ Den K F' w.d v := by
  cases w with
  | val d => exact ⟨F, Same.refl _, R, h⟩
  | new l =>
    obtain ⟨a, xs, e, hF, h0, hH, r⟩ := h
    subst e
    obtain ⟨R', s⟩ := R.freeze hF h0 hH
    exact ⟨_, s, R', Den.lst_mk (SqL.of upd_same) (r.mono s)⟩
end

/-! ### readings -/
section
variable (K : PySem.W.Frag) (H0 Fc : Hp) (ρ : Rho)
def tD (w : W) : TE := fun σ H Q => ∃ F, ER K H0 Fc F H σ ρ ∧ ∀ v H' F', Same F F' → ER K H0 Fc F' H' σ ρ → RW K H0 F' H' w v → Q v H'
def tDf (d : D) : TE := fun σ H Q => ∃ F, ER K H0 Fc F H σ ρ ∧ ∀ v H' F', Same F F' → ER K H0 Fc F' H' σ ρ → Den K F' d v → Q v H'
def tDA (ds : List D) : TA := fun σ H Q => ∃ F, ER K H0 Fc F H σ ρ ∧ ∀ vs H' F', Same F F' → ER K H0 Fc F' H' σ ρ → DenL K F' ds vs → Q vs H'
def tDT (b : Bool) : TT := fun σ H Q => ∃ F, ER K H0 Fc F H σ ρ ∧ ∀ H' F', Same F F' → ER K H0 Fc F' H' σ ρ → Q b H'
end

theorem PE.mono {X : Cx} {e : Expr} {t t' : TE} (h : PE X e t) (k : ∀ σ H Q, t' σ H Q → t σ H Q) : PE X e t' := fun pins s σ H Q I q => h pins s σ H Q I (k σ H Q q)
theorem PT.mono {X : Cx} {e : Expr} {t t' : TT} (h : PT X e t) (k : ∀ σ H Q, t' σ H Q → t σ H Q) : PT X e t' := fun pins s σ H Q I q => h pins s σ H Q I (k σ H Q q)
theorem PW.mono {X : Cx} {e : Expr} {t t' : TT} (h : PW X e t) (k : ∀ σ H Q, t' σ H Q → t σ H Q) : PW X e t' := fun wh pins s σ H Q I q => h wh pins s σ H Q I (k σ H Q q)
theorem PA.mono {X : Cx} {e : List Expr} {t t' : TA} (h : PA X e t) (k : ∀ σ H Q, t' σ H Q → t σ H Q) : PA X e t' := fun pos pins s σ H Q I q => h pos pins s σ H Q I (k σ H Q q)
theorem PS.mono {X : Cx} {e : Stmt} {t t' : TS} (h : PS X e t) (k : ∀ D σ H, t' D σ H → t D σ H) : PS X e t' := fun pins s σ H D I q => h pins s σ H D I (k D σ H q)
theorem PSs.mono {X : Cx} {e : List Stmt} {t t' : TS} (h : PSs X e t) (k : ∀ D σ H, t' D σ H → t D σ H) : PSs X e t' := fun pins s σ H D I q => h pins s σ H D I (k D σ H q)

/-- an expression is worth w where the names are worth ρ -/
def DE (X : Cx) (e : Expr) (ρ : Rho) (w : W) : Prop := ∀ H0 Fc, PE X e (tD X.K H0 Fc ρ w)
def DF (X : Cx) (e : Expr) (ρ : Rho) (d : D) : Prop := ∀ H0 Fc, PE X e (tDf X.K H0 Fc ρ d)
def DA (X : Cx) (es : List Expr) (ρ : Rho) (ds : List D) : Prop := ∀ H0 Fc, PA X es (tDA X.K H0 Fc ρ ds)
def DT (X : Cx) (e : Expr) (ρ : Rho) (b : Bool) : Prop := ∀ H0 Fc, PT X e (tDT X.K H0 Fc ρ b)
def DW (X : Cx) (e : Expr) (ρ : Rho) (b : Bool) : Prop := ∀ H0 Fc, PW X e (tDT X.K H0 Fc ρ b)

section
variable {X : Cx} {e a b c : Expr} {es : List Expr} {ρ : Rho} {w : W} {pos : Pos}
theorem DE.df (h : DE X e ρ w) : DF X e ρ w.d := fun H0 Fc => PE.mono (h H0 Fc) fun σ H Q ⟨F, R, k⟩ =>
  ⟨F, R, fun v H' F' s R' q => by
    obtain ⟨F2, s2, R2, q2⟩ := RW.freeze R' q
    exact k v H' F2 (s.trans s2) R2 q2⟩
theorem DF.de {d : D} (h : DF X e ρ d) : DE X e ρ (.val d) := fun H0 Fc => PE.mono (h H0 Fc) fun σ H Q ⟨F, R, k⟩ => ⟨F, R, fun v H' F' s R' q => k v H' F' s R' q⟩

/-! ### names, constants -/
theorem DF.var {i : Nat} {x : Str} {d : D} (hN : X.N[i]? = some x) (hv : Vis X.env.scope x) (hd : (x == ("__debug__" : Str)) = false) (hcd : (x == ("__classdict__" : Str)) = false) (hr : ρ[i]? = some (some d)) : DF X (.Name x pos) ρ d := fun H0 Fc =>
  PE.mono (pe_var hN hv hd hcd) fun σ H Q ⟨F, R, k⟩ => by
    obtain ⟨v, h1, h2⟩ := R.env i d hr
    exact ⟨v, h1, k v H F (Same.refl _) R h2⟩
theorem DF.cint {i : Int} {j} : DF X (.Constant (.int i) j pos) ρ (.int i) := fun H0 Fc => PE.mono pe_int fun σ H Q ⟨F, R, k⟩ => k _ H F (Same.refl _) R Den.int_mk
theorem DF.cbl {i : Bool} {j} : DF X (.Constant (.bool i) j pos) ρ (.bl i) := fun H0 Fc => PE.mono pe_bl fun σ H Q ⟨F, R, k⟩ => k _ H F (Same.refl _) R Den.bl_mk
theorem DF.cnon {j} : DF X (.Constant .none j pos) ρ .non := fun H0 Fc => PE.mono pe_non fun σ H Q ⟨F, R, k⟩ => k _ H F (Same.refl _) R Den.non_mk

/-! ### operations on two data -/
/-- an operation whose value is a plain datum without a place -/
theorem bin_mono {x y : D} {H0 Fc : Hp} {r : R2} {w : W} {K : PySem.W.Frag}
    (hr : ∀ H F σ v u (Q : VK), ER K H0 Fc F H σ ρ → Den K F x v → Den K F y u → (∀ v' H' F', Same F F' → ER K H0 Fc F' H' σ ρ → RW K H0 F' H' w v' → Q v' H') → r v u H Q) :
    ∀ σ H Q, tD K H0 Fc ρ w σ H Q → tOp r (tDf K H0 Fc ρ x) (tDf K H0 Fc ρ y) σ H Q := fun σ H Q ⟨F, R, k⟩ =>
  ⟨F, R, fun v H1 F1 s1 R1 q1 => ⟨F1, R1, fun u H2 F2 s2 R2 q2 => hr H2 F2 σ v u Q R2 (q1.mono s2) q2 fun v' H' F' s' R' q' => k v' H' F' ((s1.trans s2).trans s') R' q'⟩⟩
/-- ints in, an int (or bool) out -/
theorem DE.opI {op : Operator} {C : Int → Int → Prop} {g : Int → Int → V} {x y : Int} {z : D} (ho : OpR X (binaryOp op) (rI C g)) (ha : DF X a ρ (.int x)) (hb : DF X b ρ (.int y)) (hc : C x y) (hz : ∀ K F, Den K F z (g x y)) :
    DE X (.BinOp a op b pos) ρ (.val z) := fun H0 Fc => PE.mono (pe_op ho (ha H0 Fc) (hb H0 Fc)) (bin_mono fun H F σ v u Q R qv qu k => by
      have e1 := qv.int; have e2 := qu.int
      subst e1; subst e2
      exact ⟨x, y, rfl, rfl, hc, k _ H F (Same.refl _) R (hz _ _)⟩)
theorem DE.opI0 {op : Operator} {g : Int → Int → V} {x y : Int} {z : D} (ho : OpR X (binaryOp op) (rI0 g)) (ha : DF X a ρ (.int x)) (hb : DF X b ρ (.int y)) (hz : ∀ K F, Den K F z (g x y)) :
    DE X (.BinOp a op b pos) ρ (.val z) := fun H0 Fc => PE.mono (pe_op ho (ha H0 Fc) (hb H0 Fc)) (bin_mono fun H F σ v u Q R qv qu k => by
      have e1 := qv.int; have e2 := qu.int
      subst e1; subst e2
      exact ⟨x, y, rfl, rfl, k _ H F (Same.refl _) R (hz _ _)⟩)
theorem DE.cmpI0 {op : CmpOp} {g : Int → Int → V} {x y : Int} {z : D} (ho : OpR X (compareOp op) (rI0 g)) (ha : DF X a ρ (.int x)) (hb : DF X b ρ (.int y)) (hm : behindInMarks op b = false) (hz : ∀ K F, Den K F z (g x y)) :
    DE X (.Compare a [op] [b] pos) ρ (.val z) := fun H0 Fc => PE.mono (pe_cmpR ho (ha H0 Fc) (hb H0 Fc) hm) (bin_mono fun H F σ v u Q R qv qu k => by
      have e1 := qv.int; have e2 := qu.int
      subst e1; subst e2
      exact ⟨x, y, rfl, rfl, k _ H F (Same.refl _) R (hz _ _)⟩)
end
end DL

set_option maxHeartbeats 4000000
namespace DL
open PySem L2 PyProof.Rows

section
variable {K : PySem.W.Frag} {H0 Fc F H : Hp} {σ : L2.St} {ρ : Rho}
/-- a fresh object is laid, not frozen -/
theorem ER.put (R : ER K H0 Fc F H σ ρ) {a : Addr} (o : HO) (hn : H a = none) : ER K H0 Fc F (upd H a o) σ ρ ∧ F a = none ∧ H0 a = none := by
  have hF : F a = none := by
    cases q : F a with
    | none => rfl
    | some u => rw [R.sub a u q] at hn; cases hn
  exact ⟨⟨R.sub.trans (same_upd hn), R.same.trans (same_upd hn), R.base, R.new, R.env⟩, hF, R.same.free hn⟩
end

section
variable {K : PySem.W.Frag} {H0 F H : Hp}
theorem RW.v {d : D} {v : V} (h : Den K F d v) : RW K H0 F H (.val d) v := h
theorem RW.int {i : Int} : RW K H0 F H (.val (.int i)) (.int i) := RW.v Den.int_mk
theorem RW.bl {i : Bool} : RW K H0 F H (.val (.bl i)) (.bl i) := RW.v Den.bl_mk
theorem RW.n {l : List D} {a : Addr} {xs : List V} (h1 : F a = none) (h2 : H0 a = none) (h3 : H a = some (.lst xs)) (h4 : DenL K F l xs) : RW K H0 F H (.new l) (.ref a) := ⟨a, xs, rfl, h1, h2, h3, h4⟩
end

section
variable {X : Cx} {e a b c : Expr} {es : List Expr} {ρ : Rho} {w : W} {pos : Pos}
theorem DF.congr {d d' : D} (h : DF X e ρ d) (q : d = d') : DF X e ρ d' := q ▸ h

/-! ### one operand -/
theorem un_mono {x : D} {H0 Fc : Hp} {r : V → Hp → VK → Prop} {w : W} {K : PySem.W.Frag}
    (hr : ∀ H F σ v (Q : VK), ER K H0 Fc F H σ ρ → Den K F x v → (∀ v' H' F', Same F F' → ER K H0 Fc F' H' σ ρ → RW K H0 F' H' w v' → Q v' H') → r v H Q) :
    ∀ σ H Q, tD K H0 Fc ρ w σ H Q → tUn r (tDf K H0 Fc ρ x) σ H Q := fun σ H Q ⟨F, R, k⟩ =>
  ⟨F, R, fun v H1 F1 s1 R1 q1 => hr H1 F1 σ v Q R1 q1 fun v' H' F' s' R' q' => k v' H' F' (s1.trans s') R' q'⟩
theorem DE.neg {x : Int} (ha : DF X a ρ (.int x)) : DE X (.UnaryOp .USub a pos) ρ (.val (.int (-x))) := fun H0 Fc => PE.mono (pe_un un_neg (ha H0 Fc)) (un_mono fun H F σ v Q R qv k => by
  have e1 := qv.int
  subst e1
  exact ⟨x, rfl, k _ H F (Same.refl _) R RW.int⟩)

/-! ### argument lists -/
def notStar : Expr → Bool
  | .Starred _ _ => false
  | _ => true
theorem star_cons {env : Env} (h : notStar e = true) : starEach (e :: es) env = (false, eval e env) :: starEach es env := by
  cases e <;> first | rfl | (cases h; done)
theorem star_none {env : Env} : ∀ {es : List Expr}, es.all notStar = true → (backTo pos (starEach es env)).any (·.1) = false
  | [], _ => rfl
  | e :: es, h => by
    rw [List.all_cons, Bool.and_eq_true] at h
    rw [star_cons h.1]
    show (false || (backTo pos (starEach es env)).any (·.1)) = false
    rw [star_none h.2]; rfl
theorem DA.nil : DA X [] ρ [] := fun H0 Fc => PA.mono pa_nil fun σ H Q ⟨F, R, k⟩ => k [] H F (Same.refl _) R DenL.nil
theorem DA.cons {d : D} {ds : List D} (ha : DF X e ρ d) (hr : DA X es ρ ds) (hs : notStar e = true) : DA X (e :: es) ρ (d :: ds) := fun H0 Fc =>
  PA.mono (pa_cons (ha H0 Fc) (hr H0 Fc) (star_cons hs)) fun σ H Q ⟨F, R, k⟩ =>
    ⟨F, R, fun v H1 F1 s1 R1 q1 => ⟨F1, R1, fun vs H2 F2 s2 R2 q2 => k (v :: vs) H2 F2 (s1.trans s2) R2 (DenL.cons (q1.mono s2) q2)⟩⟩

/-! ### displays -/
theorem DE.tup {ds : List D} {x1} (ha : DA X es ρ ds) (hl : ds.length ≤ sizeLine) : DE X (.Tuple es x1 pos) ρ (.val (.tup ds)) := fun H0 Fc => PE.mono (pe_tup (ha H0 Fc)) fun σ H Q ⟨F, R, k⟩ =>
  ⟨F, R, fun vs H1 F1 s1 R1 q1 => ⟨by rw [q1.length]; exact hl, fun p hp => by
    obtain ⟨R2, s2⟩ := R1.lay (.tup vs) hp
    exact k _ _ _ (s1.trans s2) R2 (RW.v (Den.tup_mk (SqT.of upd_same) (q1.mono s2)))⟩⟩
theorem DE.lst {ds : List D} (ha : DA X es ρ ds) (hl : ds.length ≤ sizeLine) : DE X (.List es pos) ρ (.new ds) := fun H0 Fc => PE.mono (pe_lst (ha H0 Fc)) fun σ H Q ⟨F, R, k⟩ =>
  ⟨F, R, fun vs H1 F1 s1 R1 q1 => ⟨by rw [q1.length]; exact hl, fun p hp => by
    obtain ⟨R2, hF, h0⟩ := R1.put (.lst vs) hp
    exact k _ _ _ s1 R2 (RW.n hF h0 upd_same q1)⟩⟩

/-! ### subscripts -/
def notSlice : Expr → Bool
  | .Slice _ _ _ _ => false
  | _ => true
theorem plainIx (h : notSlice b = true) : PlainIx b := fun o i => by
  cases b <;> first | rfl | (cases h; done)
theorem atI_den {K : PySem.W.Frag} {F : Hp} {l : List D} {xs : List V} {i : Int} {d : D} (h : DenL K F l xs) (e : atI l i = some d) : ∃ v, atI xs i = some v ∧ Den K F d v := by
  unfold atI at e ⊢
  rw [h.length]
  cases q : ixN l.length i with
  | none => rw [q] at e; cases e
  | some j =>
    rw [q] at e
    exact h.get e
theorem DE.ixT {l : List D} {i : Int} {d : D} (ha : DF X a ρ (.tup l)) (hb : DF X b ρ (.int i)) (hs : notSlice b = true) (hi : atI l i = some d) : DE X (.Subscript a b pos) ρ (.val d) := fun H0 Fc =>
  PE.mono (pe_ix ix_tup (ha H0 Fc) (hb H0 Fc) (plainIx hs)) (bin_mono fun H F σ v u Q R qv qu k => by
    obtain ⟨p, xs, e1, sq, r⟩ := qv.tup
    have e2 := qu.int
    subst e1; subst e2
    obtain ⟨y, h1, h2⟩ := atI_den r hi
    exact ⟨p, xs, i, y, rfl, rfl, Same.tup R.sub sq, h1, k _ H F (Same.refl _) R (RW.v h2)⟩)
theorem DE.ixL {l : List D} {i : Int} {d : D} (ha : DF X a ρ (.lst l)) (hb : DF X b ρ (.int i)) (hs : notSlice b = true) (hi : atI l i = some d) : DE X (.Subscript a b pos) ρ (.val d) := fun H0 Fc =>
  PE.mono (pe_ix ix_list (ha H0 Fc) (hb H0 Fc) (plainIx hs)) (bin_mono fun H F σ v u Q R qv qu k => by
    obtain ⟨p, xs, e1, sq, r⟩ := qv.lst
    have e2 := qu.int
    subst e1; subst e2
    obtain ⟨y, h1, h2⟩ := atI_den r hi
    exact ⟨p, xs, i, y, rfl, rfl, R.sub.seq sq, h1, k _ H F (Same.refl _) R (RW.v h2)⟩)

/-! ### slices -/
def DO (X : Cx) (e : Option Expr) (ρ : Rho) (o : Option Int) : Prop := ∀ H0 Fc, PO X e (fun σ H Q => ∃ F, ER X.K H0 Fc F H σ ρ ∧ ∀ H' F', Same F F' → ER X.K H0 Fc F' H' σ ρ → Q o H')
theorem DO.none : DO X none ρ none := fun H0 Fc pins s σ H Q I ⟨F, R, k⟩ => po_none pins s σ H Q I (k H F (Same.refl _) R)
theorem DO.some {i : Int} (h : DF X e ρ (.int i)) : DO X (some e) ρ (some i) := fun H0 Fc pins s σ H Q I ⟨F, R, k⟩ => po_some (h H0 Fc) pins s σ H Q I
  ⟨F, R, fun v H' F' s' R' q' => ⟨i, q'.int, k H' F' s' R'⟩⟩
def cutD (l : List D) (lo hi : Option Int) : List D := (l.drop (HT.sIx l.length 0 lo)).take (HT.sIx l.length l.length hi - HT.sIx l.length 0 lo)
theorem cutD_den {K : PySem.W.Frag} {F : Hp} {l : List D} {xs : List V} {lo hi : Option Int} (h : DenL K F l xs) : DenL K F (cutD l lo hi) (cutV xs lo hi) := by
  unfold cutD cutV
  rw [h.length]
  exact (h.drop _).take _
theorem DE.slL {l : List D} {lo hi : Option Expr} {i j : Option Int} {p2 : Pos} (ha : DF X a ρ (.lst l)) (hl : DO X lo ρ i) (hh : DO X hi ρ j) : DE X (.Subscript a (.Slice lo hi none p2) pos) ρ (.new (cutD l i j)) := fun H0 Fc =>
  PE.mono (pe_slice sl_list (ha H0 Fc) (hl H0 Fc) (hh H0 Fc)) fun σ H Q ⟨F, R, k⟩ => ⟨F, R, fun v H1 F1 s1 R1 q1 => ⟨F1, R1, fun H2 F2 s2 R2 => ⟨F2, R2, fun H3 F3 s3 R3 => by
    obtain ⟨p, xs, e1, sq, r⟩ := q1.lst
    subst e1
    refine ⟨p, xs, rfl, R3.sub.seq (s3.seq (s2.seq sq)), fun q hq => ?_⟩
    obtain ⟨R4, hF, h0⟩ := R3.put (.lst (cutV xs i j)) hq
    exact k _ _ _ (s1.trans (s2.trans s3)) R4 (RW.n hF h0 upd_same (cutD_den ((r.mono s2).mono s3)))⟩⟩⟩

/-! ### defs -/
/-- a def's promise over plain data -/
def spD (K : PySem.W.Frag) (n : Nat) (φ : List D → Option W) : Sp := fun vs H Q _ => ∃ F ds w, Same F H ∧ DenL K F ds vs ∧ ds.length = n ∧ φ ds = some w ∧
  ∀ v H' F', Same H H' → Same F F' → Same F' H' → (∀ a o, F' a = some o → F a = some o ∨ H a = none) → RW K H F' H' w v → Q v H'
/-- what stands behind a global name that is a def -/
def Callee (X : Cx) (x : Str) (n : Nat) (φ : List D → Option W) : Prop := ∃ (k : Nat) (f : Addr) (fd : FuncData) (ps : List Str),
  FnOk X.prog X.w X.K X.mg X.base CX0 k f fd ps (spD X.K n φ) ∧ Room k X.A ∧ X.mg x = some (.ref f) ∧ PySem.W.keepIn X.K (.ref f) = true ∧ Binds X.K fd ps []
theorem ER.called {K : PySem.W.Frag} {H0 Fc F H F' H' : Hp} {σ : L2.St} {ρ : Rho} (R : ER K H0 Fc F H σ ρ) (s1 : Same H H') (s2 : Same F F') (s3 : Same F' H') (hn : ∀ a o, F' a = some o → F a = some o ∨ H a = none) : ER K H0 Fc F' H' σ ρ :=
  ⟨s3, R.same.trans s1, R.base.trans s2, fun a o e => (hn a o e).elim (R.new a o) fun z => .inr (R.same.free z), fun i d e => by
    obtain ⟨v, h1, h2⟩ := R.env i d e
    exact ⟨v, h1, h2.mono s2⟩⟩
theorem DE.call {x : Str} {p : Pos} {n : Nat} {φ : List D → Option W} {ds : List D} (hc : Callee X x n φ) (hg : Gl X x) (hdb : (x == ("__debug__" : Str)) = false) (ha : DA X (e :: es) ρ ds) (hn : ds.length = n) (hw : φ ds = some w) (hs : notStar e = true) (hss : es.all notStar = true) :
    DE X (.Call (.Name x p) (e :: es) [] pos) ρ w := fun H0 Fc => by
  obtain ⟨k, f, fd, ps, G, hr, hm, hk, hb⟩ := hc
  refine PE.mono (pe_call (E := E0) G hr hg hm hk hb .nil pass0 (ha H0 Fc) hdb (star_cons hs) (star_none hss)) fun σ H Q ⟨F, R, k⟩ => ⟨F, R, fun vs H1 F1 s1 R1 q1 => ?_⟩
  refine ⟨F1, ds, w, R1.sub, by rw [List.append_nil]; exact q1, hn, hw, fun v H' F' a1 a2 a3 a4 a5 => k v H' F' (s1.trans a2) (R1.called a1 a2 a3 a4) ?_⟩
  cases w with
  | val d => exact a5
  | new l =>
    obtain ⟨a, xs, e1, b1, b2, b3, b4⟩ := a5
    exact ⟨a, xs, e1, b1, R1.same.free b2, b3, b4⟩

/-! ### tests -/
theorem DT.val {e : Expr} {k : Bool} (h : DF X e ρ (.bl k)) (he : ∀ whole, isTrue e X.env whole = (do let v ← whole; standAt e.pos; holding [v] (truthy v))) : DT X e ρ k := fun H0 Fc =>
  PT.mono (pt_val (h H0 Fc) he) fun σ H Q ⟨F, R, q⟩ => ⟨F, R, fun v H1 F1 s1 R1 q1 => ⟨k, q1.bl, q H1 F1 s1 R1⟩⟩
theorem DT.not {k : Bool} (h : DT X a ρ k) : DT X (.UnaryOp .Not a pos) ρ (!k) := fun H0 Fc => PT.mono (pt_not (h H0 Fc)) fun σ H Q ⟨F, R, q⟩ => ⟨F, R, fun H1 F1 s1 R1 => q H1 F1 s1 R1⟩
theorem DW.dt {k : Bool} (h : DW X e ρ k) : DT X e ρ k := fun H0 Fc => (h H0 Fc).pt
theorem DW.and1 {k : Bool} (h : DT X a ρ k) : DW X (.BoolOp .And [a] pos) ρ k := fun H0 Fc => pw_and1 (h H0 Fc)
theorem DW.or1 {k : Bool} (h : DT X a ρ k) : DW X (.BoolOp .Or [a] pos) ρ k := fun H0 Fc => pw_or1 (h H0 Fc)
theorem DW.andT {k : Bool} (h : DT X a ρ true) (h2 : DW X (.BoolOp .And (b :: es) pos) ρ k) : DW X (.BoolOp .And (a :: b :: es) pos) ρ k := fun H0 Fc => PW.mono (pw_and (h H0 Fc) (h2 H0 Fc)) fun σ H Q ⟨F, R, q⟩ =>
  ⟨F, R, fun H1 F1 s1 R1 => iteT (⟨F1, R1, fun H2 F2 s2 R2 => q H2 F2 (s1.trans s2) R2⟩)⟩
theorem DW.andF {tb} (h : DT X a ρ false) (h2 : PW X (.BoolOp .And (b :: es) pos) tb) : DW X (.BoolOp .And (a :: b :: es) pos) ρ false := fun H0 Fc => PW.mono (pw_and (h H0 Fc) h2) fun σ H Q ⟨F, R, q⟩ =>
  ⟨F, R, fun H1 F1 s1 R1 => iteF (q H1 F1 s1 R1)⟩
theorem DW.orF {k : Bool} (h : DT X a ρ false) (h2 : DW X (.BoolOp .Or (b :: es) pos) ρ k) : DW X (.BoolOp .Or (a :: b :: es) pos) ρ k := fun H0 Fc => PW.mono (pw_or (h H0 Fc) (h2 H0 Fc)) fun σ H Q ⟨F, R, q⟩ =>
  ⟨F, R, fun H1 F1 s1 R1 => iteF (⟨F1, R1, fun H2 F2 s2 R2 => q H2 F2 (s1.trans s2) R2⟩)⟩
theorem DW.orT {tb} (h : DT X a ρ true) (h2 : PW X (.BoolOp .Or (b :: es) pos) tb) : DW X (.BoolOp .Or (a :: b :: es) pos) ρ true := fun H0 Fc => PW.mono (pw_or (h H0 Fc) h2) fun σ H Q ⟨F, R, q⟩ =>
  ⟨F, R, fun H1 F1 s1 R1 => iteT (q H1 F1 s1 R1)⟩
theorem pw_never : PW X e (fun _ _ _ => False) := fun _ _ _ _ _ _ _ h => h.elim
theorem pe_never : PE X e (fun _ _ _ => False) := fun _ _ _ _ _ _ h => h.elim
/-- .. as values -/
theorem DE.not {k : Bool} (h : DF X a ρ (.bl k)) : DE X (.UnaryOp .Not a pos) ρ (.val (.bl (!k))) := fun H0 Fc => PE.mono (pe_not (h H0 Fc)) fun σ H Q ⟨F, R, q⟩ =>
  ⟨F, R, fun v H1 F1 s1 R1 q1 => ⟨k, q1.bl, q _ H1 F1 s1 R1 RW.bl⟩⟩
theorem DE.one {op} (h : DE X a ρ w) : DE X (.BoolOp op [a] pos) ρ w := fun H0 Fc => pe_one (h H0 Fc)
theorem DE.andT (h : DF X a ρ (.bl true)) (h2 : DE X (.BoolOp .And (b :: es) pos) ρ w) : DE X (.BoolOp .And (a :: b :: es) pos) ρ w := fun H0 Fc => PE.mono (pe_and (h H0 Fc) (h2 H0 Fc)) fun σ H Q ⟨F, R, q⟩ =>
  ⟨F, R, fun v H1 F1 s1 R1 q1 => ⟨true, q1.bl, iteT (⟨F1, R1, fun v H2 F2 s2 R2 q2 => q v H2 F2 (s1.trans s2) R2 q2⟩)⟩⟩
theorem DE.andF (h : DF X a ρ (.bl false)) : DE X (.BoolOp .And (a :: b :: es) pos) ρ (.val (.bl false)) := fun H0 Fc => PE.mono (pe_and (h H0 Fc) pe_never) fun σ H Q ⟨F, R, q⟩ =>
  ⟨F, R, fun v H1 F1 s1 R1 q1 => ⟨false, q1.bl, iteF (q _ H1 F1 s1 R1 RW.bl)⟩⟩
theorem DE.orF (h : DF X a ρ (.bl false)) (h2 : DE X (.BoolOp .Or (b :: es) pos) ρ w) : DE X (.BoolOp .Or (a :: b :: es) pos) ρ w := fun H0 Fc => PE.mono (pe_or (h H0 Fc) (h2 H0 Fc)) fun σ H Q ⟨F, R, q⟩ =>
  ⟨F, R, fun v H1 F1 s1 R1 q1 => ⟨false, q1.bl, iteF (⟨F1, R1, fun v H2 F2 s2 R2 q2 => q v H2 F2 (s1.trans s2) R2 q2⟩)⟩⟩
theorem DE.orT (h : DF X a ρ (.bl true)) : DE X (.BoolOp .Or (a :: b :: es) pos) ρ (.val (.bl true)) := fun H0 Fc => PE.mono (pe_or (h H0 Fc) pe_never) fun σ H Q ⟨F, R, q⟩ =>
  ⟨F, R, fun v H1 F1 s1 R1 q1 => ⟨true, q1.bl, iteT (q _ H1 F1 s1 R1 RW.bl)⟩⟩
theorem DE.ifT {c : Expr} (hc : DT X c ρ true) (ha : DE X a ρ w) : DE X (.IfExp c a b pos) ρ w := fun H0 Fc => PE.mono (pe_ifExp (hc H0 Fc) (ha H0 Fc) pe_never) fun σ H Q ⟨F, R, q⟩ =>
  ⟨F, R, fun H1 F1 s1 R1 => iteT (⟨F1, R1, fun v H2 F2 s2 R2 q2 => q v H2 F2 (s1.trans s2) R2 q2⟩)⟩
theorem DE.ifF {c : Expr} (hc : DT X c ρ false) (ha : DE X b ρ w) : DE X (.IfExp c a b pos) ρ w := fun H0 Fc => PE.mono (pe_ifExp (hc H0 Fc) pe_never (ha H0 Fc)) fun σ H Q ⟨F, R, q⟩ =>
  ⟨F, R, fun H1 F1 s1 R1 => iteF (⟨F1, R1, fun v H2 F2 s2 R2 q2 => q v H2 F2 (s1.trans s2) R2 q2⟩)⟩

/-! ### comparisons -/
/-- a comparison of two data comes to k -/
def CmpOk (X : Cx) (op : CmpOp) (x y : D) (k : Bool) : Prop := ∃ r, OpR X (compareOp op) r ∧
  ∀ (H F : Hp) (v u : V) (Q : VK), Same F H → Den X.K F x v → Den X.K F y u → Q (.bl k) H → r v u H Q
theorem DE.cmp {op : CmpOp} {x y : D} {k : Bool} (hc : CmpOk X op x y k) (ha : DF X a ρ x) (hb : DF X b ρ y) (hm : behindInMarks op b = false) : DE X (.Compare a [op] [b] pos) ρ (.val (.bl k)) := fun H0 Fc => by
  obtain ⟨r, ho, hr⟩ := hc
  exact PE.mono (pe_cmpR ho (ha H0 Fc) (hb H0 Fc) hm) (bin_mono fun H F σ v u Q R qv qu q => hr H F v u Q R.sub qv qu (q _ H F (Same.refl _) R RW.bl))
theorem DT.cmp {op : CmpOp} {x y : D} {k : Bool} (hc : CmpOk X op x y k) (ha : DF X a ρ x) (hb : DF X b ρ y) (hm : behindInMarks op b = false) : DT X (.Compare a [op] [b] pos) ρ k := fun H0 Fc => by
  obtain ⟨r, ho, hr⟩ := hc
  refine PT.mono (pt_cmpR ho (ha H0 Fc) (hb H0 Fc) hm) fun σ H Q ⟨F, R, q⟩ => ⟨F, R, fun v H1 F1 s1 R1 q1 => ⟨F1, R1, fun u H2 F2 s2 R2 q2 => ?_⟩⟩
  exact hr H2 F2 v u _ R2.sub (q1.mono s2) q2 ⟨k, rfl, q H2 F2 (s1.trans s2) R2⟩
theorem cmpI {op : CmpOp} {g : Int → Int → Bool} {x y : Int} (ho : OpR X (compareOp op) (rI0 fun i j => .bl (g i j))) : CmpOk X op (.int x) (.int y) (g x y) :=
  ⟨_, ho, fun H F v u Q s qv qu q => ⟨x, y, qv.int, qu.int, q⟩⟩
theorem cmp_lt {x y : Int} : CmpOk X .Lt (.int x) (.int y) (decide (x < y)) := cmpI op_lt
theorem cmp_le {x y : Int} : CmpOk X .LtE (.int x) (.int y) (decide (x ≤ y)) := cmpI op_le
theorem cmp_gt {x y : Int} : CmpOk X .Gt (.int x) (.int y) (decide (y < x)) := cmpI op_gt
theorem cmp_ge {x y : Int} : CmpOk X .GtE (.int x) (.int y) (decide (y ≤ x)) := cmpI op_ge
theorem cmp_eqI {x y : Int} : CmpOk X .Eq (.int x) (.int y) (decide (x = y)) := ⟨_, op_eq, fun H F v u Q s qv qu q => by
  have e1 := qv.int; have e2 := qu.int
  subst e1; subst e2
  exact ⟨rfl, by rw [dec_int, Bool.beq_eq_decide_eq]; exact q⟩⟩
theorem cmp_neI {x y : Int} : CmpOk X .NotEq (.int x) (.int y) (!decide (x = y)) := ⟨_, op_ne, fun H F v u Q s qv qu q => by
  have e1 := qv.int; have e2 := qu.int
  subst e1; subst e2
  exact ⟨rfl, by rw [dec_int, Bool.beq_eq_decide_eq]; exact q⟩⟩
theorem cmp_eqB {x y : Bool} : CmpOk X .Eq (.bl x) (.bl y) (x == y) := ⟨_, op_eq, fun H F v u Q s qv qu q => by
  have e1 := qv.bl; have e2 := qu.bl
  subst e1; subst e2
  exact ⟨rfl, by rw [dec_bl]; exact q⟩⟩
theorem cmp_neB {x y : Bool} : CmpOk X .NotEq (.bl x) (.bl y) (!(x == y)) := ⟨_, op_ne, fun H F v u Q s qv qu q => by
  have e1 := qv.bl; have e2 := qu.bl
  subst e1; subst e2
  exact ⟨rfl, by rw [dec_bl]; exact q⟩⟩
def isNon : D → Bool
  | .non => true
  | _ => false
theorem isNon_den {K : PySem.W.Frag} {F : Hp} {d : D} {v : V} (h : Den K F d v) : decide (v = V.non) = isNon d := by
  cases d with
  | non => rw [h.non]; rfl
  | bl b => rw [h.bl]; rfl
  | int i => rw [h.int]; rfl
  | tup l => obtain ⟨a, xs, e, _⟩ := h.tup; rw [e]; rfl
  | lst l => obtain ⟨a, xs, e, _⟩ := h.lst; rw [e]; rfl
  | exc x => obtain ⟨a, C, e, _⟩ := h.exc; rw [e]; rfl
theorem cmp_isN {x : D} : CmpOk X .Is x .non (isNon x) := ⟨_, op_isN, fun H F v u Q s qv qu q => ⟨qu.non, by rw [isNon_den qv]; exact q⟩⟩
theorem cmp_notN {x : D} : CmpOk X .IsNot x .non (!isNon x) := ⟨_, op_notN, fun H F v u Q s qv qu q => ⟨qu.non, by rw [isNon_den qv]; exact q⟩⟩

/-! ### builtins -/
/-- a builtin called with data -/
def BltOk (X : Cx) (f : Value) (ds : List D) (w : W) : Prop := ∃ r, CallR X f r ∧
  ∀ (H0 Fc H F : Hp) (σ : L2.St) (ρ : Rho) (vs : List V) (Q : VK), ER X.K H0 Fc F H σ ρ → DenL X.K F ds vs → (∀ v' H' F', Same F F' → ER X.K H0 Fc F' H' σ ρ → RW X.K H0 F' H' w v' → Q v' H') → r vs H Q
theorem DE.blt {x : Str} {id : String} {p : Pos} {ds : List D} (hc : BltOk X (.builtin id) ds w) (hg : Gl X x) (hm : X.mg x = none) (hv : bootBuiltins x = some (.builtin id)) (hn : x ≠ "__name__") (hdb : (x == ("__debug__" : Str)) = false) (ha : DA X (e :: es) ρ ds) (hs : notStar e = true) (hss : es.all notStar = true) :
    DE X (.Call (.Name x p) (e :: es) [] pos) ρ w := fun H0 Fc => by
  obtain ⟨r, hr, hq⟩ := hc
  refine PE.mono (pe_callB hr hg hm hv (ha H0 Fc) hn hdb (star_cons hs) (star_none hss)) fun σ H Q ⟨F, R, k⟩ => ⟨F, R, fun vs H1 F1 s1 R1 q1 => ?_⟩
  exact hq H0 Fc H1 F1 σ ρ vs Q R1 q1 fun v' H' F' s' R' q' => k v' H' F' (s1.trans s') R' q'
theorem DE.ty {x : Str} {id : String} {p : Pos} {ds : List D} (hc : BltOk X (.type id) ds w) (hg : Gl X x) (hm : X.mg x = none) (hv : bootBuiltins x = some (.type id)) (hn : x ≠ "__name__") (hdb : (x == ("__debug__" : Str)) = false) (ha : DA X (e :: es) ρ ds) (hs : notStar e = true) (hss : es.all notStar = true) :
    DE X (.Call (.Name x p) (e :: es) [] pos) ρ w := fun H0 Fc => by
  obtain ⟨r, hr, hq⟩ := hc
  refine PE.mono (pe_callTy hr hg hm hv (ha H0 Fc) hn hdb (star_cons hs) (star_none hss)) fun σ H Q ⟨F, R, k⟩ => ⟨F, R, fun vs H1 F1 s1 R1 q1 => ?_⟩
  exact hq H0 Fc H1 F1 σ ρ vs Q R1 q1 fun v' H' F' s' R' q' => k v' H' F' (s1.trans s') R' q'
theorem DenL.one {K : PySem.W.Frag} {F : Hp} {d : D} {vs : List V} (h : DenL K F [d] vs) : ∃ v, vs = [v] ∧ Den K F d v := by
  obtain ⟨v, r, e, q, z⟩ := h.inv_cons
  rw [z.inv_nil] at e
  exact ⟨v, e, q⟩
theorem DenL.two {K : PySem.W.Frag} {F : Hp} {d d' : D} {vs : List V} (h : DenL K F [d, d'] vs) : ∃ v v', vs = [v, v'] ∧ Den K F d v ∧ Den K F d' v' := by
  obtain ⟨v, r, e, q, z⟩ := h.inv_cons
  obtain ⟨v', e', q'⟩ := z.one
  rw [e'] at e
  exact ⟨v, v', e, q, q'⟩
theorem blt_abs {i : Int} : BltOk X (.builtin "abs") [.int i] (.val (.int (if i < 0 then -i else i))) := ⟨_, call_abs, fun H0 Fc H F σ ρ vs Q R q k => by
  obtain ⟨v, e, q⟩ := q.one
  rw [q.int] at e
  exact ⟨i, e, k _ H F (Same.refl _) R RW.int⟩⟩
theorem blt_lenL {l : List D} : BltOk X (.builtin "len") [.lst l] (.val (.int l.length)) := ⟨_, call_len_seq, fun H0 Fc H F σ ρ vs Q R q k => by
  obtain ⟨v, e, q⟩ := q.one
  obtain ⟨p, xs, e1, sq, r⟩ := q.lst
  rw [e1] at e
  exact ⟨p, xs, e, .inl (R.sub.seq sq), by rw [r.length]; exact k _ H F (Same.refl _) R RW.int⟩⟩
theorem blt_lenT {l : List D} : BltOk X (.builtin "len") [.tup l] (.val (.int l.length)) := ⟨_, call_len_seq, fun H0 Fc H F σ ρ vs Q R q k => by
  obtain ⟨v, e, q⟩ := q.one
  obtain ⟨p, xs, e1, sq, r⟩ := q.tup
  rw [e1] at e
  exact ⟨p, xs, e, .inr (Same.tup R.sub sq), by rw [r.length]; exact k _ H F (Same.refl _) R RW.int⟩⟩
end
end DL

set_option maxHeartbeats 4000000
namespace DL
open PySem L2 PyProof.Rows

/-! ### no list within -/
mutual
def lf : D → Bool
  | .non => true
  | .bl _ => true
  | .int _ => true
  | .tup l => lfL l
  | .lst _ => false
  | .exc _ => false
def lfL : List D → Bool
  | [] => true
  | d :: l => lf d && lfL l
end
def lfW : W → Bool
  | .val d => lf d
  | .new l => lfL l
mutual
theorem Den.shrink {K : PySem.W.Frag} {F F' : Hp} (s : ∀ a xs, SqT K F a xs → SqT K F' a xs) : ∀ (d : D) {v : V}, lf d = true → Den K F d v → Den K F' d v
  | .non, _, _, h => by simpa only [Den] using h
  | .bl _, _, _, h => by simpa only [Den] using h
  | .int _, _, _, h => by simpa only [Den] using h
  | .tup l, _, f, h => by
    obtain ⟨a, xs, e, q, r⟩ := h.tup
    subst e
    exact Den.tup_mk (s _ _ q) (DenL.shrink s l (by simpa only [lf] using f) r)
  | .lst l, _, f, h => by simp only [lf] at f; cases f
  | .exc l, _, f, h => by simp only [lf] at f; cases f
theorem DenL.shrink {K : PySem.W.Frag} {F F' : Hp} (s : ∀ a xs, SqT K F a xs → SqT K F' a xs) : ∀ (l : List D) {xs : List V}, lfL l = true → DenL K F l xs → DenL K F' l xs
  | [], _, _, h => by simpa only [DenL] using h
  | d :: l, _, f, h => by
    simp only [lfL, Bool.and_eq_true] at f
    obtain ⟨v, vs, e, q, r⟩ := h.inv_cons
    subst e
    exact DenL.cons (Den.shrink s d f.1 q) (DenL.shrink s l f.2 r)
end

/-! ### names at statements: a datum, or a list of the frame's own -/
inductive B where
  | sh (d : D) | ow (l : List D)
def B.d : B → D
  | .sh d => d
  | .ow l => .lst l
def W.b : W → B
  | .val d => .sh d
  | .new l => .ow l
abbrev RhoS := List (Option B)
def view (ρ : RhoS) : Rho := ρ.map (Option.map B.d)
def frz (ρ : RhoS) : RhoS := ρ.map (Option.map fun b => .sh b.d)
theorem view_get {ρ : RhoS} {i : Nat} {d : D} (h : (view ρ)[i]? = some (some d)) : ∃ b, ρ[i]? = some (some b) ∧ b.d = d := by
  unfold view at h
  rw [List.getElem?_map] at h
  cases q : ρ[i]? with
  | none => rw [q] at h; cases h
  | some o =>
    rw [q] at h
    cases o with
    | none => cases h
    | some b => exact ⟨b, rfl, by simpa using h⟩
theorem frz_get {ρ : RhoS} {i : Nat} {b : B} (h : (frz ρ)[i]? = some (some b)) : ∃ c, ρ[i]? = some (some c) ∧ b = .sh c.d := by
  unfold frz at h
  rw [List.getElem?_map] at h
  cases q : ρ[i]? with
  | none => rw [q] at h; cases h
  | some o =>
    rw [q] at h
    cases o with
    | none => cases h
    | some c => exact ⟨c, rfl, by simpa using h.symm⟩

structure SR (K : PySem.W.Frag) (H0 Fc F H : Hp) (σ : L2.St) (ρ : RhoS) : Prop where
  sub : Same F H
  same : Same H0 H
  base : Same Fc F
  new : ∀ a o, F a = some o → Fc a = some o ∨ H0 a = none
  env : ∀ (i : Nat) d, ρ[i]? = some (some (.sh d)) → ∃ v, σ[i]? = some (some v) ∧ Den K F d v
  own : ∀ (i : Nat) l, ρ[i]? = some (some (.ow l)) → ∃ a xs, σ[i]? = some (some (.ref a)) ∧ F a = none ∧ H0 a = none ∧ H a = some (.lst xs) ∧ DenL K F l xs
  dis : ∀ (i j : Nat) l m a, ρ[i]? = some (some (.ow l)) → ρ[j]? = some (some (.ow m)) → σ[i]? = some (some (.ref a)) → σ[j]? = some (some (.ref a)) → i = j
  len : σ.length = ρ.length

/-- the addresses of the frame's own lists -/
def Owned (σ : L2.St) (ρ : RhoS) (a : Addr) : Prop := ∃ (i : Nat) (l : List D), ρ[i]? = some (some (.ow l)) ∧ σ[i]? = some (some (.ref a))

section
variable {K : PySem.W.Frag} {H0 Fc F H : Hp} {σ : L2.St} {ρ : RhoS}
theorem SR.owned_none (S : SR K H0 Fc F H σ ρ) {a : Addr} (h : Owned σ ρ a) : F a = none ∧ H0 a = none ∧ ∃ xs, H a = some (.lst xs) := by
  obtain ⟨i, l, h1, h2⟩ := h
  obtain ⟨b, xs, e, p, q, r, _⟩ := S.own i l h1
  rw [h2] at e
  cases e
  exact ⟨p, q, xs, r⟩
open Classical in
/-- within an expression the frame's own lists are read as frozen -/
noncomputable def borrow (F H : Hp) (σ : L2.St) (ρ : RhoS) : Hp := fun a => if Owned σ ρ a then H a else F a
open Classical in
theorem SR.borrow (S : SR K H0 Fc F H σ ρ) : Same F (borrow F H σ ρ) ∧ ER K H0 Fc (borrow F H σ ρ) H σ (view ρ) := by
  have s : Same F (DL.borrow F H σ ρ) := fun a o e => by
    unfold DL.borrow
    rw [if_neg (fun z => by rw [(S.owned_none z).1] at e; cases e)]
    exact e
  refine ⟨s, ⟨fun a o e => ?_, S.same, S.base.trans s, fun a o e => ?_, fun i d e => ?_⟩⟩
  · unfold DL.borrow at e
    by_cases hz : Owned σ ρ a
    · rw [if_pos hz] at e; exact e
    · rw [if_neg hz] at e; exact S.sub a o e
  · unfold DL.borrow at e
    by_cases hz : Owned σ ρ a
    · exact .inr (S.owned_none hz).2.1
    · rw [if_neg hz] at e; exact S.new a o e
  · obtain ⟨b, h1, h2⟩ := view_get e
    subst h2
    cases b with
    | sh d =>
      obtain ⟨v, p, q⟩ := S.env i d h1
      exact ⟨v, p, q.mono s⟩
    | ow l =>
      obtain ⟨a, xs, p, _, _, r, q⟩ := S.own i l h1
      refine ⟨_, p, Den.lst_mk (SqL.of ?_) (q.mono s)⟩
      unfold DL.borrow
      rw [if_pos ⟨i, l, h1, p⟩]
      exact r
open Classical in
/-- behind an expression whose value holds no list the frame's own lists are its own again -/
theorem SR.back (S : SR K H0 Fc F H σ ρ) {F2 H2 : Hp} {w : W} {v : V} (s : Same (DL.borrow F H σ ρ) F2) (R : ER K H0 Fc F2 H2 σ (view ρ)) (q : RW K H0 F2 H2 w v) (f : lfW w = true) :
    ∃ F3, Same F F3 ∧ SR K H0 Fc F3 H2 σ ρ ∧ RW K H0 F3 H2 w v := by
  have hown : ∀ {a}, Owned σ ρ a → ∃ xs, F2 a = some (.lst xs) := fun {a} z => by
    obtain ⟨_, _, xs, r⟩ := S.owned_none z
    exact ⟨xs, s a _ (by unfold DL.borrow; rw [if_pos z]; exact r)⟩
  have sF : Same F (fun a => if Owned σ ρ a then none else F2 a) := fun a o e => by
    have hz : ¬ Owned σ ρ a := fun z => by rw [(S.owned_none z).1] at e; cases e
    show (if Owned σ ρ a then none else F2 a) = some o
    rw [if_neg hz]
    exact s a o (S.borrow.1 a o e)
  have hsub : ∀ a o, (if Owned σ ρ a then none else F2 a) = some o → F2 a = some o := fun a o e => by
    by_cases hz : Owned σ ρ a
    · rw [if_pos hz] at e; cases e
    · rw [if_neg hz] at e; exact e
  have tups : ∀ a xs, SqT K F2 a xs → SqT K (fun a => if Owned σ ρ a then none else F2 a) a xs := fun a xs h => by
    rcases h with h | h
    · refine .inl ?_
      have hz : ¬ Owned σ ρ a := fun z => by
        obtain ⟨ys, e⟩ := hown z
        rcases h with h | ⟨o, h⟩
        · rw [e] at h; cases h
        · rw [e] at h; cases h
      rcases h with h | ⟨o, h⟩
      · exact .inl (by show (if Owned σ ρ a then none else F2 a) = _; rw [if_neg hz]; exact h)
      · exact .inr ⟨o, by show (if Owned σ ρ a then none else F2 a) = _; rw [if_neg hz]; exact h⟩
    · exact .inr h
  refine ⟨_, sF, ⟨fun a o e => R.sub a o (hsub a o e), R.same, S.base.trans sF, fun a o e => R.new a o (hsub a o e), fun i d e => ?_, fun i l e => ?_, S.dis, S.len⟩, ?_⟩
  · obtain ⟨v, p, q⟩ := S.env i d e
    exact ⟨v, p, q.mono sF⟩
  · obtain ⟨a, xs, p, p1, p2, p3, p4⟩ := S.own i l e
    have hz : Owned σ ρ a := ⟨i, l, e, p⟩
    refine ⟨a, xs, p, if_pos hz, p2, ?_, p4.mono sF⟩
    exact R.sub _ _ (s a _ (by unfold DL.borrow; rw [if_pos hz]; exact p3))
  · cases w with
    | val d => exact Den.shrink tups d f q
    | new l =>
      obtain ⟨a, xs, e, p1, p2, p3, p4⟩ := q
      subst e
      refine RW.n ?_ p2 p3 (DenL.shrink tups l f p4)
      by_cases hz : Owned σ ρ a
      · exact if_pos hz
      · exact (if_neg hz).trans p1
/-- .. or they are given up: frozen for good -/
theorem SR.freeze (S : SR K H0 Fc F H σ ρ) {F2 H2 : Hp} (s : Same (DL.borrow F H σ ρ) F2) (R : ER K H0 Fc F2 H2 σ (view ρ)) : Same F F2 ∧ SR K H0 Fc F2 H2 σ (frz ρ) := by
  refine ⟨S.borrow.1.trans s, R.sub, R.same, R.base, R.new, fun i d e => ?_, fun i l e => ?_, fun i j l m a e => ?_, ?_⟩
  · obtain ⟨c, h1, h2⟩ := frz_get e
    cases h2
    refine R.env i c.d ?_
    unfold view
    rw [List.getElem?_map, h1]; rfl
  · obtain ⟨c, h1, h2⟩ := frz_get e
    cases h2
  · obtain ⟨c, h1, h2⟩ := frz_get e
    cases h2
  · rw [S.len]; unfold frz; rw [List.length_map]
def after (w : W) (ρ : RhoS) : RhoS := if lfW w = true then ρ else frz ρ
theorem SR.after (S : SR K H0 Fc F H σ ρ) {F2 H2 : Hp} {w : W} {v : V} (s : Same (DL.borrow F H σ ρ) F2) (R : ER K H0 Fc F2 H2 σ (view ρ)) (q : RW K H0 F2 H2 w v) :
    ∃ F3, Same F F3 ∧ SR K H0 Fc F3 H2 σ (DL.after w ρ) ∧ RW K H0 F3 H2 w v := by
  unfold DL.after
  by_cases f : lfW w = true
  · rw [if_pos f]; exact S.back s R q f
  · rw [if_neg f]
    obtain ⟨a, b⟩ := S.freeze s R
    exact ⟨F2, a, b, q⟩
/-- a name is bound -/
theorem SR.bind (S : SR K H0 Fc F H σ ρ) {i : Nat} {w : W} {v : V} (q : RW K H0 F H w v) (hi : i < ρ.length) (hd : ∀ l, w = .new l → ∀ a, v = .ref a → ¬ Owned σ ρ a) : SR K H0 Fc F H (σ.set i (some v)) (ρ.set i (some w.b)) := by
  have hiσ : i < σ.length := by rw [S.len]; exact hi
  have gs : (σ.set i (some v))[i]? = some (some v) := by rw [List.getElem?_set_self hiσ]
  have gr : (ρ.set i (some w.b))[i]? = some (some w.b) := by rw [List.getElem?_set_self hi]
  have ns : ∀ {j}, j ≠ i → (σ.set i (some v))[j]? = σ[j]? := fun h => List.getElem?_set_ne (Ne.symm h)
  have nr : ∀ {j}, j ≠ i → (ρ.set i (some w.b))[j]? = ρ[j]? := fun h => List.getElem?_set_ne (Ne.symm h)
  refine ⟨S.sub, S.same, S.base, S.new, fun j d e => ?_, fun j l e => ?_, fun j k l m a e1 e2 e3 e4 => ?_, by rw [List.length_set, List.length_set]; exact S.len⟩
  · by_cases hj : j = i
    · subst hj
      rw [gr] at e
      refine ⟨v, gs, ?_⟩
      cases w with
      | val d' => cases e; exact q
      | new l => cases e
    · rw [nr hj] at e
      rw [ns hj]
      exact S.env j d e
  · by_cases hj : j = i
    · subst hj
      rw [gr] at e
      cases w with
      | val d' => cases e
      | new l' =>
        cases e
        obtain ⟨a, xs, e1, p1, p2, p3, p4⟩ := q
        subst e1
        exact ⟨a, xs, gs, p1, p2, p3, p4⟩
    · rw [nr hj] at e
      rw [ns hj]
      exact S.own j l e
  · by_cases hj : j = i
    · by_cases hk : k = i
      · rw [hj, hk]
      · subst hj
        rw [gr] at e1
        rw [gs] at e3
        rw [nr hk] at e2
        rw [ns hk] at e4
        cases w with
        | val d' => cases e1
        | new l' => cases e3; exact absurd ⟨k, m, e2, e4⟩ (hd l' rfl a rfl)
    · by_cases hk : k = i
      · subst hk
        rw [gr] at e2
        rw [gs] at e4
        rw [nr hj] at e1
        rw [ns hj] at e3
        cases w with
        | val d' => cases e2
        | new l' => cases e4; exact absurd ⟨j, l, e1, e3⟩ (hd l' rfl a rfl)
      · rw [nr hj] at e1
        rw [ns hj] at e3
        rw [nr hk] at e2
        rw [ns hk] at e4
        exact S.dis j k l m a e1 e2 e3 e4
/-- a fresh list is not one of the frame's own -/
theorem Owned.not_after (S : SR K H0 Fc F H σ ρ) {F2 H2 : Hp} {w : W} {v : V} (s : Same (DL.borrow F H σ ρ) F2) (q : RW K H0 F2 H2 w v) : ∀ l, w = .new l → ∀ a, v = .ref a → ¬ Owned σ (DL.after w ρ) a := fun l e a ev z => by
  subst e
  obtain ⟨b, xs, e1, p1, _⟩ := q
  rw [ev] at e1
  cases e1
  obtain ⟨i, m, h1, h2⟩ := z
  unfold DL.after at h1
  by_cases f : lfW (.new l) = true
  · rw [if_pos f] at h1
    have hz : Owned σ ρ a := ⟨i, m, h1, h2⟩
    obtain ⟨_, _, ys, r⟩ := S.owned_none hz
    have := s a _ (by unfold DL.borrow; rw [if_pos hz]; exact r)
    rw [p1] at this; cases this
  · rw [if_neg f] at h1
    obtain ⟨c, _, h⟩ := frz_get h1
    cases h
/-- one of the frame's own lists is changed -/
theorem SR.mut (S : SR K H0 Fc F H σ ρ) {i : Nat} {l m : List D} {a : Addr} {ys : List V} (h : ρ[i]? = some (some (.ow l))) (ha : σ[i]? = some (some (.ref a))) (q : DenL K F m ys) : SR K H0 Fc F (upd H a (.lst ys)) σ (ρ.set i (some (.ow m))) := by
  have hz : Owned σ ρ a := ⟨i, l, h, ha⟩
  obtain ⟨hF, h0, xs, hH⟩ := S.owned_none hz
  have hi : i < ρ.length := (List.getElem?_eq_some_iff.mp h).1
  have gr : (ρ.set i (some (.ow m)))[i]? = some (some (.ow m)) := by rw [List.getElem?_set_self hi]
  have nr : ∀ {j}, j ≠ i → (ρ.set i (some (.ow m)))[j]? = ρ[j]? := fun h => List.getElem?_set_ne (Ne.symm h)
  have ow : ∀ {j : Nat} {k : List D}, (ρ.set i (some (B.ow m)))[j]? = some (some (B.ow k)) → ∃ k' : List D, ρ[j]? = some (some (B.ow k')) := fun {j k} e => by
    by_cases hj : j = i
    · subst hj; exact ⟨l, h⟩
    · rw [nr hj] at e; exact ⟨k, e⟩
  refine ⟨fun b o e => ?_, fun b o e => ?_, S.base, S.new, fun j d e => ?_, fun j k e => ?_, fun j k p q' b e1 e2 e3 e4 => ?_, by rw [List.length_set]; exact S.len⟩
  · rw [upd_ne (fun z => by subst z; rw [hF] at e; cases e)]; exact S.sub b o e
  · rw [upd_ne (fun z => by subst z; rw [h0] at e; cases e)]; exact S.same b o e
  · by_cases hj : j = i
    · subst hj; rw [gr] at e; cases e
    · rw [nr hj] at e; exact S.env j d e
  · by_cases hj : j = i
    · subst hj
      rw [gr] at e
      cases e
      exact ⟨a, ys, ha, hF, h0, upd_same, q⟩
    · rw [nr hj] at e
      obtain ⟨b, zs, p, p1, p2, p3, p4⟩ := S.own j k e
      refine ⟨b, zs, p, p1, p2, ?_, p4⟩
      rw [upd_ne (fun z => by subst z; exact hj (S.dis j i k l b e h p ha))]
      exact p3
  · obtain ⟨k1, f1⟩ := ow e1
    obtain ⟨k2, f2⟩ := ow e2
    exact S.dis j k k1 k2 b f1 f2 e3 e4
end

/-! ### statements -/
inductive Out where
  | nx (ρ : RhoS) | rt (w : W)
structure RT (H0 Fc F H : Hp) : Prop where
  sub : Same F H
  same : Same H0 H
  base : Same Fc F
  new : ∀ a o, F a = some o → Fc a = some o ∨ H0 a = none
def tS (K : PySem.W.Frag) (H0 Fc : Hp) (ρ : RhoS) (o : Out) : TS := fun D σ H => ∃ F, SR K H0 Fc F H σ ρ ∧ match o with
  | .nx ρ' => ∀ σ' H' F', Same F F' → SR K H0 Fc F' H' σ' ρ' → D.nx σ' H'
  | .rt w => ∀ v H' F', RT H0 Fc F' H' → RW K H0 F' H' w v → D.rt v H'
def DS (X : Cx) (s : Stmt) (ρ : RhoS) (o : Out) : Prop := ∀ H0 Fc, PS X s (tS X.K H0 Fc ρ o)
def DSs (X : Cx) (s : List Stmt) (ρ : RhoS) (o : Out) : Prop := ∀ H0 Fc, PSs X s (tS X.K H0 Fc ρ o)

section
variable {X : Cx} {st : Stmt} {rest : List Stmt} {ρ ρ' : RhoS} {o : Out} {w : W} {e : Expr} {pos : Pos}
theorem DSs.nil : DSs X [] ρ (.nx ρ) := fun H0 Fc => PSs.mono pss_nil fun D σ H ⟨F, S, k⟩ => k σ H F (Same.refl _) S
theorem DSs.next (h1 : DS X st ρ (.nx ρ')) (h2 : DSs X rest ρ' o) : DSs X (st :: rest) ρ o := fun H0 Fc => PSs.mono (pss_cons (h1 H0 Fc) (h2 H0 Fc)) fun D σ H ⟨F, S, k⟩ =>
  ⟨F, S, fun σ' H' F' s' S' => ⟨F', S', by
    cases o with
    | nx ρ2 => exact fun σ2 H2 F2 s2 S2 => k σ2 H2 F2 (s'.trans s2) S2
    | rt w => exact k⟩⟩
theorem DSs.ret (h1 : DS X st ρ (.rt w)) : DSs X (st :: rest) ρ (.rt w) := fun H0 Fc => PSs.mono (pss_cons (h1 H0 Fc) pss_never) fun D σ H ⟨F, S, k⟩ => ⟨F, S, k⟩
theorem DS.pass : DS X (.Pass pos) ρ (.nx ρ) := fun H0 Fc => PS.mono ps_pass fun D σ H ⟨F, S, k⟩ => k σ H F (Same.refl _) S
/-- name = e -/
theorem DS.asg {i : Nat} {x : Str} {pos' : Pos} (hN : X.N.Nodup) (hi : X.N[i]? = some x) (hx : Loc X.env.scope x) (hf : X.fn x = true ∨ X.env.scope.names.lookup x = some .local) (hs : swapsWith e (some (.Name x pos')) pos.line X.env = pure false) (hl : i < ρ.length)
    (he : DE X e (view ρ) w) : DS X (.Assign [.Name x pos'] e pos) ρ (.nx ((after w ρ).set i (some w.b))) := fun H0 Fc => PS.mono (ps_set hN hi hx (he H0 Fc) hs hf) fun D σ H ⟨F, S, k⟩ => by
  obtain ⟨s0, R⟩ := S.borrow
  refine ⟨_, R, fun v H2 F2 s2 R2 q => ?_⟩
  obtain ⟨F3, s3, S3, q3⟩ := S.after s2 R2 q
  refine k _ H2 F3 s3 (S3.bind q3 ?_ (Owned.not_after S s2 q))
  rw [← S3.len, S.len]; exact hl
/-- return e -/
theorem DS.ret (he : DE X e (view ρ) w) : DS X (.Return (some e) pos) ρ (.rt w) := fun H0 Fc => PS.mono (ps_ret (he H0 Fc)) fun D σ H ⟨F, S, k⟩ => by
  obtain ⟨s0, R⟩ := S.borrow
  exact ⟨_, R, fun v H2 F2 s2 R2 q => k v H2 F2 ⟨R2.sub, R2.same, R2.base, R2.new⟩ q⟩
theorem DS.retN : DS X (.Return none pos) ρ (.rt (.val .non)) := fun H0 Fc => PS.mono ps_retN fun D σ H ⟨F, S, k⟩ => k _ H F ⟨S.sub, S.same, S.base, S.new⟩ (RW.v Den.non_mk)
/-- return xs, a list of the frame's own -/
theorem DS.retOwn {i : Nat} {x : Str} {l : List D} {p : Pos} (hN : X.N[i]? = some x) (hv : Vis X.env.scope x) (hd : (x == ("__debug__" : Str)) = false) (hcd : (x == ("__classdict__" : Str)) = false) (hr : ρ[i]? = some (some (.ow l))) :
    DS X (.Return (some (.Name x p)) pos) ρ (.rt (.new l)) := fun H0 Fc => PS.mono (ps_ret (pe_var hN hv hd hcd)) fun D σ H ⟨F, S, k⟩ => by
  obtain ⟨a, xs, p, p1, p2, p3, p4⟩ := S.own i l hr
  exact ⟨_, p, k _ H F ⟨S.sub, S.same, S.base, S.new⟩ (RW.n p1 p2 p3 p4)⟩
/-- behind a test -/
theorem SR.tested {K : PySem.W.Frag} {H0 Fc F H : Hp} {σ : L2.St} (S : SR K H0 Fc F H σ ρ) {F2 H2 : Hp} (s : Same (DL.borrow F H σ ρ) F2) (R : ER K H0 Fc F2 H2 σ (view ρ)) : ∃ F3, Same F F3 ∧ SR K H0 Fc F3 H2 σ ρ := by
  obtain ⟨F3, a, b, _⟩ := S.back (w := .val .non) (v := .non) s R (RW.v Den.non_mk) rfl
  exact ⟨F3, a, b⟩
theorem tS.pre {K : PySem.W.Frag} {H0 Fc F F3 H H2 : Hp} {σ : L2.St} {ρ2 : RhoS} {D : Ends} (s : Same F F3) (S3 : SR K H0 Fc F3 H2 σ ρ2)
    (k : match o with | .nx ρ' => ∀ σ' H' F', Same F F' → SR K H0 Fc F' H' σ' ρ' → D.nx σ' H' | .rt w => ∀ v H' F', RT H0 Fc F' H' → RW K H0 F' H' w v → D.rt v H') : tS K H0 Fc ρ2 o D σ H2 := ⟨F3, S3, by
  cases o with
  | nx ρ' => exact fun σ' H' F' s' S' => k σ' H' F' (s.trans s') S'
  | rt w => exact k⟩
theorem DS.ifT {c : Expr} {a b : List Stmt} (hc : DT X c (view ρ) true) (ha : DSs X a ρ o) : DS X (.If c a b pos) ρ o := fun H0 Fc => PS.mono (ps_if (hc H0 Fc) (ha H0 Fc) pss_never) fun D σ H ⟨F, S, k⟩ => by
  obtain ⟨s0, R⟩ := S.borrow
  refine ⟨_, R, fun H2 F2 s2 R2 => iteT ?_⟩
  obtain ⟨F3, s3, S3⟩ := S.tested s2 R2
  exact tS.pre (H := H) s3 S3 k
theorem DS.ifF {c : Expr} {a b : List Stmt} (hc : DT X c (view ρ) false) (hb : DSs X b ρ o) : DS X (.If c a b pos) ρ o := fun H0 Fc => PS.mono (ps_if (hc H0 Fc) pss_never (hb H0 Fc)) fun D σ H ⟨F, S, k⟩ => by
  obtain ⟨s0, R⟩ := S.borrow
  refine ⟨_, R, fun H2 F2 s2 R2 => iteF ?_⟩
  obtain ⟨F3, s3, S3⟩ := S.tested s2 R2
  exact tS.pre (H := H) s3 S3 k

/-! ### while -/
def whileN (c : RhoS → Option Bool) (b : RhoS → Option Out) : Nat → RhoS → Option Out
  | 0, _ => none
  | n + 1, ρ => match c ρ with
    | none => none
    | some false => some (.nx ρ)
    | some true => match b ρ with
      | none => none
      | some (.rt w) => some (.rt w)
      | some (.nx ρ') => whileN c b n ρ'
theorem DS.while_ {c : Expr} {body : List Stmt} {fc : RhoS → Option Bool} {fb : RhoS → Option Out} {n : Nat} (hp : PassesOwn (model X.prog X.w) X.A X.env X.xe) (hc : ∀ ρ k, fc ρ = some k → DT X c (view ρ) k) (hb : ∀ ρ o, fb ρ = some o → DSs X body ρ o)
    (hw : whileN fc fb n ρ = some o) : DS X (.While c body [] pos) ρ o := fun H0 Fc => by
  have pc : PT X c (fun σ H Q => ∃ ρ k, fc ρ = some k ∧ tDT X.K H0 Fc (view ρ) k σ H Q) := fun pins s σ H Q I ⟨ρ, k, h, q⟩ => hc ρ k h H0 Fc pins s σ H Q I q
  have pb : PSs X body (fun D σ H => ∃ ρ o, fb ρ = some o ∧ tS X.K H0 Fc ρ o D σ H) := fun pins s σ H D I ⟨ρ, o, h, q⟩ => hb ρ o h H0 Fc pins s σ H D I q
  refine PS.mono (ps_while hp pc pb) fun D σ H ⟨F, S, k⟩ => ?_
  refine ⟨fun m σ' H' => ∃ ρ' F', Same F F' ∧ SR X.K H0 Fc F' H' σ' ρ' ∧ whileN fc fb m ρ' = some o, ⟨n, ρ, F, Same.refl _, S, hw⟩, ?_⟩
  rintro m σ1 H1 ⟨ρ1, F1, s1, S1, h1⟩
  cases m with
  | zero => cases h1
  | succ m =>
    unfold whileN at h1
    cases e : fc ρ1 with
    | none => rw [e] at h1; cases h1
    | some kk =>
      rw [e] at h1
      obtain ⟨s0, R⟩ := S1.borrow
      refine ⟨ρ1, kk, e, _, R, fun H2 F2 s2 R2 => ?_⟩
      obtain ⟨F3, s3, S3⟩ := S1.tested s2 R2
      cases kk with
      | false =>
        refine iteF ?_
        cases h1
        exact k σ1 H2 F3 (s1.trans s3) S3
      | true =>
        refine iteT ?_
        cases e2 : fb ρ1 with
        | none => simp only [e2] at h1; cases h1
        | some o2 =>
          simp only [e2] at h1
          cases o2 with
          | rt w =>
            cases h1
            exact ⟨fun _ _ => False, fun _ _ z => z.elim, ρ1, _, e2, F3, S3, k⟩
          | nx ρ2 =>
            refine ⟨fun σ' H' => ∃ F', Same F F' ∧ SR X.K H0 Fc F' H' σ' ρ2, fun σ' H' ⟨F', s', S'⟩ => ⟨m, Nat.lt_succ_self _, ρ2, F', s', S', h1⟩, ρ1, _, e2, F3, S3, ?_⟩
            exact fun σ' H' F' s' S' => ⟨F', (s1.trans s3).trans s', S'⟩
end
end DL

set_option maxHeartbeats 4000000
namespace DL
open PySem L2 PyProof.Rows

section
variable {K : PySem.W.Frag} {H0 Fc F H : Hp} {σ : L2.St} {ρ : RhoS}
/-- a fresh object laid and frozen -/
theorem SR.lay (S : SR K H0 Fc F H σ ρ) {a : Addr} (o : HO) (hn : H a = none) : SR K H0 Fc (upd F a o) (upd H a o) σ ρ ∧ Same F (upd F a o) := by
  have hF : F a = none := by
    cases q : F a with
    | none => rfl
    | some u => rw [S.sub a u q] at hn; cases hn
  have h0 : H0 a = none := S.same.free hn
  have sF := same_upd (o := o) hF
  refine ⟨⟨fun b u e => ?_, S.same.trans (same_upd hn), S.base.trans sF, fun b u e => ?_, fun i d e => ?_, fun i l e => ?_, S.dis, S.len⟩, sF⟩
  · by_cases hb : b = a
    · subst hb; rw [upd_same] at e ⊢; exact e
    · rw [upd_ne hb] at e ⊢; exact S.sub b u e
  · by_cases hb : b = a
    · subst hb; exact .inr h0
    · rw [upd_ne hb] at e; exact S.new b u e
  · obtain ⟨v, h1, h2⟩ := S.env i d e
    exact ⟨v, h1, h2.mono sF⟩
  · obtain ⟨b, xs, p, p1, p2, p3, p4⟩ := S.own i l e
    have hb : b ≠ a := fun z => by subst z; rw [p3] at hn; cases hn
    exact ⟨b, xs, p, by rw [upd_ne hb]; exact p1, p2, by rw [upd_ne hb]; exact p3, p4.mono sF⟩
/-- a fresh list, of nobody's, is frozen -/
theorem SR.frz1 (S : SR K H0 Fc F H σ ρ) {a : Addr} {xs : List V} (hF : F a = none) (h0 : H0 a = none) (hH : H a = some (.lst xs)) (no : ¬ Owned σ ρ a) : SR K H0 Fc (upd F a (.lst xs)) H σ ρ ∧ Same F (upd F a (.lst xs)) := by
  have sF := same_upd (o := .lst xs) hF
  refine ⟨⟨fun b u e => ?_, S.same, S.base.trans sF, fun b u e => ?_, fun i d e => ?_, fun i l e => ?_, S.dis, S.len⟩, sF⟩
  · by_cases hb : b = a
    · subst hb; rw [upd_same] at e; cases e; exact hH
    · rw [upd_ne hb] at e; exact S.sub b u e
  · by_cases hb : b = a
    · subst hb; exact .inr h0
    · rw [upd_ne hb] at e; exact S.new b u e
  · obtain ⟨v, h1, h2⟩ := S.env i d e
    exact ⟨v, h1, h2.mono sF⟩
  · obtain ⟨b, ys, p, p1, p2, p3, p4⟩ := S.own i l e
    have hb : b ≠ a := fun z => by subst z; exact no ⟨i, l, e, p⟩
    exact ⟨b, ys, p, by rw [upd_ne hb]; exact p1, p2, p3, p4.mono sF⟩
/-- an expression's value, frozen -/
theorem SR.afterF (S : SR K H0 Fc F H σ ρ) {F2 H2 : Hp} {w : W} {v : V} (s : Same (DL.borrow F H σ ρ) F2) (R : ER K H0 Fc F2 H2 σ (view ρ)) (q : RW K H0 F2 H2 w v) :
    ∃ F3, Same F F3 ∧ SR K H0 Fc F3 H2 σ (DL.after w ρ) ∧ Den K F3 w.d v := by
  have no := Owned.not_after S s q
  obtain ⟨F3, s3, S3, q3⟩ := S.after s R q
  cases w with
  | val d => exact ⟨F3, s3, S3, q3⟩
  | new l =>
    obtain ⟨a, xs, e, p1, p2, p3, p4⟩ := q3
    subst e
    obtain ⟨S4, s4⟩ := S3.frz1 p1 p2 p3 (no l rfl a rfl)
    exact ⟨_, s3.trans s4, S4, Den.lst_mk (SqL.of upd_same) (p4.mono s4)⟩
end

theorem PG.mono {X : Cx} {tg : Expr} {t t' : TG} (h : PG X tg t) (k : ∀ v σ H Q, t' v σ H Q → t v σ H Q) : PG X tg t' := fun pins s σ H v u Q I r q => h pins s σ H v u Q I r (k v σ H Q q)
theorem PGs.mono {X : Cx} {tg : List Expr} {t t' : TGs} (h : PGs X tg t) (k : ∀ v σ H Q, t' v σ H Q → t v σ H Q) : PGs X tg t' := fun pins s σ H v u Q I r q => h pins s σ H v u Q I r (k v σ H Q q)
theorem PI.mono {X : Cx} {tg it : Expr} {t t' : TI} (h : PI X tg it t) (k : ∀ σ H R, t' σ H R → t σ H R) : PI X tg it t' := fun pins s σ H R I q => h pins s σ H R I (k σ H R q)

/-! ### targets -/
def DG (X : Cx) (tg : Expr) (d : D) (ρ ρ' : RhoS) : Prop := ∀ H0 Fc, PG X tg (fun v σ H Q => ∃ F, SR X.K H0 Fc F H σ ρ ∧ Den X.K F d v ∧ ∀ σ', SR X.K H0 Fc F H σ' ρ' → Q σ' H)
def DGs (X : Cx) (tg : List Expr) (ds : List D) (ρ ρ' : RhoS) : Prop := ∀ H0 Fc, PGs X tg (fun vs σ H Q => ∃ F, SR X.K H0 Fc F H σ ρ ∧ DenL X.K F ds vs ∧ ∀ σ', SR X.K H0 Fc F H σ' ρ' → Q σ' H)
section
variable {X : Cx} {st : Stmt} {rest : List Stmt} {ρ ρ' ρ2 : RhoS} {o : Out} {w : W} {e t : Expr} {ts es : List Expr} {pos : Pos} {d : D} {ds : List D}
theorem SR.bindS {K : PySem.W.Frag} {H0 Fc F H : Hp} {σ : L2.St} (S : SR K H0 Fc F H σ ρ) {i : Nat} {v : V} (q : Den K F d v) (hi : i < ρ.length) : SR K H0 Fc F H (σ.set i (some v)) (ρ.set i (some (.sh d))) :=
  S.bind (w := .val d) (RW.v q) hi fun l e => by cases e
theorem DG.name {i : Nat} {x : Str} (hN : X.N.Nodup) (hi : X.N[i]? = some x) (hx : Loc X.env.scope x) (hf : X.fn x = true ∨ X.env.scope.names.lookup x = some .local) (hl : i < ρ.length) : DG X (.Name x pos) d ρ (ρ.set i (some (.sh d))) := fun H0 Fc =>
  PG.mono (pg_name hN hi hx hf) fun v σ H Q ⟨F, S, q, k⟩ => k _ (S.bindS q hl)
theorem DGs.nil : DGs X [] [] ρ ρ := fun H0 Fc => PGs.mono pgs_nil fun vs σ H Q ⟨F, S, q, k⟩ => ⟨q.inv_nil, k σ S⟩
theorem assignEach_cons {env : Env} (h : notStar t = true) : assignEach (t :: ts) env = (false, assign t env) :: assignEach ts env := by
  cases t <;> first | rfl | (cases h; done)
theorem assignEach_len {env : Env} : ∀ {ts : List Expr}, ts.all notStar = true → (assignEach ts env).length = ts.length ∧ (assignEach ts env).findIdx? (·.1) = none
  | [], _ => ⟨rfl, rfl⟩
  | t :: ts, h => by
    rw [List.all_cons, Bool.and_eq_true] at h
    obtain ⟨a, b⟩ := assignEach_len (env := env) h.2
    rw [assignEach_cons h.1]
    refine ⟨by rw [List.length_cons, a, List.length_cons], ?_⟩
    rw [List.findIdx?_cons, b]
    rfl
theorem DGs.cons (h1 : DG X t d ρ ρ') (h2 : DGs X ts ds ρ' ρ2) (hs : notStar t = true) : DGs X (t :: ts) (d :: ds) ρ ρ2 := fun H0 Fc =>
  PGs.mono (pgs_cons (h1 H0 Fc) (h2 H0 Fc) (by rw [assignEach_cons hs]; rfl)) fun vs σ H Q ⟨F, S, q, k⟩ => by
    obtain ⟨v, r, e, q1, q2⟩ := q.inv_cons
    exact ⟨v, r, e, F, S, q1, fun σ' S' => ⟨F, S', q2, k⟩⟩
theorem DG.tup {k} (hc : X.calm = true) (h : DGs X ts ds ρ ρ') (hs : ts.all notStar = true) (hl : ds.length = ts.length) : DG X (.Tuple ts k pos) (.tup ds) ρ ρ' := fun H0 Fc =>
  PG.mono (pg_tup (n := ts.length) hc (h H0 Fc) (assignEach_len hs).1 (assignEach_len hs).2) fun v σ H Q ⟨F, S, q, k⟩ => by
    obtain ⟨a, xs, e, sq, r⟩ := q.tup
    exact ⟨a, xs, e, Same.tup S.sub sq, by rw [r.length]; exact hl, F, S, r, k⟩
/-- target = e -/
theorem DS.asgT (he : DE X e (view ρ) w) (hg : DG X t w.d (after w ρ) ρ') (hs : swapsWithSole [t] e pos.line X.env = pure false) (hw : swappedStores [t] e X.env = pure none) (hst : notStar t = true) : DS X (.Assign [t] e pos) ρ (.nx ρ') := fun H0 Fc =>
  PS.mono (ps_asg (he H0 Fc) (hg H0 Fc) hs hw (by rw [assignEach_cons hst]; rfl)) fun D σ H ⟨F, S, k⟩ => by
    obtain ⟨s0, R⟩ := S.borrow
    refine ⟨_, R, fun v H2 F2 s2 R2 q => ?_⟩
    obtain ⟨F3, s3, S3, q3⟩ := S.afterF s2 R2 q
    exact ⟨F3, S3, q3, fun σ' S' => k σ' H2 F3 s3 S'⟩
/-- x, y = a, b -/
theorem lf_back {K : PySem.W.Frag} {H0 Fc F H : Hp} {σ : L2.St} (S : SR K H0 Fc F H σ ρ) {F2 H2 : Hp} {vs : List V} (s : Same (DL.borrow F H σ ρ) F2) (R : ER K H0 Fc F2 H2 σ (view ρ)) (q : DenL K F2 ds vs) (f : lfL ds = true) :
    ∃ F3, Same F F3 ∧ SR K H0 Fc F3 H2 σ ρ ∧ DenL K F3 ds vs := by
  -- a tuple that isn't there: the data as those of a list just made
  induction ds generalizing vs with
  | nil =>
    obtain ⟨F3, a, b⟩ := S.tested s R
    rw [q.inv_nil]
    exact ⟨F3, a, b, DenL.nil⟩
  | cons d ds ih =>
    -- the frozen part without the frame's own lists is the same for all
    classical
    have key : ∀ (d : D) (v : V), lf d = true → Den K F2 d v → Den K (fun a => if Owned σ ρ a then none else F2 a) d v := fun d v f q => by
      have tups : ∀ a xs, SqT K F2 a xs → SqT K (fun a => if Owned σ ρ a then none else F2 a) a xs := fun a xs h => by
        rcases h with h | h
        · refine .inl ?_
          have hz : ¬ Owned σ ρ a := fun z => by
            obtain ⟨_, _, ys, r⟩ := S.owned_none z
            have e := s a _ (by unfold DL.borrow; rw [if_pos z]; exact r)
            rcases h with h | ⟨o, h⟩
            · rw [e] at h; cases h
            · rw [e] at h; cases h
          rcases h with h | ⟨o, h⟩
          · exact .inl (by show (if Owned σ ρ a then none else F2 a) = _; rw [if_neg hz]; exact h)
          · exact .inr ⟨o, by show (if Owned σ ρ a then none else F2 a) = _; rw [if_neg hz]; exact h⟩
        · exact .inr h
      exact Den.shrink tups d f q
    have keyL : ∀ (l : List D) (xs : List V), lfL l = true → DenL K F2 l xs → DenL K (fun a => if Owned σ ρ a then none else F2 a) l xs := fun l => by
      induction l with
      | nil => intro xs _ q; rw [q.inv_nil]; exact DenL.nil
      | cons d l ih2 =>
        intro xs f q
        simp only [lfL, Bool.and_eq_true] at f
        obtain ⟨v, vs, e, q1, q2⟩ := q.inv_cons
        subst e
        exact DenL.cons (key d v f.1 q1) (ih2 vs f.2 q2)
    have sF : Same F (fun a => if Owned σ ρ a then none else F2 a) := fun a o e => by
      have hz : ¬ Owned σ ρ a := fun z => by rw [(S.owned_none z).1] at e; cases e
      show (if Owned σ ρ a then none else F2 a) = some o
      rw [if_neg hz]
      exact s a o (S.borrow.1 a o e)
    have hsub : ∀ a o, (if Owned σ ρ a then none else F2 a) = some o → F2 a = some o := fun a o e => by
      by_cases hz : Owned σ ρ a
      · rw [if_pos hz] at e; cases e
      · rw [if_neg hz] at e; exact e
    refine ⟨_, sF, ⟨fun a o e => R.sub a o (hsub a o e), R.same, S.base.trans sF, fun a o e => R.new a o (hsub a o e), fun i d e => ?_, fun i l e => ?_, S.dis, S.len⟩, keyL _ _ f q⟩
    · obtain ⟨v, p, q⟩ := S.env i d e
      exact ⟨v, p, q.mono sF⟩
    · obtain ⟨a, xs, p, p1, p2, p3, p4⟩ := S.own i l e
      have hz : Owned σ ρ a := ⟨i, l, e, p⟩
      refine ⟨a, xs, p, if_pos hz, p2, ?_, p4.mono sF⟩
      exact R.sub _ _ (s a _ (by unfold DL.borrow; rw [if_pos hz]; exact p3))
theorem DS.par {i j : Nat} {x y : Str} {a b : Expr} {px py pt : Pos} {kt k2 pt2} {d1 d2 : D} (hc : X.calm = true) (hN : X.N.Nodup) (hi : X.N[i]? = some x) (hj : X.N[j]? = some y) (hij : i ≠ j)
    (hx : X.env.scope.names.lookup x = some .local) (hy : X.env.scope.names.lookup y = some .local) (ha : DA X [a, b] (view ρ) [d1, d2]) (hil : i < ρ.length) (hjl : j < ρ.length) (f1 : lf d1 = true) (f2 : lf d2 = true)
    (hw : swappedStores [.Tuple [.Name x px, .Name y py] kt pt] (.Tuple [a, b] k2 pt2) X.env = pure (some [x, y])) :
    DS X (.Assign [.Tuple [.Name x px, .Name y py] kt pt] (.Tuple [a, b] k2 pt2) pos) ρ (.nx ((ρ.set i (some (.sh d1))).set j (some (.sh d2)))) := fun H0 Fc =>
  PS.mono (ps_par hc hN hi hj hij hx hy (ha H0 Fc) hw (by rfl)) fun D σ H ⟨F, S, k⟩ => by
    obtain ⟨s0, R⟩ := S.borrow
    refine ⟨_, R, fun vs H2 F2 s2 R2 q => ?_⟩
    obtain ⟨F3, s3, S3, q3⟩ := lf_back S s2 R2 q (by simp [lfL, f1, f2])
    obtain ⟨v, u, e, q1, q2⟩ := q3.two
    refine ⟨v, u, e, k _ H2 F3 s3 ((S3.bindS q1 hil).bindS q2 (by rw [List.length_set]; exact hjl))⟩

/-! ### for -/
def Yields (K : PySem.W.Frag) (F H : Hp) (d : D) (x : V) (H' : Hp) : Prop := (H' = H ∧ Den K F d x) ∨ ∃ p xs ds, H p = none ∧ H' = upd H p (.tup xs) ∧ x = .ref p ∧ d = .tup ds ∧ DenL K F ds xs
def Walks (K : PySem.W.Frag) (F : Hp) (J : It) (items : List D) : Prop := ∀ i H, Same F H → (∀ d, items[i]? = some d → J.go i H ∧ ∀ x H', J.yld i H x H' → Yields K F H d x H') ∧ (items.length ≤ i → J.stop i H)
/-- what is walked -/
def DI (X : Cx) (tg iter : Expr) (ρ : RhoS) (items : List D) (ρ' : RhoS) : Prop := ∀ H0 Fc, PI X tg iter (fun σ H R => ∃ F, SR X.K H0 Fc F H σ ρ ∧ ∀ J H' F', Same F F' → SR X.K H0 Fc F' H' σ ρ' → Walks X.K F' J items → R J H')
def forN (bt : D → RhoS → Option RhoS) (b : RhoS → Option Out) : List D → RhoS → Option Out
  | [], ρ => some (.nx ρ)
  | d :: l, ρ => match bt d ρ with
    | none => none
    | some ρ1 => match b ρ1 with
      | none => none
      | some (.rt w) => some (.rt w)
      | some (.nx ρ2) => forN bt b l ρ2
theorem DS.for_ {tg iter : Expr} {body : List Stmt} {bt : D → RhoS → Option RhoS} {fb : RhoS → Option Out} {items : List D} (hp : PassesOwn (model X.prog X.w) X.A X.env X.xe) (hc : X.calm = true) (hi : DI X tg iter ρ items ρ')
    (hg : ∀ d ρ ρ', bt d ρ = some ρ' → DG X tg d ρ ρ') (hb : ∀ ρ o, fb ρ = some o → DSs X body ρ o) (hw : forN bt fb items ρ' = some o) (hs : ∀ x, foldedSetIterable iter X.env x = pure x) : DS X (.For tg iter body [] pos) ρ o := fun H0 Fc => by
  have pg : PG X tg (fun v σ H Q => ∃ d ρ ρ', bt d ρ = some ρ' ∧ ∃ F, SR X.K H0 Fc F H σ ρ ∧ Den X.K F d v ∧ ∀ σ', SR X.K H0 Fc F H σ' ρ' → Q σ' H) := fun pins s σ H v u Q I r ⟨d, ρ, ρ', h, q⟩ => hg d ρ ρ' h H0 Fc pins s σ H v u Q I r q
  have pb : PSs X body (fun D σ H => ∃ ρ o, fb ρ = some o ∧ tS X.K H0 Fc ρ o D σ H) := fun pins s σ H D I ⟨ρ, o, h, q⟩ => hb ρ o h H0 Fc pins s σ H D I q
  refine PS.mono (ps_for hp hc (hi H0 Fc) pg pb hs) fun D σ H ⟨F, S, k⟩ => ⟨F, S, fun J H1 F1 s1 S1 wk => ?_⟩
  refine ⟨fun i m σ' H' => m = items.length - i ∧ i ≤ items.length ∧ ∃ ρ2 F2, Same F1 F2 ∧ SR X.K H0 Fc F2 H' σ' ρ2 ∧ forN bt fb (items.drop i) ρ2 = some o, ⟨_, rfl, Nat.zero_le _, ρ', F1, Same.refl _, S1, hw⟩, ?_⟩
  rintro i m σ2 H2 ⟨rfl, hil, ρ2, F2, s2, S2, h2⟩
  have wk' := wk i H2 (s2.trans S2.sub)
  by_cases hlt : i < items.length
  · have hd : items[i]? = some items[i] := List.getElem?_eq_getElem hlt
    rw [List.drop_eq_getElem_cons hlt] at h2
    obtain ⟨go, yl⟩ := wk'.1 _ hd
    unfold forN at h2
    cases e1 : bt items[i] ρ2 with
    | none => rw [e1] at h2; cases h2
    | some ρ3 =>
      simp only [e1] at h2
      cases e2 : fb ρ3 with
      | none => simp only [e2] at h2; cases h2
      | some o2 =>
        simp only [e2] at h2
        -- the item, laid and frozen where it is new
        have item : ∀ x H', J.yld i H2 x H' → ∃ F3, Same F2 F3 ∧ SR X.K H0 Fc F3 H' σ2 ρ2 ∧ Den X.K F3 items[i] x := fun x H' y => by
          rcases yl x H' y with ⟨e, q⟩ | ⟨p, xs, ds, hp, e, ex, ed, q⟩
          · subst e; exact ⟨F2, Same.refl _, S2, q.mono s2⟩
          · subst e ex
            obtain ⟨S3, s3⟩ := S2.lay (.tup xs) hp
            refine ⟨_, s3, S3, ?_⟩
            rw [ed]
            exact Den.tup_mk (SqT.of upd_same) ((q.mono s2).mono s3)
        cases o2 with
        | rt w =>
          cases h2
          refine .inr ⟨go, fun _ _ => False, fun _ _ z => z.elim, fun x H' y => ?_⟩
          obtain ⟨F3, s3, S3, q3⟩ := item x H' y
          exact ⟨_, ρ2, ρ3, e1, F3, S3, q3, fun σ' S' => ⟨ρ3, _, e2, F3, S', k⟩⟩
        | nx ρ4 =>
          refine .inr ⟨go, fun σ' H' => ∃ F', Same F1 F' ∧ SR X.K H0 Fc F' H' σ' ρ4, fun σ' H' ⟨F', s', S'⟩ => ⟨items.length - (i + 1), by omega, rfl, hlt, ρ4, F', s', S', h2⟩, fun x H' y => ?_⟩
          obtain ⟨F3, s3, S3, q3⟩ := item x H' y
          exact ⟨_, ρ2, ρ3, e1, F3, S3, q3, fun σ' S' => ⟨ρ3, _, e2, F3, S', fun σ5 H5 F5 s5 S5 => ⟨F5, (s2.trans s3).trans s5, S5⟩⟩⟩
  · have e : i = items.length := by omega
    subst e
    rw [List.drop_length] at h2
    cases h2
    refine .inl ⟨wk'.2 (Nat.le_refl _), ?_⟩
    exact k σ2 H2 F2 (s1.trans s2) S2

/-! ### what a for walks -/
theorem DI.list {tg : Expr} {l : List D} (he : DE X e (view ρ) w) (hl : w.d = .lst l) : DI X tg e ρ l (after w ρ) := fun H0 Fc => PI.mono (pi_list (he H0 Fc)) fun σ H R ⟨F, S, k⟩ => by
  obtain ⟨s0, Re⟩ := S.borrow
  refine ⟨_, Re, fun v H2 F2 s2 R2 q => ?_⟩
  obtain ⟨F3, s3, S3, q3⟩ := S.afterF s2 R2 q
  rw [hl] at q3
  obtain ⟨a, xs, e1, sq, r⟩ := q3.lst
  refine ⟨a, e1, ⟨xs, S3.sub.seq sq⟩, k _ H2 F3 s3 S3 fun i H' sH => ⟨fun d hd => ?_, fun hle => ⟨xs, sH.seq sq, by rw [r.length]; exact hle⟩⟩⟩
  obtain ⟨y, h1, h2⟩ := r.get hd
  refine ⟨⟨xs, y, sH.seq sq, h1⟩, fun x H'' ⟨ey, yy⟩ => ?_⟩
  have := yy xs (sH.seq sq)
  rw [h1] at this
  cases this
  exact .inl ⟨ey, h2⟩
theorem DI.tup {tg : Expr} {l : List D} (he : DE X e (view ρ) w) (hl : w.d = .tup l) : DI X tg e ρ l (after w ρ) := fun H0 Fc => PI.mono (pi_tup (he H0 Fc)) fun σ H R ⟨F, S, k⟩ => by
  obtain ⟨s0, Re⟩ := S.borrow
  refine ⟨_, Re, fun v H2 F2 s2 R2 q => ?_⟩
  obtain ⟨F3, s3, S3, q3⟩ := S.afterF s2 R2 q
  rw [hl] at q3
  obtain ⟨a, xs, e1, sq, r⟩ := q3.tup
  refine ⟨a, e1, ⟨xs, Same.tup S3.sub sq⟩, k _ H2 F3 s3 S3 fun i H' sH => ⟨fun d hd => ?_, fun hle => ⟨xs, Same.tup sH sq, by rw [r.length]; exact hle⟩⟩⟩
  obtain ⟨y, h1, h2⟩ := r.get hd
  refine ⟨⟨xs, y, Same.tup sH sq, h1⟩, fun x H'' ⟨ey, yy⟩ => ?_⟩
  have := yy xs (Same.tup sH sq)
  rw [h1] at this
  cases this
  exact .inl ⟨ey, h2⟩
def rangeD (lo : Int) (n : Nat) : List D := (List.range n).map fun (i : Nat) => D.int (lo + (i : Int))
theorem rangeD_walks {K : PySem.W.Frag} {F : Hp} {lo : Int} {n : Nat} : Walks K F (Itr lo n) (rangeD lo n) := fun i H sH => by
  unfold rangeD
  refine ⟨fun d hd => ?_, fun hle => ?_⟩
  · rw [List.getElem?_map] at hd
    by_cases hlt : i < n
    · rw [List.getElem?_range hlt] at hd
      cases hd
      exact ⟨hlt, fun x H' ⟨e1, e2⟩ => .inl ⟨e1, by rw [e2]; exact Den.int_mk⟩⟩
    · rw [List.getElem?_eq_none (by rw [List.length_range]; omega)] at hd
      cases hd
  · rw [List.length_map, List.length_range] at hle
    exact hle
theorem DI.range1 {tg a : Expr} {p : Pos} {n : Int} (hg : Gl X "range") (hm : X.mg "range" = none) (ha : DA X [a] (view ρ) [.int n]) (hs : notStar a = true) (h1 : -(2 ^ 62) ≤ n) (h2 : n < 2 ^ 62) : DI X tg (.Call (.Name "range" p) [a] [] pos) ρ (rangeD 0 n.toNat) ρ := fun H0 Fc =>
  PI.mono (pi_range1 hg hm (ha H0 Fc) (star_cons hs)) fun σ H R ⟨F, S, k⟩ => by
    obtain ⟨s0, Re⟩ := S.borrow
    refine ⟨_, Re, fun vs H2 F2 s2 R2 q => ?_⟩
    obtain ⟨F3, s3, S3⟩ := S.tested s2 R2
    obtain ⟨v, e, q⟩ := q.one
    rw [q.int] at e
    exact ⟨n, e, h1, h2, k _ H2 F3 s3 S3 rangeD_walks⟩
theorem DI.range2 {tg a b : Expr} {p : Pos} {m n : Int} (hg : Gl X "range") (hm : X.mg "range" = none) (ha : DA X [a, b] (view ρ) [.int m, .int n]) (hs : notStar a = true) (hs2 : notStar b = true) (h : -(2 ^ 62) ≤ m ∧ m < 2 ^ 62 ∧ -(2 ^ 62) ≤ n ∧ n < 2 ^ 62) :
    DI X tg (.Call (.Name "range" p) [a, b] [] pos) ρ (rangeD m (n - m).toNat) ρ := fun H0 Fc =>
  PI.mono (pi_range2 hg hm (ha H0 Fc) (by rw [star_cons hs, star_cons hs2]; rfl) (by rw [star_cons hs2]; rfl)) fun σ H R ⟨F, S, k⟩ => by
    obtain ⟨s0, Re⟩ := S.borrow
    refine ⟨_, Re, fun vs H2 F2 s2 R2 q => ?_⟩
    obtain ⟨F3, s3, S3⟩ := S.tested s2 R2
    obtain ⟨v, u, e, q1, q2⟩ := q.two
    rw [q1.int, q2.int] at e
    exact ⟨m, n, e, h, k _ H2 F3 s3 S3 rangeD_walks⟩
end
end DL

set_option maxHeartbeats 4000000
namespace DL
open PySem L2 PyProof.Rows

/-- two records of an iterator's have turned, a new object is laid and tracked -/
theorem Inv.turned2 {X : Cx} {pins : List (Addr × Obj)} {σ : L2.St} {H : Hp} {s : Shared} {h' : Heap} {e li p : Addr} {o : HO} {t' : Nat} (I : Inv X pins σ H s) (he : FpOk X pins H e) (hli : FpOk X pins H li)
    (k : ∀ b ob, b ≠ e → b ≠ li → s.heap.get? b = some ob → h'.get? b = some ob) (hp : s.heap.objs.size ≤ p) (new : ObjOk X.prog X.w (upd H p o) h' p o) : Inv X pins σ (upd H p o) { s with heap := h', toks := t' } := by
  obtain ⟨a0, a1, a2, a3, a4, a5⟩ := he
  obtain ⟨b0, b1, b2, b3, b4, b5⟩ := hli
  have nin : ∀ {b : Addr}, b ∉ [e, li] → b ≠ e ∧ b ≠ li := fun h => by simpa using h
  have npo : ∀ {b : Addr} {ob : Obj}, s.heap.get? b = some ob → b ≠ p := fun h z => by
    have := Heap.lt_size h
    subst z
    exact absurd (Nat.lt_of_lt_of_le this hp) (Nat.lt_irrefl _)
  have npH : ∀ {b : Addr} {u : HO}, H b = some u → b ≠ p := fun h z => by
    subst z
    rw [I.hok.fresh hp] at h; cases h
  refine I.step (g' := s.gens) (d' := s.drawn) (ch := [e, li]) (fun b hb => ?_) (fun b ob _ _ hc q _ => k b ob (nin hc).1 (nin hc).2 q) (fun b ob _ _ hc q _ => ⟨ob.slots, k b ob (nin hc).1 (nin hc).2 q⟩)
    (fun b ob hc q n => by rw [upd_ne (npo q)]; exact n) (fun b ob hc q => ⟨ob, k b ob (nin hc).1 (nin hc).2 q⟩) (fun b xs q => by rw [upd_ne (npH q)]; exact q) (fun b ob xs q => by rw [upd_ne (npH q)]; exact q)
    (fun b ps q => ⟨#[], by rw [upd_ne (npH q), q]; simp⟩) (fun m hm => ?_) (fun b u q => ?_) I.bare
  · rcases List.mem_cons.mp hb with z | z
    · subst z; exact ⟨a3, a1, a4, a5⟩
    · have z := List.mem_singleton.mp z; subst z; exact ⟨b3, b1, b4, b5⟩
  · obtain ⟨ob, es, ep, q, r⟩ := hm
    exact ⟨ob, es, ep, k _ ob (Ne.symm a1) (Ne.symm b1) q, r⟩
  · by_cases hb : b = p
    · subst hb
      rw [upd_same] at q
      cases q
      exact new
    · rw [upd_ne hb] at q
      refine (I.hok b u q).stay (fun c v hc z => k c v ?_ ?_ z) (fun c z => by rw [upd_ne (npH z)]; exact z) fun c xs z => by rw [upd_ne (npH z)]; exact z
      · rintro rfl
        rcases hc with z | z
        · subst z; rw [a0] at q; cases q
        · rw [a0] at z; cases z
      · rintro rfl
        rcases hc with z | z
        · subst z; rw [b0] at q; cases q
        · rw [b0] at z; cases z

/-! ### enumerate -/
def Ite (K : PySem.W.Frag) (a : Addr) : It :=
  ⟨fun i H => ∃ xs x, SqL K H a xs ∧ xs[i]? = some x, fun i H x H' => ∃ p y, H p = none ∧ x = .ref p ∧ H' = upd H p (.tup [.int (i : Int), y]) ∧ ∀ xs, SqL K H a xs → xs[i]? = some y, fun i H => ∃ xs, SqL K H a xs ∧ xs.length ≤ i⟩
theorem turn_enum {P : Program} {w : World} {K : PySem.W.Frag} {elts : List Expr} {x1} {tp : Pos} (a e li : Addr) (hne : e ≠ li) : Turn P w K (.Tuple elts x1 tp) (Ite K a) [e, li] e (fun i h => (∃ old, IsEnum h e li (i : Int) old) ∧ h.IsListIter li a i) where
  mem := by simp
  obj := fun i h st b hb => by
    obtain ⟨⟨old, h1⟩, h2⟩ := st
    rcases List.mem_cons.mp hb with z | z
    · subst z
      exact ⟨_, h1, fun v z => by cases z⟩
    · have z := List.mem_singleton.mp z
      subst z
      obtain ⟨o, e, c, d⟩ := h2
      exact ⟨o, e, fun v z => by rw [d] at z; cases z⟩
  keep := fun i h h' st k => by
    obtain ⟨⟨old, h1⟩, h2⟩ := st
    exact ⟨⟨old, k e (by simp) _ h1⟩, h2.at fun o q => k li (by simp) o q⟩
  item := by
    intro X hP hw hK hc i pins s σ H E I hf st hg
    subst hP hw hK
    obtain ⟨⟨old, he⟩, hit⟩ := st
    obtain ⟨xs, x, hq, hx⟩ := hg
    obtain ⟨its, rv, p, hz⟩ := I.list hq
    obtain ⟨u, hu, ru⟩ := rv.get hx
    refine wpAny_pyNext_enum_item he hit p.isList (x := u) (by simpa using hu) hne fun h1 heo hit1 ht1 hz1 hk1 => ⟨_, rfl, ?_⟩
    refine wpAny_letOwnedTupleGo_enum heo fun h2 he2 hs2 => ?_
    have hel : e < s.heap.objs.size := Heap.lt_size he
    have hll : li < s.heap.objs.size := by obtain ⟨o, q, _⟩ := id hit; exact Heap.lt_size q
    have ht2 : h2.get? s.heap.objs.size = some { cls := .type "tuple", data := .seq #[.int i s.toks, u] } := (hs2.2 _ (Nat.ne_of_gt hel)).trans ht1
    have hk2 : ∀ b ob, b ≠ e → b ≠ li → s.heap.get? b = some ob → h2.get? b = some ob := fun b ob n1 n2 q => (hs2.2 b n1).trans (hk1 b ob n1 n2 q)
    have I2 : Inv X pins σ (upd H s.heap.objs.size (.tup [.int (i : Int), x])) { s with heap := h2, toks := s.toks + 1 } := by
      refine Inv.turned2 I (hf e (by simp)) (hf li (by simp)) hk2 (Nat.le_refl _) ?_
      exact ⟨by show 2 ≤ sizeLine; decide, [.int i s.toks, u], .cons ⟨_, rfl⟩ (.cons ru .nil), ⟨_, ht2, rfl, _, rfl⟩⟩
    refine ⟨.ref s.heap.objs.size, _, I2, rfl, ⟨_, x, I.hok.fresh (Nat.le_refl _), rfl, rfl, fun ys hy => by rw [I.list_inj hy hq]; exact hx⟩, ⟨⟨u, ?_⟩, ?_⟩, fun b hb => ?_⟩
    · have : ((i + 1 : Nat) : Int) = (i : Int) + 1 := by push_cast; rfl
      show IsEnum h2 e li ((i + 1 : Nat) : Int) u
      rw [this]
      exact he2
    · exact hit1.at fun o q => (hs2.2 li (Ne.symm hne)).trans q
    · rw [upd_ne]
      · exact (hf b hb).1
      · rcases List.mem_cons.mp hb with z | z
        · subst z; exact Nat.ne_of_lt hel
        · have z := List.mem_singleton.mp z; subst z; exact Nat.ne_of_lt hll
  done := by
    intro X hP hw hK hc i pins s σ H E I hf st hg
    subst hP hw hK
    obtain ⟨⟨old, he⟩, hit⟩ := st
    obtain ⟨xs, hq, hx⟩ := hg
    obtain ⟨its, rv, p, hz⟩ := I.list hq
    obtain ⟨f0, f1, f2, f3, f4, f5⟩ := hf li (by simp)
    have hl := rv.length
    exact wpAny_pyNext_enum_end (I.ok.hd hc) he hit p.isList (by simp; omega) fun h' eb => ⟨rfl, I.turned (t' := s.toks) (fun b o hb e => eb b o hb e) f0 f1 f3 f4 f5⟩
  self := fun _ _ _ _ _ st h => by
    obtain ⟨⟨old, he⟩, _⟩ := st
    exact wpAny_pyIter_enum he h
theorem boot_enumerate : bootBuiltins "enumerate" = some (.type "enumerate") := by decide +kernel
section
variable {X : Cx} {elts : List Expr} {x1 : Nat} {tp : Pos}
def iEnum (K : PySem.W.Frag) (ta : TA) : TI := fun σ H R => ta σ H fun vs H1 => ∃ a, vs = [.ref a] ∧ (∃ xs, SqL K H1 a xs) ∧ R (Ite K a) H1
theorem pi_enum {a : Expr} {ta : TA} {p pos : Pos} (hg : Gl X "enumerate") (hm : X.mg "enumerate" = none) (ha : PA X [a] ta) (hs : starEach [a] X.env = [(false, eval a X.env)]) : PI X (.Tuple elts x1 tp) (.Call (.Name "enumerate" p) [a] [] pos) (iEnum X.K ta) := by
  intro pins s σ H R I h
  refine Call_ (ld_blt I hg hm boot_enumerate (PyProof.Rows.callWith_type1 (thn (ha pos pins s σ H _ I h) fun us s1 ⟨vs, H1, I1, r1, q1⟩ => ?_) hs rfl))
  obtain ⟨l, e, ⟨xs, hq⟩, q⟩ := q1
  subst e
  obtain ⟨u, e, r⟩ := vals1 r1
  subst e
  cases r
  obtain ⟨its, rv, p, hz⟩ := I1.list hq
  refine call_enumerate_list p.isList fun h' he hit hsz hk => ?_
  have I2 : Inv X pins σ H1 { s1 with heap := h' } := I1.kept (t' := s1.toks) hk
  refine wpAny_pyIter_enum he ⟨_, [s1.heap.objs.size + 1, s1.heap.objs.size], _, _, H1, rfl, I2, turn_enum l _ _ (Nat.succ_ne_self _), ⟨⟨_, he⟩, hit⟩, fun b hb => ?_, q⟩
  have hb' : s1.heap.objs.size ≤ b := by
    rcases List.mem_cons.mp hb with z | z
    · rw [z]; exact Nat.le_succ _
    · rw [List.mem_singleton.mp z]; exact Nat.le_refl _
  exact I1.fpOk hb' (I1.hok.fresh hb')
end
end DL

set_option maxHeartbeats 4000000
/-! the class of an exception of one's own -/
namespace DL
open PySem L2 PyProof.Rows
section
variable {prog : Program} {w : World} {A : Around} {E : Value → Shared → Prop} {h : Heap} {g : Array GenState} {d : Drawn} {t : Nat} {os : OsState} {a C : Addr} {o : Obj} {vs : Array Value} {K : PySem.W.Frag}

structure XCls (K : PySem.W.Frag) (C : Addr) : Prop where
  cls : PySem.W.isClsIn K C = true
  typ : PySem.W.typeIn K (.ref C) = some (.type "type")
  ga : PySem.W.findIn K (.ref C) "__getattribute__" = some (some (.builtin "BaseException.__getattribute__"))
  noga : PySem.W.findIn K (.ref C) "__getattr__" = some none
  at_ : PySem.W.findIn K (.ref C) "__class__" = some (some (.builtin "object.__class__"))
  bexc : PySem.W.subIn K (.ref C) (.type "BaseException") = some true
  obj : PySem.W.subIn K (.ref C) (.type "object") = some true

theorem xcls_get {R : Result → Shared → Prop} (XK : K.In h) (Z : XCls K C) (hx : h.get? a = some o) (hc : o.cls = .ref C) (hq : R (.ok (.ret (.ref C))) ⟨h, g, d, t, os⟩) :
    codeAny (model prog w) A (.call (.builtin "getset_descriptor.__get__") ⟨[.builtin "object.__class__", .ref a, .ref C], []⟩) R ⟨h, g, d, t, os⟩ := by
  have hT5 : (⟨h, g, d, t, os⟩ : Shared).TypeIs (.builtin "object.__class__") "getset_descriptor" := F.typeOf_object_class
  have f8 : PySem.W.Looks (model prog w) h (isSubtype (.ref C) (.type (".".intercalate ("object.__class__".cutAt '.').dropLast))) true := by
    rw [F.owner_object_class]; exact PySem.W.looks_subIn XK Z.obj
  refine codeAny_call_builtin F.slot_gs_get.plain F.entry_gs_get (F.slot_gs_get.check _ _ _ _ _ _ _ _ hT5 (F.args_gs_get _ _ _) ?_)
  repeat (any_goals (first | assumption | (with_reducible refine wpAny_loadPart_at hx ?_; rw [hc]) | with_reducible refine PySem.W.Looks.at f8 ?_ | wp_step))
  refine ⟨Code.quiet_builtin _ (by decide +kernel), codeAny_builtin F.entry_object_class ?_⟩
  repeat (any_goals (first | assumption | (with_reducible refine wpAny_loadPart_at hx ?_; rw [hc]) | wp_step))

theorem xcls_check {M : Model} {nameV : Value} {Q : Unit → Shared → Prop} (XK : K.In h) (Z : XCls K C) (hx : h.get? a = some o) (hc : o.cls = .ref C) (hq : Q () ⟨h, g, d, t, os⟩) :
    wpAny M A (checkBuiltinCall "BaseException.__getattribute__" ⟨[.ref a, nameV], []⟩) Q E ⟨h, g, d, t, os⟩ := by
  have hk : builtinKind "BaseException.__getattribute__" = some .slot := by decide +kernel
  have hsplit : splitId "BaseException.__getattribute__" = some ("BaseException", "__getattribute__") := by decide +kernel
  have f8 : PySem.W.Looks M h (isSubtype (.ref C) (.type "BaseException")) true := PySem.W.looks_subIn XK Z.bexc
  have ha := F.args_bexc_ga (.ref a) nameV
  simp only [checkBuiltinCall, hk, hsplit]
  refine wpAny_bind ?_
  · unfold isInstance
    repeat (first | (with_reducible refine wpAny_loadPart_at hx ?_; rw [hc]) | with_reducible refine PySem.W.Looks.at f8 ?_ | wp_step)
    exact hq

theorem xcls_entry {tk : Tok} {Q : Fin → Shared → Prop} (XK : K.In h) (Z : XCls K C) (hx : h.get? a = some o) (hc : o.cls = .ref C) (hd : o.data = .fields vs) (hq : Q (.done (.ret (.ref C))) ⟨h, g, d, t, os⟩) :
    wpAny (model prog w) A (Builtin.«object.__getattribute__» ⟨[.ref a, .str "__class__" tk], []⟩) Q E ⟨h, g, d, t, os⟩ := by
  have hT5 : (⟨h, g, d, t, os⟩ : Shared).TypeIs (.builtin "object.__class__") "getset_descriptor" := F.typeOf_object_class
  have f4 : PySem.W.Looks (model prog w) h (typeLookup (.ref C) "__class__") (some (.builtin "object.__class__")) := PySem.W.looks_findIn XK Z.at_
  have f5 := F.typeOf_object_class
  have f6 := F.slot_gs_get.lookup
  have f7 := F.slot_gs_set.lookup
  repeat (any_goals (first | assumption | (with_reducible refine wpAny_loadPart_at hx ?_; rw [hc]) | with_reducible refine PySem.W.Looks.at f4 ?_ | wp_step))
  refine xcls_get XK Z hx hc ?_
  repeat (any_goals (first | assumption | wp_step))

theorem xcls_by {tk : Tok} {Q : Value → Shared → Prop} (XK : K.In h) (Z : XCls K C) (hx : h.get? a = some o) (hc : o.cls = .ref C) (hd : o.data = .fields vs) (hq : Q (.ref C) ⟨h, g, d, t, os⟩) :
    wpAny (model prog w) A (getAttrBy (.ref a) (.str "__class__" tk) false) Q E ⟨h, g, d, t, os⟩ := by
  have f3 := F.attrBase_ValueError.ga.bind (.ref a)
  have g1 : PySem.W.Looks (model prog w) h (typeLookup (.ref C) "__getattribute__") (some (.builtin "BaseException.__getattribute__")) := PySem.W.looks_findIn XK Z.ga
  have g2 : PySem.W.Looks (model prog w) h (typeLookup (.ref C) "__getattr__") none := PySem.W.looks_findIn XK Z.noga
  have hx0 : (false && onTheHeap (Value.builtin "BaseException.__getattribute__")) = false := by rfl
  have hx2 : (Value.builtin "BaseException.__getattribute__" == Value.builtin "object.__getattribute__") = false := by decide +kernel
  have hx1 : (onTheHeap (Value.ref C) && Value.builtin "BaseException.__getattribute__" == Value.builtin "object.__getattribute__") = false := by rw [hx2]; rfl
  repeat (any_goals (first | assumption | (with_reducible refine wpAny_loadPart_at hx ?_; rw [hc]) | with_reducible refine PySem.W.Looks.at g1 ?_ | with_reducible refine PySem.W.Looks.at g2 ?_ | wp_step))
  refine codeAny_call_builtin F.attrBase_ValueError.ga.plain F.entry_bexc_ga (xcls_check XK Z hx hc (xcls_entry XK Z hx hc hd ?_))
  repeat (any_goals (first | assumption | wp_step))
theorem xcls_attr {Q : Option Value → Shared → Prop} (XK : K.In h) (Z : XCls K C) (hx : h.get? a = some o) (hc : o.cls = .ref C) (hd : o.data = .fields vs) (hq : Q (some (.ref C)) ⟨h, g, d, t + 1, os⟩) :
    wpAny (model prog w) A (getAttr? (.ref a) "__class__") Q E ⟨h, g, d, t, os⟩ := by
  unfold getAttr? getAttrBy?
  repeat (any_goals (first | assumption | with_reducible apply xcls_by XK Z hx hc hd | wp_step))
theorem kitx_exc (Z : XCls K C) : PySem.W.KitX K (.ref a) (.ref C) (fun h => ∃ o vs, h.get? a = some o ∧ o.cls = .ref C ∧ o.data = .fields vs) where
  ty := fun M h _ ⟨o, vs, h1, h2, _⟩ => h2 ▸ (PySem.W.Looks.ld h1).andThen .now
  it := fun M h XK _ => by
    have c := Z.cls
    unfold PySem.W.isClsIn PySem.W.clsIn at c
    split at c
    · rename_i c' d' cd' sl' ho
      intro A' Q' E' s' k q
      unfold isType loadHead
      exact wpAny_bind (wpAny_loadPart (k _ _ (XK _ _ ho)) (wpAny_pure q))
    · cases c
  ne := fun h tp dd its n sl XK htp => by
    refine Bool.eq_false_iff.mpr fun q => ?_
    have e : C = tp := Value.ref.inj (beq_iff_eq.mp q)
    subst e
    have c := Z.cls
    unfold PySem.W.isClsIn PySem.W.clsIn at c
    split at c
    · rename_i c' d' cd' sl' ho
      have z := (XK _ _ ho).symm.trans htp
      cases z
    · cases c
  ca := fun {prog w A E Q s} XK p k => by
    obtain ⟨h, g, d, t, os⟩ := s
    obtain ⟨o, vs, h1, h2, h3⟩ := p
    exact xcls_attr XK Z h1 h2 h3 k
end
end DL

set_option maxHeartbeats 4000000
/-! an exception of one's own: raised, passed on, caught -/
namespace DL
open PySem L2 PyProof.Rows

section
variable {P : Program} {w : World} {H H' : Hp} {h h' : Heap} {a : Addr} {o : HO}
theorem ObjOk.ex (x : ObjOk P w H h a o) : ∃ u, h.get? a = some u := by
  cases o with
  | lst xs => obtain ⟨_, _, _, _, e⟩ := x; exact ⟨_, e⟩
  | tup xs => obtain ⟨_, _, _, o, e, _⟩ := x; exact ⟨_, e⟩
  | dK kvs => obtain ⟨_, _, _, _, o, _, _, e, _⟩ := x; exact ⟨_, e⟩
  | dT kvs => obtain ⟨_, _, _, _, o, _, _, e, _⟩ := x; exact ⟨_, e⟩
  | set S n => obtain ⟨o, _, _, _, e, _⟩ := x; exact ⟨_, e⟩
  | ins C dx fs => obtain ⟨_, _, _, e, _⟩ := x; exact ⟨_, e⟩
  | own y => obtain ⟨_, e⟩ := x; exact ⟨_, e⟩
  | xd fs => obtain ⟨_, ⟨_, _, _, e, _⟩, _⟩ := x; exact ⟨_, e⟩
  | rng lo hi => obtain ⟨_, _, _, e⟩ := x; exact ⟨_, e⟩
  | frz ob u => obtain ⟨e, _⟩ := x; exact ⟨_, e⟩
  | tbl ps => exact ⟨_, (show h.get? a = some _ from x)⟩
  | met f y => exact ⟨_, (show h.get? a = some _ from x)⟩
  | ext φ => obtain ⟨_, ⟨_, e⟩, _⟩ := x; exact ⟨_, e⟩
theorem HOk.fly (x : HOk P w H h) (k : ∀ b u ob, H b = some u → h.get? b = some ob → h'.get? b = some ob) : HOk P w H h' := fun a o e =>
  (x a o e).stay (fun b u hb q => by
    rcases hb with rfl | hb
    · exact k _ _ _ e q
    · exact k _ _ _ hb q) (fun _ q => q) fun _ _ q => q
end

section
variable {fs : List Addr} {H H' : Hp} {h0 h h1 B h' : Heap}
theorem un_fly (u : Un fs [] H H' h0 h) (k : ∀ b o, h.get? b = some o → h1.get? b = some o) (up : h1.UpToSlots h') (st : B.StaysIn h')
    (inB : ∀ b o o', h0.get? b = some o → h.get? b = some o' → b ∉ fs → B.get? b = some o') (nf : ∀ b ∈ fs, ∀ o, h.get? b = some o → ∀ vs, o.data ≠ .fields vs) : Un fs [] H H' h0 h' where
  keep := fun b o q n hb hx => st _ _ (inB b o o q (u.keep b o q n hb hx) hb)
  slot := fun b o q n hb hx => by
    obtain ⟨sl, e⟩ := u.slot b o q n hb hx
    obtain ⟨sl', e'⟩ := up b _ (k _ _ e) (nf b hb _ e)
    exact ⟨sl', e'⟩
  free := u.free
  there := fun b o q hx => by
    obtain ⟨o', e⟩ := u.there b o q hx
    by_cases hb : b ∈ fs
    · obtain ⟨sl', e'⟩ := up b _ (k _ _ e) (nf b hb _ e)
      exact ⟨_, e'⟩
    · exact ⟨_, st _ _ (inB b o o' q e hb)⟩
  tups := u.tups
  frzs := u.frzs
  tbls := u.tbls
theorem Un.track {ex : List Addr} {a : Addr} {o : HO} (u : Un fs ex H H' h h') (hn : h.get? a = none) (hH : H' a = none) : Un fs ex H (upd H' a o) h h' where
  keep := u.keep
  slot := u.slot
  free := fun b ob q n hx => by rw [upd_ne (fun z => by subst z; rw [hn] at q; cases q)]; exact u.free b ob q n hx
  there := u.there
  tups := fun b xs q => by have := u.tups b xs q; rw [upd_ne (ne_of_none this hH)]; exact this
  frzs := fun b ob xs q => by have := u.frzs b ob xs q; rw [upd_ne (ne_of_none this hH)]; exact this
  tbls := fun b ps q => by
    obtain ⟨m, this⟩ := u.tbls b ps q
    exact ⟨m, by rw [upd_ne (ne_of_none this hH)]; exact this⟩
end

/-- how an exception of one's own lies behind a call -/
def CX1 (P : Program) (w : World) : CXT := fun outer H s E e s' => ∃ (ea C : Addr) (a0 : Value) (B : Heap) (H' : Hp), e = .ref ea ∧ s'.os = s.os ∧ AllBare s'.gens ∧ Un (frs outer) [] H H' s.heap s'.heap ∧ HOk P w H' s'.heap ∧
  Heap.FlyingW B outer ea (.ref C) a0 s'.heap ∧ (∀ b o, s.heap.get? b = some o → b ∉ frs outer → ∃ o', B.get? b = some o') ∧ (∀ b u, H' b = some u → ∃ o', B.get? b = some o') ∧ E (.ref C) none H'

section
variable {X : Cx} {pins : List (Addr × Obj)} {σ : L2.St} {H : Hp} {s : Shared} {E : XK} {E' : Value → Shared → Prop}
theorem Inv.frameNF (I : Inv X pins σ H s) : ∀ b ∈ frs X.stack, ∀ o, s.heap.get? b = some o → ∀ vs, o.data ≠ .fields vs := fun b hb o e => by
  obtain ⟨_, o', e', n⟩ := I.stack.mem hb
  rw [e] at e'; cases e'; exact n
theorem mem_frs {l : List Env} : ∀ env ∈ l, ∀ a, env.frame = some a → a ∈ frs l := fun env he a ha => List.mem_filterMap.mpr ⟨env, he, ha⟩
/-- an exception just made leaves the frame -/
theorem leave_made {ea C : Addr} {us : List Value} {h1 : Heap} (I : Inv X pins σ H s) (hst : X.stack = X.env :: X.outer) (hf : X.env.frame = some X.env.locals) (hex : X.ex = []) (hm : Heap.MadeExcOf s.heap h1 ea (.ref C) us) (hE : E (.ref C) none H) :
    wpAny (model X.prog X.w) X.A (leaving X.env (.ref ea)) (fun _ s'' => CX1 X.prog X.w X.outer X.H₀ X.s₀ E (.ref ea) s'') E' { s with heap := h1 } := by
  have hfr : X.A.frames = some (X.env :: X.outer) := by rw [I.ok.frames, hst]
  have hl := PySem.W.funFrames_hide (as := frs X.stack) I.stack (fun env he a ha => mem_frs env he a ha)
  rw [hst] at hl
  have hfr0 : ∀ b ∈ frs X.stack, b = X.env.locals ∨ b ∈ frs X.outer := fun b hb => by
    have := I.stkSub b hb
    exact List.mem_cons.mp this
  have inB : ∀ b o o', X.s₀.heap.get? b = some o → s.heap.get? b = some o' → b ∉ X.fs → (PySem.W.hideAll s.heap (frs X.stack)).get? b = some o' := fun b o o' q e hb =>
    PySem.W.hideAll_get _ e fun z => by
      rcases hfr0 b z with z | z
      · subst z
        exact absurd (Heap.lt_size q) (Nat.not_lt.mpr I.ok.above)
      · exact hb z
  have trB : ∀ b u, H b = some u → ∃ o', s.heap.get? b = some o' ∧ (PySem.W.hideAll s.heap (frs X.stack)).get? b = some o' := fun b u e => by
    obtain ⟨o', e'⟩ := ObjOk.ex (I.hok b u e)
    exact ⟨o', e', PySem.W.hideAll_get _ e' fun z => by rw [I.stkFree b z] at e; cases e⟩
  have eB : (PySem.W.hideAll s.heap (frs X.stack)).get? ea = none := by
    cases q : (PySem.W.hideAll s.heap (frs X.stack)).get? ea with
    | none => rfl
    | some o => have := PySem.W.of_hideAll _ q; rw [hm.new] at this; cases this
  have base : Un X.fs [] X.H₀ H X.s₀.heap s.heap := by have := I.base; rw [hex] at this; exact this
  refine wpAny_leaves_madeW (h := s.heap) (base := PySem.W.hideAll s.heap (frs X.stack)) hfr hf (fun b o q => PySem.W.of_hideAll _ q) (by rw [hst]; exact hl) hm fun h' t x1 x2 x3 x4 => ?_
  refine ⟨ea, C, .ref t, _, H, rfl, I.os, I.bare, un_fly base (fun b o q => hm.keeps b o q) x4 x1.1 inB (fun b hb o e => ?_), HOk.fly I.hok (fun b u ob e q => ?_), x1, fun b o q hb => ?_, fun b u e => ?_, hE⟩
  · have hb' : b ∈ frs X.stack := by rw [hst]; unfold frs; rw [List.filterMap_cons, hf]; exact List.mem_cons_of_mem _ hb
    exact Inv.frameNF I b hb' o e
  · obtain ⟨o', e1, e2⟩ := trB b u e
    rw [q] at e1; cases e1
    exact x1.1 _ _ e2
  · obtain ⟨o', e⟩ := base.there b o q (by simp)
    exact ⟨o', inB b o o' q e hb⟩
  · obtain ⟨o', _, e2⟩ := trB b u e
    exact ⟨o', e2⟩
/-- an exception that came out of a call leaves the frame -/
theorem leave_on {e : Value} {s' : Shared} (I : Inv X pins σ H s) (hst : X.stack = X.env :: X.outer) (hf : X.env.frame = some X.env.locals) (hex : X.ex = []) {E0 : XK} (hc : CX1 X.prog X.w X.stack H s E0 e s') (hE : ∀ C H', E0 (.ref C) none H' → E (.ref C) none H') :
    wpAny (model X.prog X.w) X.A (leaving X.env e) (fun _ s'' => CX1 X.prog X.w X.outer X.H₀ X.s₀ E e s'') E' s' := by
  obtain ⟨ea, C, a0, B, H', rfl, os, bare, un, hok, fl, hB, hT, q⟩ := hc
  have hfr : X.A.frames = some (X.env :: X.outer) := by rw [I.ok.frames, hst]
  have I' : Inv X pins σ H' s' := Inv.call' (ch := []) I os un hok bare (fun b z => absurd z (by simp))
  have base : Un X.fs [] X.H₀ H' X.s₀.heap s'.heap := by have := I'.base; rw [hex] at this; exact this
  have base0 : Un X.fs [] X.H₀ H X.s₀.heap s.heap := by have := I.base; rw [hex] at this; exact this
  have inS : ∀ b o, X.s₀.heap.get? b = some o → b ∉ X.fs → ∃ o', B.get? b = some o' := fun b o q0 hb => by
    obtain ⟨o', e⟩ := base0.there b o q0 (by simp)
    refine hB b o' e fun z => ?_
    rcases List.mem_cons.mp (I.stkSub b z) with z | z
    · subst z
      exact absurd (Heap.lt_size q0) (Nat.not_lt.mpr I.ok.above)
    · exact hb z
  have fl0 := fl
  rw [hst] at fl
  refine wpAny_leaves_onW hfr hf fl fun h' x1 x2 => ?_
  refine ⟨ea, C, a0, B, H', rfl, I'.os, I'.bare, un_fly base (fun b o q => q) x2 x1.1 (fun b o o' q0 e hb => ?_) (fun b hb o e => ?_), HOk.fly hok (fun b u ob e q => ?_), x1, inS, hT, hE C H' q⟩
  · obtain ⟨o2, e2⟩ := inS b o q0 hb
    have := fl0.1 _ _ e2
    rw [e] at this; cases this
    exact e2
  · have hb' : b ∈ frs X.stack := by rw [hst]; unfold frs; rw [List.filterMap_cons, hf]; exact List.mem_cons_of_mem _ hb
    exact Inv.frameNF I' b hb' o e
  · obtain ⟨o2, e2⟩ := hT b u e
    have := fl0.1 _ _ e2
    rw [q] at this; cases this
    exact x1.1 _ _ e2
end
end DL

set_option maxHeartbeats 4000000
namespace DL
open PySem L2 PyProof.Rows

section
variable {X : Cx} {pins : List (Addr × Obj)} {σ : L2.St} {H : Hp} {s : Shared} {E : XK} {E' : Value → Shared → Prop}
/-- the name of a caught exception goes -/
theorem goes_ok {M : Model} {A : Around} {j : Nat} {n : Str} {pos : Pos} {Q : Unit → Shared → Prop} (I : Inv X pins σ H s) (hN : X.N.Nodup) (hj : X.N[j]? = some n) (hk : X.env.scope.names.lookup n = some .local)
    (h : ∀ s', Inv X pins (σ.set j none) H s' → Q () s') : wpAny M A (do bindName X.env n .none; unbindBehindTheSuite X.env n pos) Q E' s := by
  obtain ⟨m, hn, hl⟩ := id I.loc
  have hcls : (X.env.scope.kind == .class || (X.env.scope.kind == .module && X.env.locals != X.env.globals)) = false := by rw [I.ok.kind]; rfl
  have cne := I.cne
  have tracked : ∀ {a : Addr} {h' : Heap}, (∃ o, s.heap.get? a = some o ∧ H a = none) → Heap.SameBut a s.heap h' → HOk X.prog X.w H h' := fun {a h'} ha hs b ob e => by
    obtain ⟨_, _, hfree⟩ := ha
    refine (I.hok b ob e).stay (fun c w' hc q => (hs.2 c ?_).trans q) (fun _ q => q) fun _ _ q => q
    rintro rfl
    rcases hc with rfl | hc
    · rw [hfree] at e; cases e
    · rw [hfree] at hc; cases hc
  refine wpAny_nameGoes_keeps hk hn hcls (fun h' v hn' hs => ?_)
  obtain ⟨oL, _, _, hoL, _⟩ := id hn
  refine h _ ⟨I.ok, I.os, I.bare, ⟨fun b o e n hb hx => ?_, fun b o e n hb hx => ?_, I.base.free, fun b o e hx => ?_, I.base.tups, I.base.frzs, I.base.tbls⟩, ⟨_, hn', fun i y v' e1 e2 e3 => ?_⟩, fun y c e => ?_, I.free, I.freeC, fun p hp => ?_, tracked ⟨oL, hoL, I.free⟩ hs, by simpa using I.len⟩
  · exact (hs.2 b (Nat.ne_of_lt (Nat.lt_of_lt_of_le (Heap.lt_size e) I.ok.above))).trans (I.base.keep b o e n hb hx)
  · obtain ⟨sl, e1⟩ := I.base.slot b o e n hb hx
    exact ⟨sl, (hs.2 b (Nat.ne_of_lt (Nat.lt_of_lt_of_le (Heap.lt_size e) I.ok.above))).trans e1⟩
  · obtain ⟨o', e1⟩ := I.base.there b o e hx
    exact ⟨o', (hs.2 b (Nat.ne_of_lt (Nat.lt_of_lt_of_le (Heap.lt_size e) I.ok.above))).trans e1⟩
  · by_cases hij : i = j
    · subst hij
      rw [List.getElem?_set_self (by have := List.getElem?_eq_some_iff.mp hj; rw [I.len]; exact this.1)] at e2
      cases e2
    · rw [List.getElem?_set_ne (Ne.symm hij)] at e2
      obtain ⟨u, r, q⟩ := hl i y v' e1 e2 e3
      refine ⟨u, r, ?_⟩
      have hyn : y ≠ n := fun z => hij (by subst z; exact nodup_ix hN e1 hj)
      rcases q with ⟨k, q⟩ | ⟨k, c, e, z⟩
      · exact .inl ⟨k, by show (if y = n then v else m y) = some u; rw [if_neg hyn]; exact q⟩
      · exact .inr ⟨k, c, e, z.sameBut hs (cne y c e)⟩
  · obtain ⟨w', z⟩ := I.cell y c e
    exact ⟨w', z.sameBut hs (cne y c e)⟩
  · obtain ⟨e, n, ne, nf, d⟩ := I.pin p hp
    exact ⟨(hs.2 p.1 ne).trans e, n, ne, nf, d⟩

/-- the context of an except suite -/
abbrev sui (X : Cx) (v : Value) (E' : Value → Shared → Prop) : Cx := { X with A := X.A.mark (some v), calm := false, xe := E' }
theorem Inv.sui {v : Value} (I : Inv X pins σ H s) : Inv (DL.sui X v E') pins σ H s :=
  ⟨⟨I.ok.mod, I.ok.kind, I.ok.glob, I.ok.blt, I.ok.above, I.ok.inj, I.ok.has, I.ok.cab, (fun h => nomatch h), I.ok.frames, I.ok.stk, I.ok.exf, I.ok.bs, I.ok.bsz, I.ok.noex, I.ok.exfs, I.ok.funs, I.ok.frf⟩, I.os, I.bare, I.base, I.loc, I.cell, I.free, I.freeC, I.pin, I.hok, I.len⟩
theorem Inv.unsui {v : Value} (ok : X.Ok) (I : Inv (DL.sui X v E') pins σ H s) : Inv X pins σ H s := ⟨ok, I.os, I.bare, I.base, I.loc, I.cell, I.free, I.freeC, I.pin, I.hok, I.len⟩

/-- an exception of a call is caught, and bound to a name -/
theorem caught {e : Value} {s₁ : Shared} {D : Ends} {FE : Addr} {i j : Nat} {n y xF : Str} {np np2 yp ap hp : Pos} (I : Inv X pins σ H s) (hst : X.stack = X.env :: X.outer) (hf : X.env.frame = some X.env.locals)
    (hgF : Gl X xF) (hdF : (xF == ("__debug__" : Str)) = false) (hmF : X.mg xF = some (.ref FE)) (hN : X.N.Nodup) (hi : X.N[i]? = some y) (hy : X.env.scope.names.lookup y = some .local) (hj : X.N[j]? = some n) (hn : X.env.scope.names.lookup n = some .local)
    (hd : (n == ("__debug__" : Str)) = false) (hcd : (n == ("__classdict__" : Str)) = false) (hij : i ≠ j)
    (hc : CX1 X.prog X.w X.stack H s (fun cls _ H2 => ∃ C, cls = .ref C ∧ PySem.W.exmOne X.K (.ref C) (.ref FE) = some true ∧ ∀ ea, H2 ea = none → D.nx (((σ.set j (some (.ref ea))).set i (some (.ref ea))).set j none) (upd H2 ea (ExcO ea C))) e s₁) :
    wpAny (model X.prog X.w) X.A (noteFrame e X.env) (fun _ s₂ => wpAny (model X.prog X.w) X.A (setFlight e none) (fun _ s₃ =>
      wpAny (model X.prog X.w) X.A (handleBy e X.env [.ExceptHandler (some (.Name xF np)) (some n) [.Assign [.Name y yp] (.Name n np2) ap] hp]) (SP X pins D) X.xe s₃) X.xe s₂) X.xe s₁ := by
  obtain ⟨ea, C, a0, B, H', rfl, os, bare, un, hok, fl, hB, hT, C', hC', hx, q⟩ := hc
  cases hC'
  have hfr : X.A.frames = some (X.env :: X.outer) := by rw [I.ok.frames, hst]
  have fl0 := fl
  rw [hst] at fl
  refine wpAny_looks_onW hfr hf fl fun h₄ held up₄ => ?_
  refine wpAny_landsW held fun h₅ fl₅ up₅ => ?_
  have eno : s.heap.get? ea = none := by
    cases z : s.heap.get? ea with
    | none => rfl
    | some o =>
      by_cases hb : ea ∈ frs X.stack
      · obtain ⟨_, o1, e1, n1⟩ := fl0.2.2.1.mem hb
        obtain ⟨oe, vs, e2, _, e3, _⟩ := fl0.first
        rw [e1] at e2; cases e2
        exact absurd e3 (n1 vs)
      · obtain ⟨o', e'⟩ := hB ea o z hb
        rw [fl0.2.1] at e'; cases e'
  have eH : H' ea = none := by
    cases z : H' ea with
    | none => rfl
    | some o =>
      obtain ⟨o', e'⟩ := hT ea o z
      rw [fl0.2.1] at e'; cases e'
  -- the state at each later heap
  have now : ∀ (h' : Heap) (g : Array GenState) (d : Drawn) (t : Nat) (os' : OsState), g = s₁.gens → os' = s₁.os → Heap.FlyingW B (X.env :: X.outer) ea (.ref C) a0 h' → s₁.heap.UpToSlots h' → Inv X pins σ (upd H' ea (ExcO ea C)) ⟨h', g, d, t, os'⟩ := fun h' g d t os' eg eo x1 x2 => by
    have u1 : Un (frs X.stack) [] H H' s.heap h' := un_fly un (fun b o q => q) x2 x1.1 (fun b o o' q0 e hb => by
        obtain ⟨o2, e2⟩ := hB b o q0 hb
        have := fl0.1 _ _ e2
        rw [e] at this; cases this
        exact e2) (fun b hb o e => by
        obtain ⟨_, o1, e1, n1⟩ := fl0.2.2.1.mem hb
        rw [e1] at e; cases e; exact n1)
    have hok' : HOk X.prog X.w H' h' := HOk.fly hok fun b u ob e q => by
      obtain ⟨o2, e2⟩ := hT b u e
      have := fl0.1 _ _ e2
      rw [q] at this; cases this
      exact x1.1 _ _ e2
    have hok2 : HOk X.prog X.w (upd H' ea (ExcO ea C)) h' := fun b u e => by
      by_cases hb : b = ea
      · subst hb
        rw [upd_same] at e
        cases e
        obtain ⟨oe, vs, e2, c2, e3, _⟩ := x1.first
        exact ⟨⟨oe, vs, e2, c2, e3⟩, ⟨oe, e2⟩, fun h1 h2 ⟨o, vs, p1, p2, p3⟩ k => ⟨o, vs, k _ p1, p2, p3⟩⟩
      · rw [upd_ne hb] at e
        refine (hok' b u e).stay (fun c v hc r => r) (fun c r => ?_) (fun c xs r => ?_)
        · rw [upd_ne (ne_of_none r eH)]; exact r
        · rw [upd_ne (ne_of_none r eH)]; exact r
    subst eg
    refine Inv.call' (ch := []) (s' := ⟨h', s₁.gens, d, t, os'⟩) I (eo.trans os) (Un.track u1 eno eH) hok2 bare (fun b z => absurd z (by simp))
  have J₅ := fun d t => now h₅ s₁.gens d t s₁.os rfl rfl fl₅ (up₄.trans up₅)
  have LT : PySem.W.Looks (model X.prog X.w) h₅ (typeOf (.ref ea)) (.ref C) := by
    obtain ⟨oe, e1, e2⟩ := fl₅.there
    exact e2 ▸ (PySem.W.Looks.ld e1).andThen .now
  refine wpAny_handleBy_cons (codeAny_handlers_test ?_) (by intro z; cases z)
  have J5 := J₅ s₁.drawn s₁.toks
  refine ld_glob (X := DL.sui X (.ref ea) X.xe) (pins := pins) (σ := σ) (H := upd H' ea (ExcO ea C)) (Inv.sui J5) hgF hmF ?_ hdF
  refine (PySem.W.exm_one J5.kIn LT hx).at ?_
  show codeAny _ _ _ _ _
  refine codeAny_handlers_suite_as ?_
  refine lands_againW fl₅ fun h₆ fl₆ up₆ => ?_
  have J6 := now h₆ s₁.gens s₁.drawn s₁.toks s₁.os rfl rfl fl₆ ((up₄.trans up₅).trans up₆)
  refine store_ok (v := .ref ea) J6 hN hj (.inl hn) rfl (fun s₇ J7 => ?_) (.inr hn)
  have hjl : j < σ.length := by have := List.getElem?_eq_some_iff.mp hj; rw [I.len]; exact this.1
  refine wpAny_mono (pss_cons (ps_set (X := DL.sui X (.ref ea) _) hN hi (.inl hy) (pe_var hj (.inl hn) hd hcd) rfl (.inr hy)) pss_nil pins s₇ (σ.set j (some (.ref ea))) (upd H' ea (ExcO ea C)) ⟨fun σ' H' => D.nx (σ'.set j none) H', fun _ _ => False, fun _ _ => False, fun _ _ => False⟩ (Inv.sui J7) ?_) (fun fl₉ s₉ hq => ?_) (fun _ _ z => z)
  · refine ⟨.ref ea, by rw [List.getElem?_set_self hjl], ?_⟩
    exact q ea eH
  · cases fl₉ with
    | next =>
      obtain ⟨σ', H9, J9, q9⟩ := hq
      exact goes_ok (Inv.unsui I.ok J9) hN hj hn fun s' I' => ⟨_, _, I', q9⟩
    | brk => obtain ⟨_, _, _, z⟩ := hq; exact z.elim
    | cont => obtain ⟨_, _, _, z⟩ := hq; exact z.elim
    | ret u => obtain ⟨_, _, _, _, _, z⟩ := hq; exact z.elim
end
end DL

set_option maxHeartbeats 4000000
namespace DL
open PySem L2 PyProof.Rows

abbrev xNames : List Str := ["FitError", "NoNumber", "NoShape", "NoSize"]
def subX (x y : Str) : Bool := decide (x = y) || decide (y = ("FitError" : Str)) || decide (y = ("ValueError" : Str))
/-- the classes of the program's exceptions -/
structure XFacts (K : PySem.W.Frag) (mg : Str → Option Value) : Prop where
  ve : mg "ValueError" = none
  cl : ∀ y ∈ xNames, ∃ C, PySem.W.nsIn K mainGlobals y = some (some (.ref C)) ∧ mg y = some (.ref C) ∧ XCls K C
  sub : ∀ x ∈ xNames, ∀ y ∈ xNames, ∀ C C', PySem.W.nsIn K mainGlobals x = some (some (.ref C)) → PySem.W.nsIn K mainGlobals y = some (some (.ref C')) → PySem.W.kitOne K (.ref C) (.ref C') = some (subX x y)
  subV : ∀ x ∈ xNames, ∀ C, PySem.W.nsIn K mainGlobals x = some (some (.ref C)) → PySem.W.kitOne K (.ref C) (.type "ValueError") = some true
  exm : ∀ x ∈ xNames, ∀ C C', PySem.W.nsIn K mainGlobals x = some (some (.ref C)) → PySem.W.nsIn K mainGlobals "FitError" = some (some (.ref C')) → PySem.W.exmOne K (.ref C) (.ref C') = some true

/-- a def's promise to raise -/
def spR (K : PySem.W.Frag) (n : Nat) (φ : List D → Option W) : Sp := fun vs H Q E => ∃ F ds x C, Same F H ∧ DenL K F ds vs ∧ ds.length = n ∧ φ ds = some (.val (.exc x)) ∧ PySem.W.nsIn K mainGlobals x = some (some (.ref C)) ∧
  ∀ H' F', Same H H' → Same F F' → Same F' H' → (∀ a o, F' a = some o → F a = some o ∨ H a = none) → E (.ref C) none H'
def CalleeR (X : Cx) (x : Str) (n : Nat) (φ : List D → Option W) : Prop := ∃ (k : Nat) (f : Addr) (fd : FuncData) (ps : List Str),
  FnOk X.prog X.w X.K X.mg X.base (CX1 X.prog X.w) k f fd ps (spR X.K n φ) ∧ Room k X.A ∧ X.mg x = some (.ref f) ∧ PySem.W.keepIn X.K (.ref f) = true ∧ Binds X.K fd ps []

section
variable {X : Cx} {pins : List (Addr × Obj)} {σ : L2.St} {H : Hp} {s : Shared} {E' : Value → Shared → Prop} {e : Expr} {es : List Expr} {pos : Pos}
/-- a call that may raise -/
theorem callR {CX : CXT} {k : Nat} {f : Addr} {fd : FuncData} {ps : List Str} {sp : Sp} {x : Str} {p : Pos} {t : TA} {Q : VK} (F : FnOk X.prog X.w X.K X.mg X.base CX k f fd ps sp) (hr : Room k X.A) (hg : Gl X x) (hm : X.mg x = some (.ref f)) (hk : PySem.W.keepIn X.K (.ref f) = true) (hb : Binds X.K fd ps [])
    (ha : PA X.nox (e :: es) t) (hdb : (x == ("__debug__" : Str)) = false) (he : starEach (e :: es) X.env = (false, eval e X.env) :: starEach es X.env) (hpl : (backTo pos (starEach es X.env)).any (·.1) = false)
    (I : Inv X pins σ H s) {EE : XK} (h : t σ H fun vs H1 => sp vs H1 Q EE) (hx : ∀ H1 s1 e s', Inv X pins σ H1 s1 → CX X.stack H1 s1 EE e s' → E' e s') :
    wpAny (model X.prog X.w) X.A (eval (.Call (.Name x p) (e :: es) [] pos) X.env) (EP X pins σ Q) E' s := by
  refine wpAny_Call_Name_kw (ld_glob I hg hm ?_ hdb)
  refine PySem.W.callWith_K (h₀ := X.base) I.ok.mod.kin hk (wpAny_mono (ha pos pins s σ H _ (I.wish _) h) (fun us s1 ⟨vs, H1, I1, r, q⟩ => ⟨I1.kIn, ?_⟩) fun _ _ z => z.elim) he hpl
  have I1' : Inv X pins σ H1 s1 := I1.unwish
  have hl : us.length = ps.length := by rw [← r.length]; exact F.len _ _ _ _ q
  refine wpAny_call (codeAny_mono (F.run X.A X.stack s1 H1 ⟨us, []⟩ us vs Q EE hr I1'.env0 (by have := hb s1 us I1'.kIn (by rw [List.append_nil]; exact hl); rw [List.append_nil] at this; exact this) r q) fun r s' hq => ?_)
  cases r with
  | error e => exact hx H1 s1 e s' I1' hq
  | ok fl =>
    cases fl with
    | ret u => exact I1'.after hq
    | next => exact False.elim hq
    | brk => exact False.elim hq
    | cont => exact False.elim hq
end

section
variable {X : Cx} {e : Expr} {es : List Expr} {ρ : RhoS} {pos : Pos} {ds : List D}
theorem SR.exc {K : PySem.W.Frag} {H0 Fc F H : Hp} {σ : L2.St} (S : SR K H0 Fc F H σ ρ) {ea C : Addr} {x : Str} {i j : Nat} (hn : H ea = none) (hx : PySem.W.nsIn K mainGlobals x = some (some (.ref C))) (hi : i < ρ.length) (hij : i ≠ j) :
    SR K H0 Fc (upd F ea (ExcO ea C)) (upd H ea (ExcO ea C)) (((σ.set j (some (.ref ea))).set i (some (.ref ea))).set j none) ((ρ.set j none).set i (some (.sh (.exc x)))) ∧ Same F (upd F ea (ExcO ea C)) := by
  obtain ⟨S1, s1⟩ := S.lay (ExcO ea C) hn
  refine ⟨?_, s1⟩
  have S2 : SR K H0 Fc (upd F ea (ExcO ea C)) (upd H ea (ExcO ea C)) ((σ.set j (some (.ref ea))).set j none) (ρ.set j none) := by
    have z : ∀ {m : Nat} {b : B}, (ρ.set j none)[m]? = some (some b) → m ≠ j ∧ ρ[m]? = some (some b) := fun {m b} q => by
      by_cases hm : m = j
      · subst hm
        by_cases hl : m < ρ.length
        · rw [List.getElem?_set_self hl] at q; cases q
        · rw [List.getElem?_eq_none (by rw [List.length_set]; omega)] at q; cases q
      · rw [List.getElem?_set_ne (Ne.symm hm)] at q; exact ⟨hm, q⟩
    have y : ∀ {m : Nat}, m ≠ j → ((σ.set j (some (.ref ea))).set j none)[m]? = σ[m]? := fun hm => by
      rw [List.getElem?_set_ne (Ne.symm hm), List.getElem?_set_ne (Ne.symm hm)]
    refine ⟨S1.sub, S1.same, S1.base, S1.new, fun m d q => ?_, fun m l q => ?_, fun m m' l l' a q1 q2 q3 q4 => ?_, by simpa using S1.len⟩
    · obtain ⟨h1, h2⟩ := z q
      rw [y h1]; exact S1.env m d h2
    · obtain ⟨h1, h2⟩ := z q
      rw [y h1]; exact S1.own m l h2
    · obtain ⟨h1, h2⟩ := z q1
      obtain ⟨h3, h4⟩ := z q2
      rw [y h1] at q3
      rw [y h3] at q4
      exact S1.dis m m' l l' a h2 h4 q3 q4
  have S3 := S2.bindS (i := i) (d := .exc x) (v := .ref ea) (by simp only [Den]; exact ⟨ea, C, rfl, hx, upd_same⟩) (by rw [List.length_set]; exact hi)
  have e1 : ((σ.set j (some (V.ref ea))).set i (some (V.ref ea))).set j none = ((σ.set j (some (V.ref ea))).set j none).set i (some (V.ref ea)) := by
    rw [List.set_comm _ _ hij]
  rw [e1]
  exact S3
/-- try: f(..) / except FitError as n: y = n, where f raises -/
theorem DS.tryR {x y n xF : Str} {p np np2 yp ap hp ep tp : Pos} {k : Nat} {φ : List D → Option W} {z : Str} {i j : Nat} (hst : X.stack = X.env :: X.outer) (hf : X.env.frame = some X.env.locals) (XF : XFacts X.K X.mg)
    (hc : CalleeR X x k φ) (hg : Gl X x) (hdb : (x == ("__debug__" : Str)) = false) (ha : DA X.nox (e :: es) (view ρ) ds) (hk : ds.length = k) (hw : φ ds = some (.val (.exc z))) (hz : z ∈ xNames) (hs : notStar e = true) (hss : es.all notStar = true)
    (hxF : xF = "FitError") (hgF : Gl X xF) (hN : X.N.Nodup) (hi : X.N[i]? = some y) (hy : X.env.scope.names.lookup y = some .local) (hj : X.N[j]? = some n) (hn : X.env.scope.names.lookup n = some .local) (hd : (n == ("__debug__" : Str)) = false) (hcd : (n == ("__classdict__" : Str)) = false) (hij : i ≠ j) (hil : i < ρ.length) :
    DS X (.Try [.Expr (.Call (.Name x p) (e :: es) [] pos) ep] [.ExceptHandler (some (.Name xF np)) (some n) [.Assign [.Name y yp] (.Name n np2) ap] hp] [] [] tp) ρ (.nx (((frz ρ).set j none).set i (some (.sh (.exc z))))) := fun H0 Fc pins s σ H D I ⟨F, S, kk⟩ => by
  subst hxF
  obtain ⟨k0, f, fd, ps, G, hr, hm, hkp, hb⟩ := hc
  obtain ⟨FE, hFE, hmF, _⟩ := XF.cl "FitError" (by decide)
  refine wpAny_Try_except (wpAny_execs_cons (wpAny_Expr_any (wpAny_mono (callR (Q := fun _ _ => False) (EE := fun cls _ H2 => ∃ C, cls = .ref C ∧ PySem.W.exmOne X.K (.ref C) (.ref FE) = some true ∧ ∀ ea, H2 ea = none → D.nx (((σ.set j (some (.ref ea))).set i (some (.ref ea))).set j none) (upd H2 ea (ExcO ea C))) G hr hg hm hkp hb (ha H0 Fc) hdb (star_cons hs) (star_none hss) I ?_ fun H1 s1 e s' I1 hq => caught I1 hst hf hgF (by decide) hmF hN hi hy hj hn hd hcd hij hq) (fun v s1 ⟨x, H1, I1, r1, q1⟩ => q1.elim) fun _ _ z => z) I.quiet rfl))
  obtain ⟨s0, R⟩ := S.borrow
  refine ⟨_, R, fun vs H1 F1 s1 R1 q1 => ?_⟩
  obtain ⟨C, hC, _, _⟩ := XF.cl z hz
  refine ⟨F1, ds, z, C, R1.sub, q1, hk, hw, hC, fun H' F' a1 a2 a3 a4 => ⟨C, rfl, XF.exm z hz C FE hC hFE, fun ea hea => ?_⟩⟩
  have R2 := R1.called a1 a2 a3 a4
  obtain ⟨s3, S3⟩ := S.freeze (s1.trans a2) R2
  obtain ⟨S4, s4⟩ := SR.exc (i := i) (j := j) (x := z) S3 hea hC (by unfold frz; rw [List.length_map]; exact hil) hij
  exact kk _ _ _ (s3.trans s4) S4
/-- .. where it doesn't -/
theorem DS.tryN {w : W} {x : Str} {p ep tp : Pos} {h₀ : ExceptHandler} {hs : List ExceptHandler} (he : DE X.nox (.Call (.Name x p) (e :: es) [] pos) (view ρ) w) : DS X (.Try [.Expr (.Call (.Name x p) (e :: es) [] pos) ep] (h₀ :: hs) [] [] tp) ρ (.nx (frz ρ)) := fun H0 Fc pins s σ H D I ⟨F, S, kk⟩ => by
  obtain ⟨s0, R⟩ := S.borrow
  refine wpAny_Try_except (wpAny_execs_cons (wpAny_Expr_any (wpAny_mono (he H0 Fc pins s σ H (fun v H1 => D.nx σ H1) (I.wish _) ⟨_, R, fun v H1 F1 s1 R1 q1 => ?_⟩) (fun v s1 ⟨x, H1, I1, r1, q1⟩ => wpAny_execs_nil (wpAny_execs_nil ⟨σ, H1, I1.unwish, q1⟩)) fun _ _ z => z.elim) I.quiet rfl))
  obtain ⟨s3, S3⟩ := S.freeze s1 R1
  exact kk _ _ _ s3 S3
end
end DL

set_option maxHeartbeats 4000000
namespace DL
open PySem L2 PyProof.Rows

/-- isinstance of the program's exceptions -/
def isX (ys : List Str) : D → Option Bool
  | .exc x => if x ∈ xNames then some (ys.any (subX x)) else none
  | .non => some false
  | _ => none
/-- the classes as values -/
def clsV (K : PySem.W.Frag) (y : Str) (v : V) : Prop := (∃ C, v = .ref C ∧ y ∈ xNames ∧ PySem.W.nsIn K mainGlobals y = some (some (.ref C))) ∨ (v = .ty "ValueError" ∧ y = "ValueError")
section
variable {X : Cx} {a e : Expr} {ρ : Rho} {pos : Pos}
theorem pe_cls (XF : XFacts X.K X.mg) {y : Str} {p : Pos} (hy : y ∈ xNames ∨ y = "ValueError") (hg : Gl X y) : ∃ v, clsV X.K y v ∧ PE X (.Name y p) (tC v) := by
  rcases hy with hy | hy
  · obtain ⟨C, h1, h2, _⟩ := XF.cl y hy
    refine ⟨.ref C, .inl ⟨C, rfl, hy, h1⟩, pe_glob hg h2 rfl ?_⟩
    simp only [xNames, List.mem_cons, List.not_mem_nil, or_false] at hy
    rcases hy with rfl | rfl | rfl | rfl <;> decide
  · subst hy
    exact ⟨.ty "ValueError", .inr ⟨rfl, rfl⟩, pe_bltn hg XF.ve PyProof.Rows.Boot.«ValueError» rfl⟩
theorem kit_of {K : PySem.W.Frag} {mg : Str → Option Value} (XF : XFacts K mg) {x y : Str} {C : Addr} {v : V} {u : Value} (hx : x ∈ xNames) (hC : PySem.W.nsIn K mainGlobals x = some (some (.ref C))) (hv : clsV K y v) (r : RelV v u) : PySem.W.kitOne K (.ref C) u = some (subX x y) := by
  rcases hv with ⟨C', rfl, hy, h⟩ | ⟨rfl, rfl⟩
  · cases (show u = Value.ref C' from r)
    exact XF.sub x hx y hy C C' hC h
  · cases (show u = Value.type "ValueError" from r)
    rw [XF.subV x hx C hC]
    unfold subX
    simp
theorem kit_none {K : PySem.W.Frag} {mg : Str → Option Value} (XF : XFacts K mg) {y : Str} {v : V} {u : Value} (hv : clsV K y v) (r : RelV v u) : PySem.W.kitOne K (.type "NoneType") u = some false := by
  rcases hv with ⟨C', rfl, hy, h⟩ | ⟨rfl, rfl⟩
  · cases (show u = Value.ref C' from r)
    obtain ⟨C, h1, _, Z⟩ := XF.cl y hy
    rw [h] at h1
    cases h1
    have c := Z.cls
    unfold PySem.W.isClsIn at c
    unfold PySem.W.kitOne PySem.W.kitCls
    rw [if_neg (by simp)]
    simp only
    rw [Z.typ, c, if_pos (by decide)]
    show (PySem.fastBuiltinMro "NoneType").map (·.contains (.ref C')) = some false
    rw [show PySem.fastBuiltinMro "NoneType" = some [.type "NoneType", .type "object"] from by kernel_rfl]
    rfl
  · cases (show u = Value.type "ValueError" from r)
    kernel_rfl
theorem isx_ok {pins : List (Addr × Obj)} {σ : L2.St} {F H : Hp} {s : Shared} {A : Around} {E : Value → Shared → Prop} {Q : Value → Shared → Prop} {d : D} {v v2 : V} {u u2 : Value} {y : Str} {b : Bool} (XF : XFacts X.K X.mg) (I : Inv X pins σ H s) (sF : Same F H) (h : Den X.K F d v) (r : RelV v u)
    (hv : clsV X.K y v2) (r2 : RelV v2 u2) (hb : isX [y] d = some b) (q : ∀ tk, Q (.bool b) { s with toks := tk }) : wpAny (model X.prog X.w) A (call (.builtin "isinstance") [u, u2]) Q E s := by
  cases d with
  | non =>
    rw [h.non] at r
    cases (show u = Value.none from r)
    cases hb
    exact PySem.W.kia_one PySem.W.kitx_none I.kIn True.intro (kit_none XF hv r2) (fun z => nomatch z) q
  | exc x =>
    simp only [isX] at hb
    by_cases hx : x ∈ xNames
    · rw [if_pos hx] at hb
      cases hb
      obtain ⟨a, C, e, hC, hF⟩ := h.exc
      subst e
      cases (show u = Value.ref a from r)
      obtain ⟨C', h1, _, Z⟩ := XF.cl x hx
      rw [hC] at h1
      cases h1
      have hk := kit_of XF hx hC hv r2
      obtain ⟨p, _⟩ := I.hok a _ (sF _ _ hF)
      refine PySem.W.kia_one (kitx_exc Z) I.kIn p hk (fun z => nomatch z) ?_
      simpa using q
    · rw [if_neg hx] at hb; cases hb
  | bl b => cases hb
  | int i => cases hb
  | tup l => cases hb
  | lst l => cases hb
theorem isx2_ok {pins : List (Addr × Obj)} {σ : L2.St} {F H : Hp} {s : Shared} {A : Around} {E : Value → Shared → Prop} {Q : Value → Shared → Prop} {d : D} {v v2 v3 : V} {u : Value} {p : Addr} {y z : Str} {b : Bool} (XF : XFacts X.K X.mg) (I : Inv X pins σ H s) (sF : Same F H) (h : Den X.K F d v) (r : RelV v u)
    (hv : clsV X.K y v2) (hw : clsV X.K z v3) (hp : H p = some (.tup [v2, v3])) (hb : isX [y, z] d = some b) (q : ∀ tk, Q (.bool b) { s with toks := tk }) : wpAny (model X.prog X.w) A (call (.builtin "isinstance") [u, .ref p]) Q E s := by
  obtain ⟨its, rs, ⟨o, h1, h2, n, h3⟩, _⟩ := I.tuple (SqT.of hp)
  obtain ⟨u2, u3, e, r2, r3⟩ := vals2 rs
  subst e
  obtain ⟨oc, od, odata, osl⟩ := o
  cases h2
  cases h3
  cases d with
  | non =>
    rw [h.non] at r
    cases (show u = Value.none from r)
    cases hb
    refine PySem.W.kia_tup PySem.W.kitx_none I.kIn True.intro h1 (b := false) ?_ (fun z => nomatch z) q
    simp only [PySem.W.kitAny, kit_none XF hv r2, kit_none XF hw r3]
  | exc x =>
    simp only [isX] at hb
    by_cases hx : x ∈ xNames
    · rw [if_pos hx] at hb
      cases hb
      obtain ⟨a, C, e, hC, hF⟩ := h.exc
      subst e
      cases (show u = Value.ref a from r)
      obtain ⟨C', e1, _, Z⟩ := XF.cl x hx
      rw [hC] at e1
      cases e1
      obtain ⟨pp, _⟩ := I.hok a _ (sF _ _ hF)
      refine PySem.W.kia_tup (kitx_exc Z) I.kIn pp h1 (b := ([y, z].any (subX x))) ?_ (fun z => nomatch z) q
      simp only [PySem.W.kitAny, kit_of XF hx hC hv r2, kit_of XF hx hC hw r3, List.any_cons, List.any_nil, Bool.or_false]
      cases subX x y <;> cases subX x z <;> rfl
    · rw [if_neg hx] at hb; cases hb
  | bl b => cases hb
  | int i => cases hb
  | tup l => cases hb
  | lst l => cases hb
theorem boot_isi : bootBuiltins "isinstance" = some (.builtin "isinstance") := by decide +kernel
theorem DE.isX1 {y : Str} {d : D} {b : Bool} {p p2 : Pos} (XF : XFacts X.K X.mg) (ha : DF X a ρ d) (hs : notStar a = true) (hg : Gl X "isinstance") (hm : X.mg "isinstance" = none) (hy : y ∈ xNames ∨ y = "ValueError") (hgy : Gl X y) (hb : isX [y] d = some b) :
    DE X (.Call (.Name "isinstance" p) [a, .Name y p2] [] pos) ρ (.val (.bl b)) := fun H0 Fc => by
  obtain ⟨v, hv, pt⟩ := pe_cls (p := p2) XF hy hgy
  have cr : CallR X (.builtin "isinstance") (fun vs H Q => ∃ F v1, vs = [v1, v] ∧ Same F H ∧ Den X.K F d v1 ∧ Q (.bl b) H) := by
    intro pins s σ H xs us Q I r ⟨F, v1, e, sF, h, q⟩
    subst e
    obtain ⟨u, u', e, r1, r2⟩ := vals2 r
    subst e
    exact isx_ok XF I sF h r1 hv r2 hb fun tk => ⟨.bl _, H, I.tok tk, rfl, q⟩
  refine PE.mono (pe_callB cr hg hm boot_isi (pa_cons (ha H0 Fc) (pa_cons pt pa_nil) (star_cons hs)) (by decide) (by decide) (star_cons hs) rfl) fun σ H Q ⟨F, R, k⟩ => ?_
  exact ⟨F, R, fun v H1 F1 s1 R1 q1 => ⟨F1, v, rfl, R1.sub, q1, k _ H1 F1 s1 R1 RW.bl⟩⟩
theorem DE.isX2 {y z : Str} {d : D} {b : Bool} {p p2 p3 p4 : Pos} {x1} (XF : XFacts X.K X.mg) (ha : DF X a ρ d) (hs : notStar a = true) (hg : Gl X "isinstance") (hm : X.mg "isinstance" = none) (hy : y ∈ xNames ∨ y = "ValueError") (hgy : Gl X y) (hz : z ∈ xNames ∨ z = "ValueError") (hgz : Gl X z) (hb : isX [y, z] d = some b) :
    DE X (.Call (.Name "isinstance" p) [a, .Tuple [.Name y p2, .Name z p3] x1 p4] [] pos) ρ (.val (.bl b)) := fun H0 Fc => by
  obtain ⟨v, hv, pt⟩ := pe_cls (p := p2) XF hy hgy
  obtain ⟨w, hw, pt2⟩ := pe_cls (p := p3) XF hz hgz
  have cr : CallR X (.builtin "isinstance") (fun vs H Q => ∃ F v1 q, vs = [v1, .ref q] ∧ H q = some (.tup [v, w]) ∧ Same F H ∧ Den X.K F d v1 ∧ Q (.bl b) H) := by
    intro pins s σ H xs us Q I r ⟨F, v1, q0, e, hq0, sF, h, q⟩
    subst e
    obtain ⟨u, u', e, r1, r2⟩ := vals2 r
    subst e
    cases (show u' = Value.ref q0 from r2)
    exact isx2_ok XF I sF h r1 hv hw hq0 hb fun tk => ⟨.bl _, H, I.tok tk, rfl, q⟩
  refine PE.mono (pe_callB cr hg hm boot_isi (pa_cons (ha H0 Fc) (pa_cons (pe_tup (pa_cons pt (pa_cons pt2 pa_nil))) pa_nil) (star_cons hs)) (by decide) (by decide) (star_cons hs) rfl) fun σ H Q ⟨F, R, k⟩ => ?_
  refine ⟨F, R, fun v1 H1 F1 s1 R1 q1 => ⟨by show 2 ≤ sizeLine; decide, fun q hq => ?_⟩⟩
  obtain ⟨R2, hF, h0⟩ := R1.put (.tup [v, w]) hq
  exact ⟨F1, v1, q, rfl, upd_same, R2.sub, q1, k _ _ F1 s1 R2 RW.bl⟩
end
end DL

set_option maxHeartbeats 4000000
namespace DL
open PySem L2 PyProof.Rows

abbrev mroV : List Value := [.type "ValueError", .type "Exception", .type "BaseException", .type "object"]
def strB (es : Array DictEntry) : Bool := es.toList.all fun e => match e.key with
  | .str _ _ => true
  | _ => false
def hasB (es : Array DictEntry) (n : Str) : Bool := (es.toList.find? fun e => e.key.isStr n).isSome
theorem ns_of {h : Heap} {N : Addr} {c : Value} {d : Option Addr} {es : Array DictEntry} {ep : Nat} {sl : Array (Option Value)} (e : h.get? N = some ⟨c, d, .dict es ep, sl⟩) (k : strB es = true) : h.Ns N (nsFind es) :=
  ⟨_, es, ep, e, rfl, fun en hen => by
    have := List.all_eq_true.mp k en (by simpa using hen)
    revert this
    cases en.key <;> first | (intro _; exact ⟨_, _, rfl⟩) | (intro z; cases z), fun _ => rfl⟩
theorem no_of {es : Array DictEntry} {n : Str} (h : hasB es n = false) : nsFind es n = none := by
  unfold hasB at h
  unfold nsFind findBy
  rw [← Array.find?_toList]
  cases q : es.toList.find? fun e => e.key.isStr n with
  | none => rfl
  | some e => rw [q] at h; cases h
/-- a class of the program's own that is raised -/
def RFacts (K : PySem.W.Frag) (y : Str) : Prop := ∃ (C F N : Addr) (nm q : Str) (bs : List Value) (hdct : Bool) (sn : List Str) (sub : List Value) (ab : Bool) (col : Option Bool) (dd : Option Addr) (k0 k1 k2 k3 k5 : Option Value)
  (c1 : Value) (d1 : Option Addr) (es1 : Array DictEntry) (ep1 : Nat) (sl1 : Array (Option Value)) (c0 : Value) (d0 : Option Addr) (cd : ClassData) (sl : Array (Option Value)) (c2 : Value) (d2 : Option Addr) (es2 : Array DictEntry) (ep2 : Nat) (sl2 : Array (Option Value)),
  PySem.W.nsIn K mainGlobals y = some (some (.ref C)) ∧ K.lookup C = some (excClassObj nm q C N bs (.ref F :: mroV) hdct sn sub ab col dd k0 k1 k2 k3 k5 "ValueError.__new__") ∧ K.lookup N = some ⟨c1, d1, .dict es1 ep1, sl1⟩ ∧ strB es1 = true ∧ hasB es1 "__init__" = false ∧
  K.lookup F = some ⟨c0, d0, .cls cd, sl⟩ ∧ K.lookup cd.ns = some ⟨c2, d2, .dict es2 ep2, sl2⟩ ∧ strB es2 = true ∧ hasB es2 "__init__" = false
theorem rf_mk {K : PySem.W.Frag} {y : Str} {C F N : Addr} {nm q : Str} {bs : List Value} {hdct : Bool} {sn : List Str} {sub : List Value} {ab : Bool} {col : Option Bool} {dd : Option Addr} {k0 k1 k2 k3 k5 : Option Value}
    {c1 : Value} {d1 : Option Addr} {es1 : Array DictEntry} {ep1 : Nat} {sl1 : Array (Option Value)} {c0 : Value} {d0 : Option Addr} {cd : ClassData} {sl : Array (Option Value)} {c2 : Value} {d2 : Option Addr} {es2 : Array DictEntry} {ep2 : Nat} {sl2 : Array (Option Value)}
    (a1 : PySem.W.nsIn K mainGlobals y = some (some (.ref C))) (a2 : K.lookup C = some (excClassObj nm q C N bs (.ref F :: mroV) hdct sn sub ab col dd k0 k1 k2 k3 k5 "ValueError.__new__")) (a3 : K.lookup N = some ⟨c1, d1, .dict es1 ep1, sl1⟩) (a4 : strB es1 = true) (a5 : hasB es1 "__init__" = false)
    (a6 : K.lookup F = some ⟨c0, d0, .cls cd, sl⟩) (a7 : K.lookup cd.ns = some ⟨c2, d2, .dict es2 ep2, sl2⟩) (a8 : strB es2 = true) (a9 : hasB es2 "__init__" = false) : RFacts K y :=
  ⟨C, F, N, nm, q, bs, hdct, sn, sub, ab, col, dd, k0, k1, k2, k3, k5, c1, d1, es1, ep1, sl1, c0, d0, cd, sl, c2, d2, es2, ep2, sl2, a1, a2, a3, a4, a5, a6, a7, a8, a9⟩

section
variable {X : Cx} {pins : List (Addr × Obj)} {σ : L2.St} {H : Hp} {s : Shared}
/-- raise C("..") -/
theorem raise_ok {y : Str} {C : Addr} {np cpos cp pos : Pos} {m : Str} {j : Nat} {Q : Flow → Shared → Prop} (R : RFacts X.K y) (hC : PySem.W.nsIn X.K mainGlobals y = some (some (.ref C))) (hmy : X.mg y = some (.ref C)) (hg : Gl X y) (hdy : (y == ("__debug__" : Str)) = false) (hcalm : X.calm = true) (I : Inv X pins σ H s)
    (h : ∀ h1 ea us s2, Inv X pins σ H s2 → Heap.MadeExcOf s2.heap h1 ea (.ref C) us → X.xe (.ref ea) { s2 with heap := h1 }) :
    wpAny (model X.prog X.w) X.A (exec (.Raise (some (.Call (.Name y np) [.Constant (.str m) j cp] [] cpos)) none pos) X.env) Q X.xe s := by
  obtain ⟨C', Fa, N, nm, q, bs, hdct, sn, sub, ab, col, dd, k0, k1, k2, k3, k5, c1, d1, es1, ep1, sl1, c0, d0, cd, sl, c2, d2, es2, ep2, sl2, a1, a2, a3, a4, a5, a6, a7, a8, a9⟩ := R
  rw [hC] at a1
  cases a1
  refine wpAny_Raise_call_subT (C := C) (nm := nm) (q := q) (N := N) (bs := bs) (bm := .ref Fa :: mroV) (hdct := hdct) (sn := sn) (sub := sub) (ab := ab) (col := col) (dd := dd) (k0 := k0) (k1 := k1) (k2 := k2) (k3 := k3) (k5 := k5) (mN := nsFind es1)
    PySem.F.excBase_ValueError (by rw [List.contains_cons]; rfl) (I.ok.hd hcalm) rfl (no_of a5) (ld_glob I hg hmy ⟨rfl, ?_⟩ hdy)
  refine Calls.evalArgs_plain (wpAny_mono (pa_cons pe_str pa_nil (star_cons rfl) cpos pins s σ H (fun vs H1 => H1 = H ∧ vs.length = 1) I ⟨rfl, rfl⟩) (fun us s2 ⟨vs, H1, I1, r, e1, e2⟩ => ?_) fun _ _ z => z)
  subst e1
  have KX := I1.kIn
  refine ⟨rfl, ?_, KX _ _ a2, ns_of (KX _ _ a3) a4, .own (KX _ _ a6) (ns_of (KX _ _ a7) a8) (no_of a9) .base, fun h' e hm => h h' e us s2 I1 hm⟩
  rw [← r.length, e2]; decide
end
end DL

set_option maxHeartbeats 4000000
/-! deep equality -/
namespace DL
open PySem L2 PyProof.Rows

mutual
def toP : D → PyData
  | .non => .none
  | .bl b => .bool b
  | .int i => .int i
  | .tup l => .tuple (toPs l)
  | .lst l => .list (toPs l)
  | .exc _ => .none
def toPs : List D → List PyData
  | [] => []
  | d :: l => toP d :: toPs l
end
mutual
/-- no exception within, at most n deep -/
def dOk : Nat → D → Bool
  | _, .non => true
  | _, .bl _ => true
  | _, .int _ => true
  | 0, .tup _ => false
  | n + 1, .tup l => dOkL n l
  | 0, .lst _ => false
  | n + 1, .lst l => dOkL n l
  | _, .exc _ => false
def dOkL : Nat → List D → Bool
  | _, [] => true
  | n, d :: l => dOk n d && dOkL n l
end
mutual
def eqD : D → D → Bool
  | .non, .non => true
  | .bl a, .bl b => a == b
  | .bl a, .int j => (if a then 1 else 0) == j
  | .int i, .bl b => i == (if b then 1 else 0)
  | .int i, .int j => i == j
  | .tup l, .tup m => eqL l m
  | .lst l, .lst m => eqL l m
  | _, _ => false
def eqL : List D → List D → Bool
  | [], [] => true
  | d :: l, e :: m => eqD d e && eqL l m
  | _, _ => false
end
mutual
theorem eqv_D : ∀ (n m : Nat) (d e : D), dOk n d = true → dOk m e = true → PyData.eqv (toP d) (toP e) = eqD d e
  | n, m, .tup l, .tup k, h1, h2 => by
    cases n with
    | zero => simp only [dOk] at h1; cases h1
    | succ n =>
      cases m with
      | zero => simp only [dOk] at h2; cases h2
      | succ m =>
        simp only [dOk] at h1 h2
        simp only [toP, PyData.eqv, eqD]
        exact eqv_L n m l k h1 h2
  | n, m, .lst l, .lst k, h1, h2 => by
    cases n with
    | zero => simp only [dOk] at h1; cases h1
    | succ n =>
      cases m with
      | zero => simp only [dOk] at h2; cases h2
      | succ m =>
        simp only [dOk] at h1 h2
        simp only [toP, PyData.eqv, eqD]
        exact eqv_L n m l k h1 h2
  | n, m, .exc _, _, h1, _ => by simp only [dOk] at h1; cases h1
  | n, m, d, .exc _, _, h2 => by simp only [dOk] at h2; cases h2
  | n, m, .non, .non, _, _ => by simp only [toP, PyData.eqv, eqD]
  | n, m, .non, .bl _, _, _ => by simp only [toP, PyData.eqv, eqD]
  | n, m, .non, .int _, _, _ => by simp only [toP, PyData.eqv, eqD]
  | n, m, .non, .tup _, _, _ => by simp only [toP, PyData.eqv, eqD]
  | n, m, .non, .lst _, _, _ => by simp only [toP, PyData.eqv, eqD]
  | n, m, .bl _, .non, _, _ => by simp only [toP, PyData.eqv, eqD]
  | n, m, .bl _, .bl _, _, _ => by simp only [toP, PyData.eqv, eqD]
  | n, m, .bl _, .int _, _, _ => by simp only [toP, PyData.eqv, eqD]
  | n, m, .bl _, .tup _, _, _ => by simp only [toP, PyData.eqv, eqD]
  | n, m, .bl _, .lst _, _, _ => by simp only [toP, PyData.eqv, eqD]
  | n, m, .int _, .non, _, _ => by simp only [toP, PyData.eqv, eqD]
  | n, m, .int _, .bl _, _, _ => by simp only [toP, PyData.eqv, eqD]
  | n, m, .int _, .int _, _, _ => by simp only [toP, PyData.eqv, eqD]
  | n, m, .int _, .tup _, _, _ => by simp only [toP, PyData.eqv, eqD]
  | n, m, .int _, .lst _, _, _ => by simp only [toP, PyData.eqv, eqD]
  | n, m, .tup _, .non, _, _ => by simp only [toP, PyData.eqv, eqD]
  | n, m, .tup _, .bl _, _, _ => by simp only [toP, PyData.eqv, eqD]
  | n, m, .tup _, .int _, _, _ => by simp only [toP, PyData.eqv, eqD]
  | n, m, .tup _, .lst _, _, _ => by simp only [toP, PyData.eqv, eqD]
  | n, m, .lst _, .non, _, _ => by simp only [toP, PyData.eqv, eqD]
  | n, m, .lst _, .bl _, _, _ => by simp only [toP, PyData.eqv, eqD]
  | n, m, .lst _, .int _, _, _ => by simp only [toP, PyData.eqv, eqD]
  | n, m, .lst _, .tup _, _, _ => by simp only [toP, PyData.eqv, eqD]
theorem eqv_L : ∀ (n m : Nat) (l k : List D), dOkL n l = true → dOkL m k = true → PyData.eqvAll (toPs l) (toPs k) = eqL l k
  | n, m, [], [], _, _ => by simp only [toPs, PyData.eqvAll, eqL]
  | n, m, d :: l, e :: k, h1, h2 => by
    simp only [dOkL, Bool.and_eq_true] at h1 h2
    simp only [toPs, PyData.eqvAll, eqL]
    rw [eqv_D n m d e h1.1 h2.1, eqv_L n m l k h1.2 h2.2]
  | n, m, [], _ :: _, _, _ => by simp only [toPs, PyData.eqvAll, eqL]
  | n, m, _ :: _, [], _, _ => by simp only [toPs, PyData.eqvAll, eqL]
end
mutual
theorem lay_D : ∀ (n : Nat) (d : D), dOk n d = true → (toP d).canLay0 = true ∧ (toP d).depth ≤ n
  | _, .non, _ => by simp [toP, PyData.canLay0, PyData.depth]
  | _, .bl _, _ => by simp [toP, PyData.canLay0, PyData.depth]
  | _, .int _, _ => by simp [toP, PyData.canLay0, PyData.depth]
  | 0, .tup _, h => by simp only [dOk] at h; cases h
  | n + 1, .tup l, h => by
    simp only [dOk] at h
    obtain ⟨a, b⟩ := lay_L n l h
    simp only [toP, PyData.canLay0, PyData.depth]
    exact ⟨a, by omega⟩
  | 0, .lst _, h => by simp only [dOk] at h; cases h
  | n + 1, .lst l, h => by
    simp only [dOk] at h
    obtain ⟨a, b⟩ := lay_L n l h
    simp only [toP, PyData.canLay0, PyData.depth]
    exact ⟨a, by omega⟩
  | _, .exc _, h => by simp only [dOk] at h; cases h
theorem lay_L : ∀ (n : Nat) (l : List D), dOkL n l = true → PyData.canLayAll0 (toPs l) = true ∧ PyData.depthAll (toPs l) ≤ n
  | _, [], _ => by simp [toPs, PyData.canLayAll0, PyData.depthAll]
  | n, d :: l, h => by
    simp only [dOkL, Bool.and_eq_true] at h
    obtain ⟨a, b⟩ := lay_D n d h.1
    obtain ⟨c, e⟩ := lay_L n l h.2
    simp only [toPs, PyData.canLayAll0, PyData.depthAll, Bool.and_eq_true]
    exact ⟨⟨a, c⟩, by omega⟩
end
section
variable {X : Cx} {pins : List (Addr × Obj)} {σ : L2.St} {H F : Hp} {s : Shared}
mutual
theorem reads_D (I : Inv X pins σ H s) (sF : Same F H) : ∀ (n : Nat) (d : D) {v : V} {u : Value}, dOk n d = true → Den X.K F d v → RelV v u → ∃ as, Reads s.heap u (toP d) as
  | _, .non, v, u, _, h, r => by rw [h.non] at r; cases (show u = Value.none from r); exact ⟨_, .none⟩
  | _, .bl b, v, u, _, h, r => by rw [h.bl] at r; cases (show u = Value.bool b from r); exact ⟨_, .bool b⟩
  | _, .int i, v, u, _, h, r => by
    rw [h.int] at r
    obtain ⟨t, e⟩ := (show ∃ t, u = Value.int i t from r)
    subst e
    exact ⟨_, .int i t⟩
  | 0, .tup _, _, _, h, _, _ => by simp only [dOk] at h; cases h
  | n + 1, .tup l, v, u, hd, h, r => by
    simp only [dOk] at hd
    obtain ⟨a, xs, e, sq, q⟩ := h.tup
    subst e
    cases (show u = Value.ref a from r)
    obtain ⟨its, rs, ⟨o, h1, h2, k, h3⟩, _⟩ := I.tuple (Same.tup sF sq)
    obtain ⟨as, ra⟩ := reads_L I sF n l hd q rs
    exact ⟨_, .tuple h1 h2 h3 (by simpa using ra)⟩
  | 0, .lst _, _, _, h, _, _ => by simp only [dOk] at h; cases h
  | n + 1, .lst l, v, u, hd, h, r => by
    simp only [dOk] at hd
    obtain ⟨a, xs, e, sq, q⟩ := h.lst
    subst e
    cases (show u = Value.ref a from r)
    obtain ⟨its, rs, ⟨o, k, h1, h2, h3⟩, _⟩ := I.list (sF.seq sq)
    obtain ⟨as, ra⟩ := reads_L I sF n l hd q rs
    exact ⟨_, .list h1 h2 h3.2 (by simpa using ra)⟩
  | _, .exc _, _, _, h, _, _ => by simp only [dOk] at h; cases h
theorem reads_L (I : Inv X pins σ H s) (sF : Same F H) : ∀ (n : Nat) (l : List D) {xs : List V} {us : List Value}, dOkL n l = true → DenL X.K F l xs → Vals xs us → ∃ as, ReadsAll s.heap us (toPs l) as
  | _, [], xs, us, _, h, r => by
    rw [h.inv_nil] at r
    cases r
    exact ⟨_, .nil⟩
  | n, d :: l, xs, us, hd, h, r => by
    simp only [dOkL, Bool.and_eq_true] at hd
    obtain ⟨v, vs, e, q1, q2⟩ := h.inv_cons
    subst e
    cases r with
    | cons r1 r2 =>
      obtain ⟨as, ra⟩ := reads_D I sF n d hd.1 q1 r1
      obtain ⟨bs, rb⟩ := reads_L I sF n l hd.2 q2 r2
      exact ⟨_, .cons ra rb⟩
end
end
section
variable {X : Cx}
theorem shaped_D {d : D} (h : dOk 50 d = true) : SeqAt.shaped (toP d) = true := by
  obtain ⟨a, b⟩ := lay_D 50 d h
  unfold SeqAt.shaped
  rw [a, Bool.true_and]
  exact decide_eq_true (by omega)
def rDeep (K : PySem.W.Frag) (x y : D) (k : Bool) : R2 := fun v u H Q => ∃ F, Same F H ∧ Den K F x v ∧ Den K F y u ∧ Q (.bl k) H
theorem cmp_eqD {x y : D} (hu : X.A.units + 64 < cLine) (hx : dOk 50 x = true) (hy : dOk 50 y = true) : CmpOk X .Eq x y (eqD x y) := by
  refine ⟨rDeep X.K x y (eqD x y), ?_, fun H F v u Q s qv qu q => ⟨F, s, qv, qu, q⟩⟩
  intro pins s σ H v u vv uu Q I r1 r2 ⟨F, sF, q1, q2, q⟩
  obtain ⟨as, ra⟩ := reads_D I sF 50 x hx q1 r1
  obtain ⟨bs, rb⟩ := reads_D I sF 50 y hy q2 r2
  refine eq_dataH ra rb (shaped_D hx) (shaped_D hy) hu ?_
  rw [eqv_D 50 50 x y hx hy]
  exact ⟨.bl _, H, I, rfl, q⟩
theorem cmp_neD {x y : D} (hu : X.A.units + 64 < cLine) (hx : dOk 50 x = true) (hy : dOk 50 y = true) : CmpOk X .NotEq x y (!eqD x y) := by
  refine ⟨rDeep X.K x y (!eqD x y), ?_, fun H F v u Q s qv qu q => ⟨F, s, qv, qu, q⟩⟩
  intro pins s σ H v u vv uu Q I r1 r2 ⟨F, sF, q1, q2, q⟩
  obtain ⟨as, ra⟩ := reads_D I sF 50 x hx q1 r1
  obtain ⟨bs, rb⟩ := reads_D I sF 50 y hy q2 r2
  refine ne_dataH ra rb (shaped_D hx) (shaped_D hy) hu ?_
  rw [eqv_D 50 50 x y hx hy]
  exact ⟨.bl _, H, I, rfl, q⟩
theorem any_D {x : D} (hx : dOk 50 x = true) : ∀ (l : List D), dOkL 49 l = true → ((toPs l).any fun y => PyData.eqv y (toP x)) = l.any fun y => eqD y x
  | [], _ => rfl
  | d :: l, h => by
    simp only [dOkL, Bool.and_eq_true] at h
    simp only [toPs, List.any_cons]
    rw [eqv_D 49 50 d x h.1 hx, any_D hx l h.2]
theorem cmp_inD {x : D} {l : List D} (hu : X.A.units + 64 < cLine) (hx : dOk 50 x = true) (hy : dOkL 49 l = true) : CmpOk X .In x (.lst l) (l.any fun y => eqD y x) := by
  refine ⟨rDeep X.K x (.lst l) _, ?_, fun H F v u Q s qv qu q => ⟨F, s, qv, qu, q⟩⟩
  intro pins s σ H v u vv uu Q I r1 r2 ⟨F, sF, q1, q2, q⟩
  obtain ⟨as, ra⟩ := reads_D I sF 50 x hx q1 r1
  obtain ⟨bs, rb⟩ := reads_D I sF 50 (.lst l) (by simp only [dOk]; exact hy) q2 r2
  simp only [toP] at rb
  obtain ⟨a, b⟩ := lay_D 50 x hx
  obtain ⟨a2, b2⟩ := lay_L 49 l hy
  refine SeqAt.in_list_reads rb ra a2 a (by have := Nat.min_le_right (PyData.depthAll (toPs l)) (toP x).depth; omega) ?_
  rw [any_D hx l hy]
  exact ⟨.bl _, H, I, rfl, q⟩
theorem cmp_ninD {x : D} {l : List D} (hu : X.A.units + 64 < cLine) (hx : dOk 50 x = true) (hy : dOkL 49 l = true) : CmpOk X .NotIn x (.lst l) (!(l.any fun y => eqD y x)) := by
  refine ⟨rDeep X.K x (.lst l) _, ?_, fun H F v u Q s qv qu q => ⟨F, s, qv, qu, q⟩⟩
  intro pins s σ H v u vv uu Q I r1 r2 ⟨F, sF, q1, q2, q⟩
  obtain ⟨as, ra⟩ := reads_D I sF 50 x hx q1 r1
  obtain ⟨bs, rb⟩ := reads_D I sF 50 (.lst l) (by simp only [dOk]; exact hy) q2 r2
  simp only [toP] at rb
  obtain ⟨a, b⟩ := lay_D 50 x hx
  obtain ⟨a2, b2⟩ := lay_L 49 l hy
  refine SeqAt.notIn_list_reads rb ra a2 a (by have := Nat.min_le_right (PyData.depthAll (toPs l)) (toP x).depth; omega) ?_
  rw [any_D hx l hy]
  exact ⟨.bl _, H, I, rfl, q⟩
end
end DL

set_option maxHeartbeats 4000000
/-! A small language without places, its meaning over plain data. -/
namespace DL
open PySem L2 PyProof.Rows

inductive Op where
  | add | sub | mul | fdiv | mod | pow
inductive Cm where
  | lt | le | gt | ge | eq | ne | isN | notN | isin | notin
inductive Ty where
  | int | bool | tuple | list
inductive Bi where
  | len | abs
mutual
inductive E where
  | var (i : Nat) | int (i : Int) | bl (b : Bool) | non
  | bin (o : Op) (a b : E) | neg (a : E) | cmp (c : Cm) (a b : E)
  | and (a b : E) | or (a b : E) | not (a : E) | ife (c a b : E)
  | tup (l : Es) | lst (l : Es) | ix (a b : E) | sl (a : E) (lo hi : EO)
  | call (f : Nat) (l : Es) | bi (f : Bi) (l : Es) | isi (a : E) (t : Ty) | isx (a : E) (ys : List Str)
inductive Es where
  | nil | cons (e : E) (l : Es)
inductive EO where
  | non | som (e : E)
end
inductive Tg where
  | name (i : Nat) | tup (l : List Nat)
inductive It' where
  | seq (e : E) | range1 (a : E) | range2 (a b : E) | enum (e : E)
mutual
inductive S where
  | asg (i : Nat) (e : E) | unp (l : List Nat) (e : E) | par (i j : Nat) (a b : E)
  | ret (e : E) | retV (i : Nat) | iff (c : E) (a b : Ss) | whl (c : E) (b : Ss) | frr (t : Tg) (it : It') (b : Ss) | tryC (f g : Nat) (l : Es) (i j : Nat) | never
inductive Ss where
  | nil | cons (s : S) (l : Ss)
end

/-! ### meaning -/
def mulOk (a b : Int) : Bool := decide (a.natAbs < 2 ^ 16000) && decide (b.natAbs < 2 ^ 16000)
def divOk (b : Int) : Bool := decide (b ≠ 0) && decide (b.natAbs < 2 ^ 9000)
def powOk (a b : Int) : Bool := decide (0 ≤ b) && decide (b ≤ 1000) && decide (a.natAbs < 2 ^ 64)
def opW : Op → D → D → Option W
  | .add, .int a, .int b => some (.val (.int (a + b)))
  | .sub, .int a, .int b => some (.val (.int (a - b)))
  | .mul, .int a, .int b => if mulOk a b = true then some (.val (.int (a * b))) else none
  | .fdiv, .int a, .int b => if divOk b = true then some (.val (.int (a.fdiv b))) else none
  | .mod, .int a, .int b => if b = 0 then none else some (.val (.int (a.fmod b)))
  | .pow, .int a, .int b => if powOk a b = true then some (.val (.int (a ^ b.toNat))) else none
  | _, _, _ => none
def cmpD : Cm → D → D → Option Bool
  | .lt, .int a, .int b => some (decide (a < b))
  | .le, .int a, .int b => some (decide (a ≤ b))
  | .gt, .int a, .int b => some (decide (b < a))
  | .ge, .int a, .int b => some (decide (b ≤ a))
  | .eq, .int a, .int b => some (decide (a = b))
  | .ne, .int a, .int b => some (!decide (a = b))
  | .eq, .bl a, .bl b => some (a == b)
  | .ne, .bl a, .bl b => some (!(a == b))
  | .eq, .tup a, .tup b => if (dOkL 49 a && dOkL 49 b) = true then some (eqL a b) else none
  | .ne, .tup a, .tup b => if (dOkL 49 a && dOkL 49 b) = true then some (!eqL a b) else none
  | .eq, .lst a, .lst b => if (dOkL 49 a && dOkL 49 b) = true then some (eqL a b) else none
  | .ne, .lst a, .lst b => if (dOkL 49 a && dOkL 49 b) = true then some (!eqL a b) else none
  | .isin, x, .lst l => if (dOk 50 x && dOkL 49 l) = true then some (l.any fun y => eqD y x) else none
  | .notin, x, .lst l => if (dOk 50 x && dOkL 49 l) = true then some (!(l.any fun y => eqD y x)) else none
  | .isN, a, .non => some (isNon a)
  | .notN, a, .non => some (!isNon a)
  | _, _, _ => none
def isTy : Ty → D → Bool
  | .int, .int _ => true
  | .int, .bl _ => true
  | .bool, .bl _ => true
  | .tuple, .tup _ => true
  | .list, .lst _ => true
  | _, _ => false
def isTyO (t : Ty) : D → Option Bool
  | .exc _ => none
  | d => some (isTy t d)
def biW : Bi → List D → Option W
  | .len, [.lst l] => some (.val (.int l.length))
  | .len, [.tup l] => some (.val (.int l.length))
  | .abs, [.int i] => some (.val (.int (if i < 0 then -i else i)))
  | _, _ => none
def ixD : D → D → Option D
  | .tup l, .int i => atI l i
  | .lst l, .int i => atI l i
  | _, _ => none
def slD : D → Option Int → Option Int → Option W
  | .lst l, i, j => some (.new (cutD l i j))
  | _, _, _ => none
def dBool : D → Option Bool
  | .bl b => some b
  | _ => none
def dInt : D → Option Int
  | .int i => some i
  | _ => none
def varD (ρ : Rho) (i : Nat) : Option D := match ρ[i]? with
  | some (some d) => some d
  | _ => none

section
variable (Γ : Nat → List D → Option W)
mutual
def ev : E → Rho → Option W
  | .var i, ρ => (varD ρ i).map W.val
  | .int i, _ => some (.val (.int i))
  | .bl b, _ => some (.val (.bl b))
  | .non, _ => some (.val .non)
  | .bin o a b, ρ => ((ev a ρ).map W.d).bind fun x => ((ev b ρ).map W.d).bind fun y => opW o x y
  | .neg a, ρ => (((ev a ρ).map W.d).bind dInt).map fun i => .val (.int (-i))
  | .cmp c a b, ρ => ((ev a ρ).map W.d).bind fun x => ((ev b ρ).map W.d).bind fun y => (cmpD c x y).map fun k => .val (.bl k)
  | .and a b, ρ => (((ev a ρ).map W.d).bind dBool).bind fun k => if k = true then ev b ρ else some (.val (.bl false))
  | .or a b, ρ => (((ev a ρ).map W.d).bind dBool).bind fun k => if k = true then some (.val (.bl true)) else ev b ρ
  | .not a, ρ => (((ev a ρ).map W.d).bind dBool).map fun k => .val (.bl (!k))
  | .ife c a b, ρ => (((ev c ρ).map W.d).bind dBool).bind fun k => if k = true then ev a ρ else ev b ρ
  | .tup l, ρ => (evs l ρ).bind fun ds => if ds.length ≤ sizeLine then some (.val (.tup ds)) else none
  | .lst l, ρ => (evs l ρ).bind fun ds => if ds.length ≤ sizeLine then some (.new ds) else none
  | .ix a b, ρ => ((ev a ρ).map W.d).bind fun x => ((ev b ρ).map W.d).bind fun y => (ixD x y).map W.val
  | .sl a lo hi, ρ => ((ev a ρ).map W.d).bind fun x => (evo lo ρ).bind fun i => (evo hi ρ).bind fun j => slD x i j
  | .call f l, ρ => (evs l ρ).bind fun ds => Γ f ds
  | .bi f l, ρ => (evs l ρ).bind fun ds => biW f ds
  | .isi a t, ρ => ((ev a ρ).map W.d).bind fun d => (isTyO t d).map fun k => .val (.bl k)
  | .isx a ys, ρ => ((ev a ρ).map W.d).bind fun d => (isX ys d).map fun k => .val (.bl k)
def evs : Es → Rho → Option (List D)
  | .nil, _ => some []
  | .cons e l, ρ => ((ev e ρ).map W.d).bind fun d => (evs l ρ).map fun ds => d :: ds
def evo : EO → Rho → Option (Option Int)
  | .non, _ => some none
  | .som e, ρ => (((ev e ρ).map W.d).bind dInt).map some
end
def evB (e : E) (ρ : RhoS) : Option Bool := ((ev Γ e (view ρ)).map W.d).bind dBool
def setR (ρ : RhoS) (i : Nat) (b : B) : Option RhoS := if i < ρ.length then some (ρ.set i (some b)) else none
def bindAll : List Nat → List D → RhoS → Option RhoS
  | [], [], ρ => some ρ
  | i :: is, d :: ds, ρ => (setR ρ i (.sh d)).bind (bindAll is ds)
  | _, _, _ => none
def bindTg : Tg → D → RhoS → Option RhoS
  | .name i, d, ρ => setR ρ i (.sh d)
  | .tup is, .tup ds, ρ => bindAll is ds ρ
  | _, _, _ => none
def enumD (l : List D) : List D := l.zipIdx.map fun p => D.tup [.int (p.2 : Int), p.1]
/-- what is walked, and the names behind it -/
def evI : It' → RhoS → Option (List D × RhoS)
  | .seq e, ρ => (ev Γ e (view ρ)).bind fun w => match w.d with
    | .lst l => some (l, after w ρ)
    | .tup l => some (l, after w ρ)
    | _ => none
  | .range1 a, ρ => (((ev Γ a (view ρ)).map W.d).bind dInt).bind fun n => if -(2 ^ 62) ≤ n ∧ n < 2 ^ 62 then some (rangeD 0 n.toNat, ρ) else none
  | .range2 a b, ρ => (((ev Γ a (view ρ)).map W.d).bind dInt).bind fun m => (((ev Γ b (view ρ)).map W.d).bind dInt).bind fun n =>
      if -(2 ^ 62) ≤ m ∧ m < 2 ^ 62 ∧ -(2 ^ 62) ≤ n ∧ n < 2 ^ 62 then some (rangeD m (n - m).toNat, ρ) else none
  | .enum e, ρ => (ev Γ e (view ρ)).bind fun w => match w.d with
    | .lst l => some (enumD l, frz ρ)
    | _ => none
open Classical in
/-- a while, run as long as it takes -/
noncomputable def whileD (c : RhoS → Option Bool) (b : RhoS → Option Out) (ρ : RhoS) : Option Out :=
  if h : ∃ n o, whileN c b n ρ = some o then whileN c b h.choose ρ else none
theorem whileN_mono {c : RhoS → Option Bool} {b : RhoS → Option Out} : ∀ {n m : Nat} {ρ : RhoS} {o : Out}, whileN c b n ρ = some o → n ≤ m → whileN c b m ρ = some o
  | 0, _, _, _, h, _ => by cases h
  | n + 1, 0, _, _, _, h => by omega
  | n + 1, m + 1, ρ, o, h, hm => by
    unfold whileN at h ⊢
    cases e : c ρ with
    | none => rw [e] at h; cases h
    | some k =>
      simp only [e] at h ⊢
      cases k with
      | false => exact h
      | true =>
        cases e2 : b ρ with
        | none => simp only [e2] at h; cases h
        | some o2 =>
          simp only [e2] at h ⊢
          cases o2 with
          | rt w => exact h
          | nx ρ' => exact whileN_mono h (by omega)
theorem whileD_of {c : RhoS → Option Bool} {b : RhoS → Option Out} {n : Nat} {ρ : RhoS} {o : Out} (h : whileN c b n ρ = some o) : whileD c b ρ = some o := by
  have hx : ∃ n o, whileN c b n ρ = some o := ⟨n, o, h⟩
  unfold whileD
  rw [dif_pos hx]
  obtain ⟨o', h'⟩ := hx.choose_spec
  rw [h']
  have a := whileN_mono h (Nat.le_max_left n hx.choose)
  have b := whileN_mono h' (Nat.le_max_right n hx.choose)
  rw [a] at b
  exact b.symm
theorem whileD_inv {c : RhoS → Option Bool} {b : RhoS → Option Out} {ρ : RhoS} {o : Out} (h : whileD c b ρ = some o) : ∃ n, whileN c b n ρ = some o := by
  unfold whileD at h
  by_cases hx : ∃ n o, whileN c b n ρ = some o
  · rw [dif_pos hx] at h; exact ⟨_, h⟩
  · rw [dif_neg hx] at h; cases h
mutual
noncomputable def ex : S → RhoS → Option Out
  | .asg i e, ρ => (ev Γ e (view ρ)).bind fun w => (setR (after w ρ) i w.b).map Out.nx
  | .unp is e, ρ => (ev Γ e (view ρ)).bind fun w => (bindTg (.tup is) w.d (after w ρ)).map Out.nx
  | .par i j a b, ρ => ((ev Γ a (view ρ)).map W.d).bind fun x => ((ev Γ b (view ρ)).map W.d).bind fun y =>
      if lf x = true ∧ lf y = true ∧ i ≠ j ∧ i < ρ.length ∧ j < ρ.length then some (.nx ((ρ.set i (some (.sh x))).set j (some (.sh y)))) else none
  | .ret e, ρ => (ev Γ e (view ρ)).map Out.rt
  | .retV i, ρ => match ρ[i]? with
    | some (some (.ow l)) => some (.rt (.new l))
    | some (some (.sh d)) => some (.rt (.val d))
    | _ => none
  | .iff c a b, ρ => (evB Γ c ρ).bind fun k => if k = true then exs a ρ else exs b ρ
  | .whl c b, ρ => whileD (evB Γ c) (exs b) ρ
  | .frr t it b, ρ => (evI Γ it ρ).bind fun p => forN (bindTg t) (exs b) p.1 p.2
  | .tryC f g l i j, ρ => (evs Γ l (view ρ)).bind fun ds => match Γ g ds with
    | some (.val (.exc z)) => if z ∈ xNames ∧ i ≠ j ∧ i < ρ.length then some (.nx (((frz ρ).set j none).set i (some (.sh (.exc z))))) else none
    | _ => (Γ f ds).map fun _ => .nx (frz ρ)
  | .never, _ => none
noncomputable def exs : Ss → RhoS → Option Out
  | .nil, ρ => some (.nx ρ)
  | .cons s l, ρ => (ex s ρ).bind fun o => match o with
    | .nx ρ' => exs l ρ'
    | .rt w => some (.rt w)
end
/-- a def run at its arguments; n: how many names -/
noncomputable def run (b : Ss) (n : Nat) (ds : List D) : Option W := (exs Γ b (ds.map (fun d => some (.sh d)) ++ List.replicate (n - ds.length) none)).bind fun o => match o with
  | .rt w => some w
  | .nx _ => some (.val .non)
end
end DL

set_option maxHeartbeats 4000000
namespace DL
open PySem L2 PyProof.Rows

section
variable {X : Cx} {e a b c : Expr} {es : List Expr} {ρ : RhoS} {pos : Pos}
theorem zipIdx_get {α : Type} (l : List α) (i : Nat) : l.zipIdx[i]? = (l[i]?).map fun x => (x, i) := by simp
theorem DI.enum {elts : List Expr} {x1 : Nat} {tp p : Pos} {l : List D} (hg : Gl X "enumerate") (hm : X.mg "enumerate" = none) (ha : DA X [a] (view ρ) [.lst l]) (hs : notStar a = true) :
    DI X (.Tuple elts x1 tp) (.Call (.Name "enumerate" p) [a] [] pos) ρ (enumD l) (frz ρ) := fun H0 Fc =>
  PI.mono (pi_enum hg hm (ha H0 Fc) (star_cons hs)) fun σ H R ⟨F, S, k⟩ => by
    obtain ⟨s0, Re⟩ := S.borrow
    refine ⟨_, Re, fun vs H2 F2 s2 R2 q => ?_⟩
    obtain ⟨s3, S3⟩ := S.freeze s2 R2
    obtain ⟨v, e, q⟩ := q.one
    obtain ⟨a, xs, e1, sq, r⟩ := q.lst
    subst e1
    refine ⟨a, e, ⟨xs, R2.sub.seq sq⟩, k _ H2 F2 s3 S3 fun i H' sH => ⟨fun d hd => ?_, fun hle => ⟨xs, sH.seq sq, ?_⟩⟩⟩
    · unfold enumD at hd
      rw [List.getElem?_map, zipIdx_get] at hd
      cases hl : l[i]? with
      | none => rw [hl] at hd; cases hd
      | some d' =>
        rw [hl] at hd
        cases hd
        obtain ⟨y, h1, h2⟩ := r.get hl
        refine ⟨⟨xs, y, sH.seq sq, h1⟩, fun x H'' ⟨p, z, hp, ex, eh, hz⟩ => ?_⟩
        have := hz xs (sH.seq sq)
        rw [h1] at this
        cases this
        exact .inr ⟨p, _, [.int (i : Int), d'], hp, eh, ex, rfl, DenL.cons Den.int_mk (DenL.cons h2 DenL.nil)⟩
    · unfold enumD at hle
      rw [List.length_map, List.length_zipIdx] at hle
      rw [r.length]; exact hle

/-! ### isinstance of a builtin type -/
def Ty.nm : Ty → String
  | .int => "int" | .bool => "bool" | .tuple => "tuple" | .list => "list"
def tyTy : Ty → Ty → Bool
  | .int, .int => true
  | .int, .bool => true
  | .bool, .bool => true
  | .tuple, .tuple => true
  | .list, .list => true
  | _, _ => false
theorem kit_all (K : PySem.W.Frag) : ∀ (t : Ty) (u : Ty), PySem.W.kitOne K (.type u.nm) (.type t.nm) = some (tyTy t u) := by
  intro t u
  cases t <;> cases u <;> kernel_rfl
theorem kit_non (K : PySem.W.Frag) : ∀ (t : Ty), PySem.W.kitOne K (.type "NoneType") (.type t.nm) = some false := by
  intro t
  cases t <;> kernel_rfl
theorem isi_ok {pins : List (Addr × Obj)} {σ : L2.St} {F H : Hp} {s : Shared} {A : Around} {E : Value → Shared → Prop} {Q : Value → Shared → Prop} {d : D} {v : V} {u : Value} {t : Ty} (I : Inv X pins σ H s) (sF : Same F H) (h : Den X.K F d v) (r : RelV v u) (hd : isTyO t d = some (isTy t d))
    (q : ∀ tk, Q (.bool (isTy t d)) { s with toks := tk }) : wpAny (model X.prog X.w) A (call (.builtin "isinstance") [u, .type t.nm]) Q E s := by
  cases d with
  | non =>
    rw [h.non] at r
    cases (show u = Value.none from r)
    exact PySem.W.kia_one PySem.W.kitx_none I.kIn True.intro (by rw [kit_non X.K t]) (fun z => nomatch z) (by cases t <;> exact q)
  | bl b =>
    rw [h.bl] at r
    cases (show u = Value.bool b from r)
    exact PySem.W.kia_one PySem.W.kitx_bool I.kIn True.intro (kit_all X.K t .bool) (fun z => nomatch z) (by cases t <;> exact q)
  | int i =>
    rw [h.int] at r
    obtain ⟨t', e⟩ := (show ∃ t, u = Value.int i t from r)
    cases e
    exact PySem.W.kia_one PySem.W.kitx_int I.kIn True.intro (kit_all X.K t .int) (fun z => nomatch z) (by cases t <;> exact q)
  | tup l =>
    obtain ⟨a, xs, e, sq, _⟩ := h.tup
    rw [e] at r
    cases (show u = Value.ref a from r)
    obtain ⟨its, _, ⟨o, h1, h2, _⟩, _⟩ := I.tuple (Same.tup sF sq)
    exact PySem.W.kia_one PySem.W.kitx_tuple I.kIn ⟨o, h1, h2⟩ (kit_all X.K t .tuple) (fun z => nomatch z) (by cases t <;> exact q)
  | lst l =>
    obtain ⟨a, xs, e, sq, _⟩ := h.lst
    rw [e] at r
    cases (show u = Value.ref a from r)
    obtain ⟨its, _, ⟨o, n, h1, h2, _⟩, _⟩ := I.list (sF.seq sq)
    exact PySem.W.kia_one PySem.W.kitx_list I.kIn ⟨o, h1, h2⟩ (kit_all X.K t .list) (fun z => nomatch z) (by cases t <;> exact q)
  | exc x => cases hd
theorem boot_isinstance : bootBuiltins "isinstance" = some (.builtin "isinstance") := by decide +kernel
theorem boot_ty (t : Ty) : bootBuiltins (Str.ofString t.nm) = some (.type t.nm) := by cases t <;> decide +kernel
theorem call_isi (t : Ty) (d : D) (hd : isTyO t d = some (isTy t d)) : CallR X (.builtin "isinstance") (fun vs H Q => ∃ F v, vs = [v, .ty t.nm] ∧ Same F H ∧ Den X.K F d v ∧ Q (.bl (isTy t d)) H) := by
  intro pins s σ H xs us Q I r ⟨F, v, e, sF, h, q⟩
  subst e
  obtain ⟨u, u', e, r1, r2⟩ := vals2 r
  subst e
  cases (show u' = Value.type t.nm from r2)
  exact isi_ok I sF h r1 hd fun tk => ⟨.bl _, H, I.tok tk, rfl, q⟩
theorem DE.isi {t : Ty} {d : D} {x : Str} {p p2 : Pos} {ρ : Rho} (hd : isTyO t d = some (isTy t d)) (ha : DF X a ρ d) (hs : notStar a = true) (hg : Gl X "isinstance") (hm : X.mg "isinstance" = none) (hx : x = Str.ofString t.nm) (hgt : Gl X x) (hmt : X.mg x = none) :
    DE X (.Call (.Name "isinstance" p) [a, .Name x p2] [] pos) ρ (.val (.bl (isTy t d))) := fun H0 Fc => by
  subst hx
  have pt : PE X (.Name (Str.ofString t.nm) p2) (tC (.ty t.nm)) := pe_bltn hgt hmt (boot_ty t) rfl (by cases t <;> decide) (by cases t <;> decide)
  refine PE.mono (pe_callB (call_isi t d hd) hg hm boot_isinstance (pa_cons (ha H0 Fc) (pa_cons pt pa_nil) (star_cons hs)) (by decide) (by decide) (star_cons hs) rfl) fun σ H Q ⟨F, R, k⟩ => ?_
  exact ⟨F, R, fun v H1 F1 s1 R1 q1 => ⟨F1, v, rfl, R1.sub, q1, k _ H1 F1 s1 R1 RW.bl⟩⟩
end
end DL

set_option maxHeartbeats 4000000
/-! From the text's own trees to the small language, and that what it says is so. -/
namespace DL
open PySem L2 PyProof.Rows

structure TC where
  N : List Str
  sc : Scope
  fns : List (Str × Nat × Nat)
  rzs : List (Str × Nat × Nat)
  xs : Bool

def ixOf (x : Str) : List Str → Option Nat
  | [] => none
  | y :: l => if x = y then some 0 else (ixOf x l).map (· + 1)
theorem ixOf_get {x : Str} : ∀ {l : List Str} {i : Nat}, ixOf x l = some i → l[i]? = some x
  | [], _, h => by cases h
  | y :: l, i, h => by
    unfold ixOf at h
    by_cases e : x = y
    · rw [if_pos e] at h; cases h; simp [e]
    · rw [if_neg e] at h
      obtain ⟨j, hj, e2⟩ := Option.map_eq_some_iff.mp h
      subst e2
      simpa using ixOf_get hj
/-- a name of the frame's -/
def slot (c : TC) (x : Str) : Option Nat :=
  if (x == ("__debug__" : Str)) = true ∨ (x == ("__classdict__" : Str)) = true then none else match c.sc.names.lookup x with
    | some .local => ixOf x c.N
    | some .cell => ixOf x c.N
    | _ => none
def isGl (c : TC) (x : Str) : Bool := !(x == ("__debug__" : Str)) && decide (c.sc.names.lookup x = some .globalImplicit)
def trOp : Operator → Option Op
  | .Add => some .add
  | .Sub => some .sub
  | .Mult => some .mul
  | .FloorDiv => some .fdiv
  | .Mod => some .mod
  | .Pow => some .pow
  | _ => none
def trCm : CmpOp → Option Cm
  | .Lt => some .lt
  | .LtE => some .le
  | .Gt => some .gt
  | .GtE => some .ge
  | .Eq => some .eq
  | .NotEq => some .ne
  | .Is => some .isN
  | .IsNot => some .notN
  | .In => some .isin
  | .NotIn => some .notin
def trTy (x : Str) : Option Ty :=
  if x = Str.ofString Ty.int.nm then some .int else if x = Str.ofString Ty.bool.nm then some .bool else if x = Str.ofString Ty.tuple.nm then some .tuple else if x = Str.ofString Ty.list.nm then some .list else none
def Bi.nm : Bi → String
  | .len => "len" | .abs => "abs"
def trBi (x : Str) : Option Bi := if x = Str.ofString Bi.len.nm then some .len else if x = Str.ofString Bi.abs.nm then some .abs else none
/-- a call's head: what stands behind the global name -/
inductive Hd where
  | fn (f n : Nat) | bi (b : Bi) | isi | no
def headOf (c : TC) (x : Str) : Hd :=
  if isGl c x = true then match c.fns.lookup x with
    | some (f, n) => .fn f n
    | none => match trBi x with
      | some b => .bi b
      | none => if x = ("isinstance" : Str) then .isi else .no
  else .no
def trE1 (rE : Expr → Option E) (rEs : List Expr → Option Es) (rO : Option Expr → Option EO) (c : TC) : Expr → Option E
  | .Name x _ => (slot c x).map E.var
  | .Constant (.int i) _ _ => some (.int i)
  | .Constant (.bool b) _ _ => some (.bl b)
  | .Constant .none _ _ => some .non
  | .BinOp a op b _ => (trOp op).bind fun o => (rE a).bind fun a' => (rE b).map fun b' => .bin o a' b'
  | .UnaryOp .USub a _ => (rE a).map E.neg
  | .UnaryOp .Not a _ => (rE a).map E.not
  | .BoolOp .And [a] _ => rE a
  | .BoolOp .Or [a] _ => rE a
  | .BoolOp .And (a :: b :: es) p => (rE a).bind fun a' => (rE (.BoolOp .And (b :: es) p)).map fun b' => .and a' b'
  | .BoolOp .Or (a :: b :: es) p => (rE a).bind fun a' => (rE (.BoolOp .Or (b :: es) p)).map fun b' => .or a' b'
  | .Compare a [op] [b] _ => if behindInMarks op b = false then (trCm op).bind fun o => (rE a).bind fun a' => (rE b).map fun b' => .cmp o a' b' else none
  | .IfExp t a b _ => none
  | .Tuple es _ _ => (rEs es).map E.tup
  | .List es _ => (rEs es).map E.lst
  | .Subscript a (.Slice lo hi none _) _ => (rE a).bind fun a' => (rO lo).bind fun l => (rO hi).map fun h => .sl a' l h
  | .Subscript a b _ => if notSlice b = true then (rE a).bind fun a' => (rE b).map fun b' => .ix a' b' else none
  | .Call (.Name x _) (e :: es) [] _ => match headOf c x with
    | .fn f k => if (e :: es).length = k then (rEs (e :: es)).map (E.call f) else none
    | .bi b => (rEs (e :: es)).map (E.bi b)
    | .isi => match es with
      | [.Name y _] => if isGl c y = true ∧ notStar e = true then (match trTy y with
          | some t => (rE e).map fun e' => .isi e' t
          | none => if c.xs = true ∧ (y ∈ xNames ∨ y = ("ValueError" : Str)) then (rE e).map fun e' => .isx e' [y] else none) else none
      | [.Tuple [.Name y _, .Name z _] _ _] => if isGl c y = true ∧ isGl c z = true ∧ notStar e = true ∧ c.xs = true ∧ (y ∈ xNames ∨ y = ("ValueError" : Str)) ∧ (z ∈ xNames ∨ z = ("ValueError" : Str)) then (rE e).map fun e' => .isx e' [y, z] else none
      | _ => none
    | .no => none
  | _ => none
mutual
def trE : Nat → TC → Expr → Option E
  | 0, _, _ => none
  | n + 1, c, e => trE1 (trE n c) (trEs n c) (trO n c) c e
def trEs : Nat → TC → List Expr → Option Es
  | 0, _, _ => none
  | n + 1, c, [] => some .nil
  | n + 1, c, e :: es => if notStar e = true then (trE n c e).bind fun e' => (trEs n c es).map fun l => .cons e' l else none
def trO : Nat → TC → Option Expr → Option EO
  | 0, _, _ => none
  | n + 1, c, none => some .non
  | n + 1, c, some e => (trE n c e).map EO.som
end

def plainTest : Expr → Bool
  | .Name _ _ => true
  | .Constant _ _ _ => true
  | .Call _ _ _ _ => true
  | .Subscript _ _ _ => true
  | _ => false
theorem plainTest_ok {e : Expr} {env : Env} (h : plainTest e = true) : ∀ whole, isTrue e env whole = (do let v ← whole; standAt e.pos; holding [v] (truthy v)) := fun whole => by
  cases e <;> first | rfl | (cases h; done)
/-- an expression as a test -/
def trT1 (rE : Expr → Option E) (rT : Expr → Option E) : Expr → Option E
  | .UnaryOp .Not a _ => (rT a).map E.not
  | .BoolOp .And [a] _ => rT a
  | .BoolOp .Or [a] _ => rT a
  | .BoolOp .And (a :: b :: es) p => (rT a).bind fun a' => (rT (.BoolOp .And (b :: es) p)).map fun b' => .and a' b'
  | .BoolOp .Or (a :: b :: es) p => (rT a).bind fun a' => (rT (.BoolOp .Or (b :: es) p)).map fun b' => .or a' b'
  | .Compare a [op] [b] _ => if behindInMarks op b = false then (trCm op).bind fun o => (rE a).bind fun a' => (rE b).map fun b' => .cmp o a' b' else none
  | e => if plainTest e = true then rE e else none
def trT : Nat → TC → Expr → Option E
  | 0, _, _ => none
  | n + 1, c, e => trT1 (trE n c) (trT n c) e

/-- the context of a body -/
structure XC (X : Cx) (c : TC) (Γ : Nat → List D → Option W) : Prop where
  hN : X.N = c.N
  hsc : X.env.scope = c.sc
  nd : c.N.Nodup
  fn : ∀ x, X.fn x = true
  calm : X.calm = true
  po : PassesOwn (model X.prog X.w) X.A X.env X.xe
  kind : X.env.scope.kind = .function
  calls : ∀ x f n, c.fns.lookup x = some (f, n) → Callee X x n (Γ f)
  rz : ∀ x f n, c.rzs.lookup x = some (f, n) → CalleeR X x n (Γ f)
  xf : c.xs = true → XFacts X.K X.mg
  st : X.stack = X.env :: X.outer
  fr : X.env.frame = some X.env.locals
  nx : X.nox = X
  un : X.A.units + 64 < cLine
  blt : ∀ x ∈ ([Str.ofString "len", Str.ofString "abs", Str.ofString "isinstance", Str.ofString "int", Str.ofString "bool", Str.ofString "tuple", Str.ofString "list", Str.ofString "range", Str.ofString "enumerate"] : List Str), X.mg x = none

section
variable {X : Cx} {c : TC} {Γ : Nat → List D → Option W}
theorem slot_ok (hX : XC X c Γ) {x : Str} {i : Nat} (h : slot c x = some i) : X.N[i]? = some x ∧ Loc X.env.scope x ∧ (x == ("__debug__" : Str)) = false ∧ (x == ("__classdict__" : Str)) = false := by
  unfold slot at h
  by_cases z : (x == ("__debug__" : Str)) = true ∨ (x == ("__classdict__" : Str)) = true
  · rw [if_pos z] at h; cases h
  · rw [if_neg z] at h
    have z1 : (x == ("__debug__" : Str)) = false := by
      cases q : (x == ("__debug__" : Str)) with
      | false => rfl
      | true => exact absurd (.inl q) z
    have z2 : (x == ("__classdict__" : Str)) = false := by
      cases q : (x == ("__classdict__" : Str)) with
      | false => rfl
      | true => exact absurd (.inr q) z
    split at h
    · rename_i e
      exact ⟨by rw [hX.hN]; exact ixOf_get h, by rw [hX.hsc]; exact .inl e, z1, z2⟩
    · rename_i e
      exact ⟨by rw [hX.hN]; exact ixOf_get h, by rw [hX.hsc]; exact .inr e, z1, z2⟩
    · cases h
theorem Loc.vis {sc : Scope} {x : Str} (h : Loc sc x) : Vis sc x := by
  rcases h with h | h
  · exact .inl h
  · exact .inr (.inl h)
theorem isGl_ok (hX : XC X c Γ) {x : Str} (h : isGl c x = true) : Gl X x ∧ (x == ("__debug__" : Str)) = false := by
  unfold isGl at h
  rw [Bool.and_eq_true] at h
  refine ⟨?_, by simpa using h.1⟩
  show X.env.scope.names.lookup x = _
  rw [hX.hsc]
  exact of_decide_eq_true h.2
theorem varD_some {ρ : Rho} {i : Nat} {d : D} (h : varD ρ i = some d) : ρ[i]? = some (some d) := by
  unfold varD at h
  split at h
  · rename_i e; cases h; exact e
  · cases h
theorem dInt_some {d : D} {i : Int} (h : dInt d = some i) : d = .int i := by
  cases d <;> first | (cases h; rfl) | (cases h; done)
theorem dBool_some {d : D} {i : Bool} (h : dBool d = some i) : d = .bl i := by
  cases d <;> first | (cases h; rfl) | (cases h; done)
theorem map_d {o : Option W} {d : D} (h : o.map W.d = some d) : ∃ w, o = some w ∧ w.d = d := Option.map_eq_some_iff.mp h
/-- the operations -/
theorem op_ok {e1 e2 : Expr} {op : Operator} {o : Op} {x y : D} {w : W} {ρ : Rho} {pos : Pos} (ho : trOp op = some o) (ha : DF X e1 ρ x) (hb : DF X e2 ρ y) (h : opW o x y = some w) : DE X (.BinOp e1 op e2 pos) ρ w := by
  have bits : ∀ {a : Int} {n : Nat}, a.natAbs < 2 ^ n → Builtin.Int.intBits a ≤ n := fun {a n} h => by
    unfold Builtin.Int.intBits
    by_cases z : a = 0
    · rw [if_pos (by simpa using z)]; exact Nat.zero_le _
    · rw [if_neg (by simpa using z)]
      have := (Nat.log2_lt (by omega)).mpr h
      omega
  cases op <;> first | (cases ho; done) | skip
  all_goals cases ho
  all_goals cases x <;> first | (cases h; done) | skip
  all_goals cases y <;> first | (cases h; done) | skip
  · cases h; exact DE.opI0 op_add ha hb fun K F => Den.int_mk
  · cases h; exact DE.opI0 op_sub ha hb fun K F => Den.int_mk
  · rename_i i j
    simp only [opW] at h
    by_cases q : mulOk i j = true
    · rw [if_pos q] at h
      cases h
      unfold mulOk at q
      rw [Bool.and_eq_true] at q
      have q1 := of_decide_eq_true q.1
      have q2 := of_decide_eq_true q.2
      exact DE.opI (C := IntMulOk) (L2.opI fun _ _ _ _ _ _ _ hc q => mul_int q hc) ha hb (PySem.IntMulOk.of_bits (Nat.le_trans (bits q1) (by decide)) (Nat.le_trans (bits q2) (by decide))) fun K F => Den.int_mk
    · rw [if_neg q] at h; cases h
  · rename_i i j
    simp only [opW] at h
    by_cases q : j = 0
    · rw [if_pos q] at h; cases h
    · rw [if_neg q] at h
      cases h
      exact DE.opI op_modN ha hb q fun K F => Den.int_mk
  · rename_i i j
    simp only [opW] at h
    by_cases q : powOk i j = true
    · rw [if_pos q] at h
      cases h
      unfold powOk at q
      rw [Bool.and_eq_true, Bool.and_eq_true] at q
      have q1 := of_decide_eq_true q.1.1
      have q2 := of_decide_eq_true q.1.2
      have q3 := of_decide_eq_true q.2
      exact DE.opI op_pow ha hb ⟨q1, by omega, q3⟩ fun K F => Den.int_mk
    · rw [if_neg q] at h; cases h
  · rename_i i j
    simp only [opW] at h
    by_cases q : divOk j = true
    · rw [if_pos q] at h
      cases h
      unfold divOk at q
      rw [Bool.and_eq_true] at q
      have q1 := of_decide_eq_true q.1
      have q2 := of_decide_eq_true q.2
      refine DE.opI (C := fun i j => j ≠ 0 ∧ j.natAbs < 2 ^ 9000) (L2.opI fun _ _ _ _ _ _ _ hc q => floordiv_int hc.1 q (.inl (PyProof.noPylong_of_log2 ?_))) ha hb ⟨q1, q2⟩ fun K F => Den.int_mk
      refine (Nat.log2_lt ?_).mpr hc.2
      have := hc.1
      omega
    · rw [if_neg q] at h; cases h
end
end DL

set_option maxHeartbeats 4000000
namespace DL
open PySem L2 PyProof.Rows
section
variable {X : Cx} {c : TC} {Γ : Nat → List D → Option W}
theorem two_of {a b : Bool} (h : (a && b) = true) : a = true ∧ b = true := by simpa using h
theorem cmp_ok {op : CmpOp} {o : Cm} {x y : D} {k : Bool} (hu : X.A.units + 64 < cLine) (ho : trCm op = some o) (h : cmpD o x y = some k) : CmpOk X op x y k := by
  have dl : ∀ {l : List D}, dOkL 49 l = true → dOk 50 (.lst l) = true := fun q => by simp only [dOk]; exact q
  have dt : ∀ {l : List D}, dOkL 49 l = true → dOk 50 (.tup l) = true := fun q => by simp only [dOk]; exact q
  cases op <;> first | (cases ho; done) | skip
  all_goals cases ho
  · cases x <;> first | (cases h; done) | skip
    all_goals cases y <;> first | (cases h; done) | skip
    · cases h; exact cmp_eqB
    · cases h; exact cmp_eqI
    · simp only [cmpD] at h
      split at h
      · rename_i q
        cases h
        have z := cmp_eqD (X := X) hu (dt (two_of q).1) (dt (two_of q).2)
        simpa only [eqD] using z
      · cases h
    · simp only [cmpD] at h
      split at h
      · rename_i q
        cases h
        have z := cmp_eqD (X := X) hu (dl (two_of q).1) (dl (two_of q).2)
        simpa only [eqD] using z
      · cases h
  · cases x <;> first | (cases h; done) | skip
    all_goals cases y <;> first | (cases h; done) | skip
    · cases h; exact cmp_neB
    · cases h; exact cmp_neI
    · simp only [cmpD] at h
      split at h
      · rename_i q
        cases h
        have z := cmp_neD (X := X) hu (dt (two_of q).1) (dt (two_of q).2)
        simpa only [eqD] using z
      · cases h
    · simp only [cmpD] at h
      split at h
      · rename_i q
        cases h
        have z := cmp_neD (X := X) hu (dl (two_of q).1) (dl (two_of q).2)
        simpa only [eqD] using z
      · cases h
  · cases x <;> first | (cases h; done) | skip
    all_goals cases y <;> first | (cases h; done) | skip
    cases h; exact cmp_lt
  · cases x <;> first | (cases h; done) | skip
    all_goals cases y <;> first | (cases h; done) | skip
    cases h; exact cmp_le
  · cases x <;> first | (cases h; done) | skip
    all_goals cases y <;> first | (cases h; done) | skip
    cases h; exact cmp_gt
  · cases x <;> first | (cases h; done) | skip
    all_goals cases y <;> first | (cases h; done) | skip
    cases h; exact cmp_ge
  · cases y <;> first | (cases x <;> cases h; done) | skip
    have : isNon x = k := by cases x <;> (cases h; rfl)
    subst this
    exact cmp_isN
  · cases y <;> first | (cases x <;> cases h; done) | skip
    have : (!isNon x) = k := by cases x <;> (cases h; rfl)
    subst this
    exact cmp_notN
  · cases y <;> first | (cases x <;> cases h; done) | skip
    rename_i l
    have h' : (if (dOk 50 x && dOkL 49 l) = true then some (l.any fun y => eqD y x) else none) = some k := by cases x <;> exact h
    split at h'
    · rename_i q
      cases h'
      exact cmp_inD hu (two_of q).1 (two_of q).2
    · cases h'
  · cases y <;> first | (cases x <;> cases h; done) | skip
    rename_i l
    have h' : (if (dOk 50 x && dOkL 49 l) = true then some (!(l.any fun y => eqD y x)) else none) = some k := by cases x <;> exact h
    split at h'
    · rename_i q
      cases h'
      exact cmp_ninD hu (two_of q).1 (two_of q).2
    · cases h'
theorem trTy_some {x : Str} {t : Ty} (h : trTy x = some t) : x = Str.ofString t.nm := by
  unfold trTy at h
  repeat' split at h
  all_goals first | (cases h; assumption) | (cases h; done)
theorem trBi_some {x : Str} {t : Bi} (h : trBi x = some t) : x = Str.ofString t.nm := by
  unfold trBi at h
  repeat' split at h
  all_goals first | (cases h; assumption) | (cases h; done)
theorem bi_ok {b : Bi} {ds : List D} {w : W} (h : biW b ds = some w) : BltOk X (.builtin b.nm) ds w := by
  unfold biW at h
  split at h
  · cases h; exact blt_lenL
  · cases h; exact blt_lenT
  · cases h; exact blt_abs
  · cases h
theorem boot_bi (b : Bi) : bootBuiltins (Str.ofString b.nm) = some (.builtin b.nm) := by cases b <;> decide +kernel
theorem bi_name (b : Bi) : Str.ofString b.nm ≠ "__name__" ∧ Str.ofString b.nm ∈ ([Str.ofString "len", Str.ofString "abs", Str.ofString "isinstance", Str.ofString "int", Str.ofString "bool", Str.ofString "tuple", Str.ofString "list", Str.ofString "range", Str.ofString "enumerate"] : List Str) := by cases b <;> decide +kernel
theorem ty_name (b : Ty) : Str.ofString b.nm ∈ ([Str.ofString "len", Str.ofString "abs", Str.ofString "isinstance", Str.ofString "int", Str.ofString "bool", Str.ofString "tuple", Str.ofString "list", Str.ofString "range", Str.ofString "enumerate"] : List Str) := by cases b <;> decide +kernel
theorem trEs_star : ∀ {n : Nat} {es : List Expr} {l : Es}, trEs n c es = some l → es.all notStar = true
  | 0, _, _, h => by simp only [trEs] at h; cases h
  | n + 1, [], _, _ => rfl
  | n + 1, e :: es, l, h => by
    simp only [trEs] at h
    by_cases q : notStar e = true
    · rw [if_pos q] at h
      obtain ⟨e', _, h⟩ := Option.bind_eq_some_iff.mp h
      obtain ⟨l', h, _⟩ := Option.map_eq_some_iff.mp h
      rw [List.all_cons, q, trEs_star h]; rfl
    · rw [if_neg q] at h; cases h
theorem evs_len : ∀ {l : Es} {ρ : Rho} {ds : List D} {n : Nat} {es : List Expr}, trEs n c es = some l → evs Γ l ρ = some ds → ds.length = es.length := by
  intro l ρ ds n
  induction n generalizing l ds with
  | zero => intro es h; simp only [trEs] at h; cases h
  | succ n ih =>
    intro es h hv
    cases es with
    | nil =>
      simp only [trEs] at h
      cases h
      simp only [evs] at hv
      cases hv; rfl
    | cons e es =>
      simp only [trEs] at h
      by_cases q : notStar e = true
      · rw [if_pos q] at h
        obtain ⟨e', _, h⟩ := Option.bind_eq_some_iff.mp h
        obtain ⟨l', h3, z⟩ := Option.map_eq_some_iff.mp h
        subst z
        simp only [evs] at hv
        obtain ⟨d, _, hv⟩ := Option.bind_eq_some_iff.mp hv
        obtain ⟨ds', hv3, z⟩ := Option.map_eq_some_iff.mp hv
        subst z
        rw [List.length_cons, List.length_cons, ih h3 hv3]
      · rw [if_neg q] at h; cases h

/-- what the small language says of an expression is so -/
theorem tr_ok (hX : XC X c Γ) : ∀ n, (∀ e e' ρ w, trE n c e = some e' → ev Γ e' ρ = some w → DE X e ρ w) ∧ (∀ es l ρ ds, trEs n c es = some l → evs Γ l ρ = some ds → DA X es ρ ds) ∧
    (∀ o o' ρ i, trO n c o = some o' → evo Γ o' ρ = some i → DO X o ρ i) := by
  intro n
  induction n with
  | zero => exact ⟨fun e e' ρ w h => by (simp only [trE] at h; cases h), fun e e' ρ w h => by (simp only [trEs] at h; cases h), fun e e' ρ w h => by (simp only [trO] at h; cases h)⟩
  | succ n ih =>
    obtain ⟨iE, iEs, iO⟩ := ih
    have iF : ∀ {e e' ρ d}, trE n c e = some e' → (ev Γ e' ρ).map W.d = some d → DF X e ρ d := fun {e e' ρ d} h hv => by
      obtain ⟨w, h1, h2⟩ := map_d hv
      subst h2
      exact (iE _ _ _ _ h h1).df
    have iB : ∀ {e e' ρ k}, trE n c e = some e' → ((ev Γ e' ρ).map W.d).bind dBool = some k → DF X e ρ (.bl k) := fun {e e' ρ k} h hv => by
      obtain ⟨d, h1, h2⟩ := Option.bind_eq_some_iff.mp hv
      rw [dBool_some h2] at h1
      exact iF h h1
    have iI : ∀ {e e' ρ k}, trE n c e = some e' → ((ev Γ e' ρ).map W.d).bind dInt = some k → DF X e ρ (.int k) := fun {e e' ρ k} h hv => by
      obtain ⟨d, h1, h2⟩ := Option.bind_eq_some_iff.mp hv
      rw [dInt_some h2] at h1
      exact iF h h1
    refine ⟨fun e e' ρ w h hv => ?_, fun es l ρ ds h hv => ?_, fun o o' ρ i h hv => ?_⟩
    · simp only [trE] at h
      unfold trE1 at h
      split at h
      · -- Name
        obtain ⟨i, h1, h2⟩ := Option.map_eq_some_iff.mp h
        subst h2
        simp only [ev] at hv
        obtain ⟨d, h3, h4⟩ := Option.map_eq_some_iff.mp hv
        subst h4
        obtain ⟨a1, a2, a3, a4⟩ := slot_ok hX h1
        exact (DF.var a1 (Loc.vis a2) a3 a4 (varD_some h3)).de
      · cases h; simp only [ev] at hv; cases hv; exact DF.cint.de
      · cases h; simp only [ev] at hv; cases hv; exact DF.cbl.de
      · cases h; simp only [ev] at hv; cases hv; exact DF.cnon.de
      · -- BinOp
        obtain ⟨o, ho, h⟩ := Option.bind_eq_some_iff.mp h
        obtain ⟨a', ha, h⟩ := Option.bind_eq_some_iff.mp h
        obtain ⟨b', hb, h⟩ := Option.map_eq_some_iff.mp h
        subst h
        simp only [ev] at hv
        obtain ⟨x, hx, hv⟩ := Option.bind_eq_some_iff.mp hv
        obtain ⟨y, hy, hv⟩ := Option.bind_eq_some_iff.mp hv
        exact op_ok ho (iF ha hx) (iF hb hy) hv
      · -- USub
        obtain ⟨a', ha, h⟩ := Option.map_eq_some_iff.mp h
        subst h
        simp only [ev] at hv
        obtain ⟨i, hi, hv⟩ := Option.map_eq_some_iff.mp hv
        subst hv
        exact DE.neg (iI ha hi)
      · -- Not
        obtain ⟨a', ha, h⟩ := Option.map_eq_some_iff.mp h
        subst h
        simp only [ev] at hv
        obtain ⟨i, hi, hv⟩ := Option.map_eq_some_iff.mp hv
        subst hv
        exact DE.not (iB ha hi)
      · exact DE.one (iE _ _ _ _ h hv)
      · exact DE.one (iE _ _ _ _ h hv)
      · -- And
        obtain ⟨a', ha, h⟩ := Option.bind_eq_some_iff.mp h
        obtain ⟨b', hb, h⟩ := Option.map_eq_some_iff.mp h
        subst h
        simp only [ev] at hv
        obtain ⟨k, hk, hv⟩ := Option.bind_eq_some_iff.mp hv
        cases k with
        | true =>
          rw [if_pos rfl] at hv
          exact DE.andT (iB ha hk) (iE _ _ _ _ hb hv)
        | false =>
          rw [if_neg Bool.false_ne_true] at hv
          cases hv
          exact DE.andF (iB ha hk)
      · -- Or
        obtain ⟨a', ha, h⟩ := Option.bind_eq_some_iff.mp h
        obtain ⟨b', hb, h⟩ := Option.map_eq_some_iff.mp h
        subst h
        simp only [ev] at hv
        obtain ⟨k, hk, hv⟩ := Option.bind_eq_some_iff.mp hv
        cases k with
        | true =>
          rw [if_pos rfl] at hv
          cases hv
          exact DE.orT (iB ha hk)
        | false =>
          rw [if_neg Bool.false_ne_true] at hv
          exact DE.orF (iB ha hk) (iE _ _ _ _ hb hv)
      · -- Compare
        split at h
        case isFalse => cases h
        rename_i hmk
        obtain ⟨o, ho, h⟩ := Option.bind_eq_some_iff.mp h
        obtain ⟨a', ha, h⟩ := Option.bind_eq_some_iff.mp h
        obtain ⟨b', hb, h⟩ := Option.map_eq_some_iff.mp h
        subst h
        simp only [ev] at hv
        obtain ⟨x, hx, hv⟩ := Option.bind_eq_some_iff.mp hv
        obtain ⟨y, hy, hv⟩ := Option.bind_eq_some_iff.mp hv
        obtain ⟨k, hk, hv⟩ := Option.map_eq_some_iff.mp hv
        subst hv
        exact DE.cmp (cmp_ok hX.un ho hk) (iF ha hx) (iF hb hy) hmk
      · -- IfExp
        cases h
      · -- Tuple
        obtain ⟨l, hl, h⟩ := Option.map_eq_some_iff.mp h
        subst h
        simp only [ev] at hv
        obtain ⟨ds, hd, hv⟩ := Option.bind_eq_some_iff.mp hv
        by_cases q : ds.length ≤ sizeLine
        · rw [if_pos q] at hv; cases hv
          exact DE.tup (iEs _ _ _ _ hl hd) q
        · rw [if_neg q] at hv; cases hv
      · -- List
        obtain ⟨l, hl, h⟩ := Option.map_eq_some_iff.mp h
        subst h
        simp only [ev] at hv
        obtain ⟨ds, hd, hv⟩ := Option.bind_eq_some_iff.mp hv
        by_cases q : ds.length ≤ sizeLine
        · rw [if_pos q] at hv; cases hv
          exact DE.lst (iEs _ _ _ _ hl hd) q
        · rw [if_neg q] at hv; cases hv
      · -- a slice
        obtain ⟨a', ha, h⟩ := Option.bind_eq_some_iff.mp h
        obtain ⟨l', hl, h⟩ := Option.bind_eq_some_iff.mp h
        obtain ⟨h', hh, h⟩ := Option.map_eq_some_iff.mp h
        subst h
        simp only [ev] at hv
        obtain ⟨x, hx, hv⟩ := Option.bind_eq_some_iff.mp hv
        obtain ⟨i, hi, hv⟩ := Option.bind_eq_some_iff.mp hv
        obtain ⟨j, hj, hv⟩ := Option.bind_eq_some_iff.mp hv
        cases x <;> first | (cases hv; done) | skip
        cases hv
        exact DE.slL (iF ha hx) (iO _ _ _ _ hl hi) (iO _ _ _ _ hh hj)
      · -- a subscript
        split at h
        · rename_i hs
          obtain ⟨a', ha, h⟩ := Option.bind_eq_some_iff.mp h
          obtain ⟨b', hb, h⟩ := Option.map_eq_some_iff.mp h
          subst h
          simp only [ev] at hv
          obtain ⟨x, hx, hv⟩ := Option.bind_eq_some_iff.mp hv
          obtain ⟨y, hy, hv⟩ := Option.bind_eq_some_iff.mp hv
          obtain ⟨d, hd, hv⟩ := Option.map_eq_some_iff.mp hv
          subst hv
          unfold ixD at hd
          split at hd
          · exact DE.ixT (iF ha hx) (iF hb hy) hs hd
          · exact DE.ixL (iF ha hx) (iF hb hy) hs hd
          · cases hd
        · cases h
      · -- a call
        rename_i x p e es pos
        have hdo : headOf c x = headOf c x := rfl
        split at h
        · rename_i f k hh
          split at h
          · rename_i hk
            obtain ⟨l, hl, h⟩ := Option.map_eq_some_iff.mp h
            subst h
            simp only [ev] at hv
            obtain ⟨ds, hd, hv⟩ := Option.bind_eq_some_iff.mp hv
            unfold headOf at hh
            split at hh
            · rename_i hg
              split at hh
              · rename_i f' k' hf
                cases hh
                obtain ⟨g1, g2⟩ := isGl_ok hX hg
                have hst := trEs_star hl
                rw [List.all_cons, Bool.and_eq_true] at hst
                exact DE.call (hX.calls _ _ _ hf) g1 g2 (iEs _ _ _ _ hl hd) ((evs_len hl hd).trans hk) hv hst.1 hst.2
              · split at hh
                · cases hh
                · split at hh <;> cases hh
            · cases hh
          · cases h
        · rename_i b hh
          obtain ⟨l, hl, h⟩ := Option.map_eq_some_iff.mp h
          subst h
          simp only [ev] at hv
          obtain ⟨ds, hd, hv⟩ := Option.bind_eq_some_iff.mp hv
          unfold headOf at hh
          split at hh
          · rename_i hg
            split at hh
            · cases hh
            · split at hh
              · rename_i b' hb
                cases hh
                obtain ⟨g1, g2⟩ := isGl_ok hX hg
                have hst := trEs_star hl
                rw [List.all_cons, Bool.and_eq_true] at hst
                have e1 := trBi_some hb
                subst e1
                exact DE.blt (bi_ok hv) g1 (hX.blt _ (bi_name b).2) (boot_bi b) (bi_name b).1 g2 (iEs _ _ _ _ hl hd) hst.1 hst.2
              · split at hh <;> cases hh
          · cases hh
        · rename_i hh
          split at h
          · rename_i y p2
            have hs1 : Gl X "isinstance" := by
              unfold headOf at hh
              split at hh
              · rename_i hg
                split at hh
                · cases hh
                · split at hh
                  · cases hh
                  · split at hh
                    · rename_i ex
                      subst ex
                      exact (isGl_ok hX hg).1
                    · cases hh
              · cases hh
            have ex : x = ("isinstance" : Str) := by
              unfold headOf at hh
              split at hh
              · split at hh
                · cases hh
                · split at hh
                  · cases hh
                  · split at hh
                    · rename_i ex; exact ex
                    · cases hh
              · cases hh
            subst ex
            split at h
            · rename_i hgy
              obtain ⟨g3, g4⟩ := isGl_ok hX hgy.1
              split at h
              · rename_i t ht
                obtain ⟨e', he, h⟩ := Option.map_eq_some_iff.mp h
                subst h
                simp only [ev] at hv
                obtain ⟨d, hd, hv⟩ := Option.bind_eq_some_iff.mp hv
                obtain ⟨k, hk, hv⟩ := Option.map_eq_some_iff.mp hv
                subst hv
                have e1 := trTy_some ht
                subst e1
                have e2 : k = isTy t d := by
                  unfold isTyO at hk
                  split at hk
                  · cases hk
                  · cases hk; rfl
                subst e2
                exact DE.isi hk (iF he hd) hgy.2 hs1 (hX.blt _ (by decide +kernel)) rfl g3 (hX.blt _ (ty_name t))
              · split at h
                · rename_i hc
                  obtain ⟨e', he, h⟩ := Option.map_eq_some_iff.mp h
                  subst h
                  simp only [ev] at hv
                  obtain ⟨d, hd, hv⟩ := Option.bind_eq_some_iff.mp hv
                  obtain ⟨k, hk, hv⟩ := Option.map_eq_some_iff.mp hv
                  subst hv
                  exact DE.isX1 (hX.xf hc.1) (iF he hd) hgy.2 hs1 (hX.blt _ (by decide +kernel)) hc.2 g3 hk
                · cases h
            · cases h
          · rename_i y p2 z p3 x1 p4
            have hs1 : Gl X "isinstance" := by
              unfold headOf at hh
              split at hh
              · rename_i hg
                split at hh
                · cases hh
                · split at hh
                  · cases hh
                  · split at hh
                    · rename_i ex
                      subst ex
                      exact (isGl_ok hX hg).1
                    · cases hh
              · cases hh
            have ex : x = ("isinstance" : Str) := by
              unfold headOf at hh
              split at hh
              · split at hh
                · cases hh
                · split at hh
                  · cases hh
                  · split at hh
                    · rename_i ex; exact ex
                    · cases hh
              · cases hh
            subst ex
            split at h
            · rename_i hc
              obtain ⟨e', he, h⟩ := Option.map_eq_some_iff.mp h
              subst h
              simp only [ev] at hv
              obtain ⟨d, hd, hv⟩ := Option.bind_eq_some_iff.mp hv
              obtain ⟨k, hk, hv⟩ := Option.map_eq_some_iff.mp hv
              subst hv
              exact DE.isX2 (hX.xf hc.2.2.2.1) (iF he hd) hc.2.2.1 hs1 (hX.blt _ (by decide +kernel)) hc.2.2.2.2.1 (isGl_ok hX hc.1).1 hc.2.2.2.2.2 (isGl_ok hX hc.2.1).1 hk
            · cases h
          · cases h
        · cases h
      · cases h
    · cases es with
      | nil =>
        simp only [trEs] at h
        cases h
        simp only [evs] at hv
        cases hv
        exact DA.nil
      | cons e es =>
        simp only [trEs] at h
        by_cases q : notStar e = true
        · rw [if_pos q] at h
          obtain ⟨e', he, h⟩ := Option.bind_eq_some_iff.mp h
          obtain ⟨l', h3, z⟩ := Option.map_eq_some_iff.mp h
          subst z
          simp only [evs] at hv
          obtain ⟨d, hd, hv⟩ := Option.bind_eq_some_iff.mp hv
          obtain ⟨ds', hv3, z⟩ := Option.map_eq_some_iff.mp hv
          subst z
          exact DA.cons (iF he hd) (iEs _ _ _ _ h3 hv3) q
        · rw [if_neg q] at h; cases h
    · cases o with
      | none =>
        simp only [trO] at h
        cases h
        simp only [evo] at hv
        cases hv
        exact DO.none
      | some e =>
        simp only [trO] at h
        obtain ⟨e', he, h⟩ := Option.map_eq_some_iff.mp h
        subst h
        simp only [evo] at hv
        obtain ⟨i, hi, hv⟩ := Option.map_eq_some_iff.mp hv
        subst hv
        exact DO.some (iI he hi)
end
end DL

set_option maxHeartbeats 4000000
namespace DL
open PySem L2 PyProof.Rows

def isComp : Expr → Bool
  | .ListComp _ _ _ _ => true
  | .SetComp _ _ _ _ => true
  | .DictComp _ _ _ _ _ => true
  | _ => false
theorem noSwap {e t : Expr} {line : Nat} {env : Env} (h : isComp e = false) : swapsWith e (some t) line env = pure false := by
  cases e <;> first | rfl | (cases h; done)
def isTup : Expr → Bool
  | .Tuple _ _ _ => true
  | _ => false
theorem noStores {e t : Expr} {env : Env} (h : isTup e = false) : swappedStores [t] e env = pure none := by
  cases e <;> first | (cases h; done) | (cases t <;> rfl)
def isSet : Expr → Bool
  | .Set _ _ _ => true
  | _ => false
theorem noSet {e : Expr} {env : Env} (h : isSet e = false) : ∀ x, foldedSetIterable e env x = pure x := fun x => by
  cases e <;> first | (cases h; done) | rfl
theorem swap_ok {x y : Str} {a b : Expr} {px py pt p2 : Pos} {kt k2 : Nat} {env : Env} (hk : env.scope.kind = .function) (hx : env.scope.names.lookup x = some .local) (hy : env.scope.names.lookup y = some .local) (hl : (px.line == py.line) = true) (hxy : x ≠ y)
    (ha : notStar a = true) (hb : notStar b = true) (h1 : ([a, b].all (foldedForSure 8)) = false) (h2 : ([a, b].all (constantsAlone 8)) = false) :
    swappedStores [.Tuple [.Name x px, .Name y py] kt pt] (.Tuple [a, b] k2 p2) env = pure (some [x, y]) := by
  have hbk : env.blockKind = .function := by unfold Env.blockKind; rw [hk]; rfl
  have kx : (env.kindOf x == some NameKind.local) = true := by unfold Env.kindOf; rw [hx]; rfl
  have ky : (env.kindOf y == some NameKind.local) = true := by unfold Env.kindOf; rw [hy]; rfl
  have e1 : (y == x) = false := by
    cases q : (y == x) with
    | false => rfl
    | true => exact absurd (eq_of_beq q).symm hxy
  have k1 : env.kindOf x = some NameKind.local := hx
  have k2 : env.kindOf y = some NameKind.local := hy
  have l1 : py.line = px.line := (eq_of_beq hl).symm
  have p1 : (Expr.Name x px).pos = px := rfl
  unfold swappedStores
  simp only [List.length_cons, List.length_nil, hbk, h1, h2]
  simp [List.eraseDups, List.eraseDupsBy, List.eraseDupsBy.loop, e1, hxy, Ne.symm hxy]
  rw [if_neg (by
    rintro (h | h)
    · revert ha h; cases a <;> simp [notStar]
    · revert hb h; cases b <;> simp [notStar])]
  simp [List.filterMap_cons, k1, k2, l1, p1, List.eraseDups, List.eraseDupsBy, List.eraseDupsBy.loop, e1, hxy, Ne.symm hxy]
end DL

set_option maxHeartbeats 4000000
namespace DL
open PySem L2 PyProof.Rows

def slots (c : TC) : List Expr → Option (List Nat)
  | [] => some []
  | .Name x _ :: es => (slot c x).bind fun i => (slots c es).map fun l => i :: l
  | _ => none
def trTg (c : TC) : Expr → Option Tg
  | .Name x _ => (slot c x).map Tg.name
  | .Tuple es _ _ => (slots c es).map Tg.tup
  | _ => none
def isB (c : TC) (x : Str) (y : String) : Bool := isGl c x && (c.fns.lookup x).isNone && decide (x = Str.ofString y)
def trI (n : Nat) (c : TC) (tg : Expr) : Expr → Option It'
  | .Call (.Name x p) [a] [] q => if isB c x "range" = true ∧ notStar a = true then (trE n c a).map It'.range1 else if isB c x "enumerate" = true ∧ notStar a = true ∧ isTup tg = true then (trE n c a).map It'.enum else (trE n c (.Call (.Name x p) [a] [] q)).map It'.seq
  | .Call (.Name x p) [a, b] [] q => if isB c x "range" = true ∧ notStar a = true ∧ notStar b = true then (trE n c a).bind fun a' => (trE n c b).map fun b' => It'.range2 a' b' else (trE n c (.Call (.Name x p) [a, b] [] q)).map It'.seq
  | e => if isSet e = false then (trE n c e).map It'.seq else none
def trS1 (n : Nat) (rSs : List Stmt → Option Ss) (c : TC) : Stmt → Option S
  | .Assign [.Name x _] e _ => if isComp e = false then (slot c x).bind fun i => (trE n c e).map (S.asg i) else none
  | .Assign [.Tuple [.Name x px, .Name y py] _ _] (.Tuple [a, b] _ _) _ =>
    if (px.line == py.line) = true ∧ x ≠ y ∧ notStar a = true ∧ notStar b = true ∧ ([a, b].all (foldedForSure 8)) = false ∧ ([a, b].all (constantsAlone 8)) = false ∧ c.sc.names.lookup x = some .local ∧ c.sc.names.lookup y = some .local then
      (slot c x).bind fun i => (slot c y).bind fun j => (trE n c a).bind fun a' => (trE n c b).map fun b' => S.par i j a' b'
    else none
  | .Assign [.Tuple ts _ _] e _ => if isComp e = false ∧ isTup e = false then (slots c ts).bind fun is => (trE n c e).map (S.unp is) else none
  | .Return (some (.Name x _)) _ => (slot c x).map S.retV
  | .Return (some e) _ => (trE n c e).map S.ret
  | .If t a b _ => (trT n c t).bind fun t' => (rSs a).bind fun a' => (rSs b).map fun b' => S.iff t' a' b'
  | .While t b [] _ => (trT n c t).bind fun t' => (rSs b).map fun b' => S.whl t' b'
  | .For tg it b [] _ => (trTg c tg).bind fun g => (trI n c tg it).bind fun i => (rSs b).map fun b' => S.frr g i b'
  | .Try [.Expr (.Call (.Name x _) (e :: es) [] _) _] [.ExceptHandler (some (.Name xF _)) (some m) [.Assign [.Name y _] (.Name m' _) _] _] [] [] _ =>
    if c.xs = true ∧ isGl c x = true ∧ isGl c xF = true ∧ xF = ("FitError" : Str) ∧ m = m' ∧ c.sc.names.lookup y = some .local ∧ c.sc.names.lookup m = some .local then
      (c.fns.lookup x).bind fun p => (c.rzs.lookup x).bind fun q => if (e :: es).length = p.2 ∧ p.2 = q.2 then (slot c y).bind fun i => (slot c m).bind fun j => (trEs n c (e :: es)).map fun l => S.tryC p.1 q.1 l i j else none
    else none
  | _ => some .never
mutual
def trS : Nat → TC → Stmt → Option S
  | 0, _, _ => none
  | n + 1, c, s => trS1 n (trSs n c) c s
def trSs : Nat → TC → List Stmt → Option Ss
  | 0, _, _ => none
  | n + 1, c, [] => some .nil
  | n + 1, c, s :: l => (trS n c s).bind fun s' => (trSs n c l).map fun l' => .cons s' l'
end

section
variable {X : Cx} {c : TC} {Γ : Nat → List D → Option W}
theorem iF_ok (hX : XC X c Γ) {n : Nat} {e : Expr} {e' : E} {ρ : Rho} {d : D} (h : trE n c e = some e') (hv : (ev Γ e' ρ).map W.d = some d) : DF X e ρ d := by
  obtain ⟨w, h1, h2⟩ := map_d hv
  subst h2
  exact ((tr_ok hX n).1 _ _ _ _ h h1).df
theorem iB_ok (hX : XC X c Γ) {n : Nat} {e : Expr} {e' : E} {ρ : Rho} {k : Bool} (h : trE n c e = some e') (hv : ((ev Γ e' ρ).map W.d).bind dBool = some k) : DF X e ρ (.bl k) := by
  obtain ⟨d, h1, h2⟩ := Option.bind_eq_some_iff.mp hv
  rw [dBool_some h2] at h1
  exact iF_ok hX h h1
theorem iI_ok (hX : XC X c Γ) {n : Nat} {e : Expr} {e' : E} {ρ : Rho} {k : Int} (h : trE n c e = some e') (hv : ((ev Γ e' ρ).map W.d).bind dInt = some k) : DF X e ρ (.int k) := by
  obtain ⟨d, h1, h2⟩ := Option.bind_eq_some_iff.mp hv
  rw [dInt_some h2] at h1
  exact iF_ok hX h h1
theorem trT_ok (hX : XC X c Γ) : ∀ n, (∀ e e' ρ k, trT n c e = some e' → ((ev Γ e' ρ).map W.d).bind dBool = some k → DT X e ρ k) ∧
    (∀ op es p e' ρ k, trT n c (.BoolOp op es p) = some e' → ((ev Γ e' ρ).map W.d).bind dBool = some k → DW X (.BoolOp op es p) ρ k) := by
  intro n
  induction n with
  | zero => exact ⟨fun e e' ρ w h => by (simp only [trT] at h; cases h), fun op es p e' ρ w h => by (simp only [trT] at h; cases h)⟩
  | succ n ih =>
    obtain ⟨iT, iW⟩ := ih
    have hW : ∀ op es p e' ρ k, trT (n + 1) c (.BoolOp op es p) = some e' → ((ev Γ e' ρ).map W.d).bind dBool = some k → DW X (.BoolOp op es p) ρ k := by
      intro op es p e' ρ k h hv
      simp only [trT] at h
      unfold trT1 at h
      split at h
      · rename_i z; cases z
      · rename_i z; cases z; exact DW.and1 (iT _ _ _ _ h hv)
      · rename_i z; cases z; exact DW.or1 (iT _ _ _ _ h hv)
      · rename_i z
        cases z
        obtain ⟨a', ha, h⟩ := Option.bind_eq_some_iff.mp h
        obtain ⟨b', hb, h⟩ := Option.map_eq_some_iff.mp h
        subst h
        simp only [ev] at hv
        obtain ⟨d, hd0, hv⟩ := Option.bind_eq_some_iff.mp hv
        obtain ⟨w, hd1, z⟩ := map_d hd0
        subst z
        obtain ⟨k1, hk, hd⟩ := Option.bind_eq_some_iff.mp hd1
        cases k1 with
        | true =>
          rw [if_pos rfl] at hd
          exact DW.andT (iT _ _ _ _ ha hk) (iW _ _ _ _ _ _ hb (by rw [hd]; exact hv))
        | false =>
          rw [if_neg Bool.false_ne_true] at hd
          cases hd
          cases hv
          exact DW.andF (iT _ _ _ _ ha hk) pw_never
      · rename_i z
        cases z
        obtain ⟨a', ha, h⟩ := Option.bind_eq_some_iff.mp h
        obtain ⟨b', hb, h⟩ := Option.map_eq_some_iff.mp h
        subst h
        simp only [ev] at hv
        obtain ⟨d, hd0, hv⟩ := Option.bind_eq_some_iff.mp hv
        obtain ⟨w, hd1, z⟩ := map_d hd0
        subst z
        obtain ⟨k1, hk, hd⟩ := Option.bind_eq_some_iff.mp hd1
        cases k1 with
        | true =>
          rw [if_pos rfl] at hd
          cases hd
          cases hv
          exact DW.orT (iT _ _ _ _ ha hk) pw_never
        | false =>
          rw [if_neg Bool.false_ne_true] at hd
          exact DW.orF (iT _ _ _ _ ha hk) (iW _ _ _ _ _ _ hb (by rw [hd]; exact hv))
      · rename_i z; cases z
      · rw [if_neg (by simp [plainTest])] at h
        cases h
    refine ⟨fun e e' ρ k h hv => ?_, hW⟩
    have h0 := h
    simp only [trT] at h
    unfold trT1 at h
    split at h
    · obtain ⟨a', ha, h⟩ := Option.map_eq_some_iff.mp h
      subst h
      simp only [ev] at hv
      obtain ⟨d, hd0, hv⟩ := Option.bind_eq_some_iff.mp hv
      obtain ⟨w, hd1, z⟩ := map_d hd0
      subst z
      obtain ⟨k1, hk, hd⟩ := Option.map_eq_some_iff.mp hd1
      subst hd
      cases hv
      exact DT.not (iT _ _ _ _ ha hk)
    · exact (hW _ _ _ _ _ _ h0 hv).dt
    · exact (hW _ _ _ _ _ _ h0 hv).dt
    · exact (hW _ _ _ _ _ _ h0 hv).dt
    · exact (hW _ _ _ _ _ _ h0 hv).dt
    · split at h
      case isFalse => cases h
      rename_i hmk
      obtain ⟨o, ho, h⟩ := Option.bind_eq_some_iff.mp h
      obtain ⟨a', ha, h⟩ := Option.bind_eq_some_iff.mp h
      obtain ⟨b', hb, h⟩ := Option.map_eq_some_iff.mp h
      subst h
      simp only [ev] at hv
      obtain ⟨d, hd0, hv⟩ := Option.bind_eq_some_iff.mp hv
      obtain ⟨w, hd1, z⟩ := map_d hd0
      subst z
      obtain ⟨x, hx, hd2⟩ := Option.bind_eq_some_iff.mp hd1
      obtain ⟨y, hy, hd3⟩ := Option.bind_eq_some_iff.mp hd2
      obtain ⟨k1, hk, hd⟩ := Option.map_eq_some_iff.mp hd3
      subst hd
      cases hv
      exact DT.cmp (cmp_ok hX.un ho hk) (iF_ok hX ha hx) (iF_ok hX hb hy) hmk
    · split at h
      · rename_i hp
        exact DT.val (iB_ok hX h hv) (plainTest_ok hp)
      · cases h

theorem setR_some {ρ ρ' : RhoS} {i : Nat} {b : B} (h : setR ρ i b = some ρ') : i < ρ.length ∧ ρ' = ρ.set i (some b) := by
  unfold setR at h
  by_cases q : i < ρ.length
  · rw [if_pos q] at h; cases h; exact ⟨q, rfl⟩
  · rw [if_neg q] at h; cases h
theorem slots_ok (hX : XC X c Γ) : ∀ {ts : List Expr} {is : List Nat} {ds : List D} {ρ ρ' : RhoS}, slots c ts = some is → bindAll is ds ρ = some ρ' → DGs X ts ds ρ ρ' ∧ ts.all notStar = true ∧ ds.length = ts.length
  | [], is, ds, ρ, ρ', h, hb => by
    simp only [slots] at h
    cases h
    cases ds with
    | nil => cases hb; exact ⟨DGs.nil, rfl, rfl⟩
    | cons d ds => cases hb
  | t :: ts, is, ds, ρ, ρ', h, hb => by
    unfold slots at h
    split at h
    · rename_i z; cases z
    · rename_i x p es z
      cases z
      obtain ⟨i, hi, h⟩ := Option.bind_eq_some_iff.mp h
      obtain ⟨l, hl, h⟩ := Option.map_eq_some_iff.mp h
      subst h
      cases ds with
      | nil => cases hb
      | cons d ds =>
        simp only [bindAll] at hb
        obtain ⟨ρ1, h1, hb⟩ := Option.bind_eq_some_iff.mp hb
        obtain ⟨q, e⟩ := setR_some h1
        subst e
        obtain ⟨g, g2, g3⟩ := slots_ok hX hl hb
        obtain ⟨a1, a2, a3, a4⟩ := slot_ok hX hi
        refine ⟨DGs.cons (DG.name (by rw [hX.hN]; exact hX.nd) a1 a2 (.inl (hX.fn _)) q) g rfl, by rw [List.all_cons, g2]; rfl, by rw [List.length_cons, List.length_cons, g3]⟩
    · cases h
theorem trTg_ok (hX : XC X c Γ) {tg : Expr} {t : Tg} (h : trTg c tg = some t) {d : D} {ρ ρ' : RhoS} (hb : bindTg t d ρ = some ρ') : DG X tg d ρ ρ' := by
  unfold trTg at h
  split at h
  · obtain ⟨i, hi, h⟩ := Option.map_eq_some_iff.mp h
    subst h
    simp only [bindTg] at hb
    obtain ⟨q, e⟩ := setR_some hb
    subst e
    obtain ⟨a1, a2, a3, a4⟩ := slot_ok hX hi
    exact DG.name (by rw [hX.hN]; exact hX.nd) a1 a2 (.inl (hX.fn _)) q
  · obtain ⟨l, hl, h⟩ := Option.map_eq_some_iff.mp h
    subst h
    cases d <;> first | (simp only [bindTg] at hb; cases hb; done) | skip
    simp only [bindTg] at hb
    obtain ⟨g, g2, g3⟩ := slots_ok hX hl hb
    exact DG.tup hX.calm g g2 g3
  · cases h
theorem isB_ok (hX : XC X c Γ) {x : Str} {y : String} (h : isB c x y = true) : Gl X x ∧ x = Str.ofString y := by
  unfold isB at h
  rw [Bool.and_eq_true, Bool.and_eq_true] at h
  exact ⟨(isGl_ok hX h.1.1).1, of_decide_eq_true h.2⟩
theorem seq_ok (hX : XC X c Γ) {n : Nat} {tg e : Expr} {e' : E} {ρ ρ' : RhoS} {l : List D} (h : trE n c e = some e') (hv : evI Γ (.seq e') ρ = some (l, ρ')) : DI X tg e ρ l ρ' := by
  simp only [evI] at hv
  obtain ⟨w, hw, hv⟩ := Option.bind_eq_some_iff.mp hv
  split at hv
  · rename_i l' hl
    cases hv
    exact DI.list ((tr_ok hX n).1 _ _ _ _ h hw) hl
  · rename_i l' hl
    cases hv
    exact DI.tup ((tr_ok hX n).1 _ _ _ _ h hw) hl
  · cases hv
theorem trI_ok (hX : XC X c Γ) {n : Nat} {tg e : Expr} {i : It'} {ρ ρ' : RhoS} {l : List D} (h : trI n c tg e = some i) (hv : evI Γ i ρ = some (l, ρ')) : DI X tg e ρ l ρ' ∧ isSet e = false := by
  unfold trI at h
  split at h
  · refine ⟨?_, rfl⟩
    split at h
    · rename_i q
      obtain ⟨a', ha, h⟩ := Option.map_eq_some_iff.mp h
      subst h
      simp only [evI] at hv
      obtain ⟨m, hm, hv⟩ := Option.bind_eq_some_iff.mp hv
      split at hv
      · rename_i z
        cases hv
        obtain ⟨g1, g2⟩ := isB_ok hX q.1
        subst g2
        exact DI.range1 g1 (hX.blt _ (by decide +kernel)) (DA.cons (iI_ok hX ha hm) DA.nil q.2) q.2 z.1 z.2
      · cases hv
    · split at h
      · rename_i q
        obtain ⟨a', ha, h⟩ := Option.map_eq_some_iff.mp h
        subst h
        simp only [evI] at hv
        obtain ⟨w, hw, hv⟩ := Option.bind_eq_some_iff.mp hv
        split at hv
        · rename_i l' hl
          cases hv
          obtain ⟨g1, g2⟩ := isB_ok hX q.1
          subst g2
          have hd : DF X _ (view ρ) (.lst l') := iF_ok hX ha (by rw [hw]; exact congrArg some hl)
          cases tg <;> first | (cases q.2.2; done) | skip
          exact DI.enum g1 (hX.blt _ (by decide +kernel)) (DA.cons hd DA.nil q.2.1) q.2.1
        · cases hv
      · obtain ⟨e', he, h⟩ := Option.map_eq_some_iff.mp h
        subst h
        exact seq_ok hX he hv
  · refine ⟨?_, rfl⟩
    split at h
    · rename_i q
      obtain ⟨a', ha, h⟩ := Option.bind_eq_some_iff.mp h
      obtain ⟨b', hb, h⟩ := Option.map_eq_some_iff.mp h
      subst h
      simp only [evI] at hv
      obtain ⟨m, hm, hv⟩ := Option.bind_eq_some_iff.mp hv
      obtain ⟨m2, hm2, hv⟩ := Option.bind_eq_some_iff.mp hv
      split at hv
      · rename_i z
        cases hv
        obtain ⟨g1, g2⟩ := isB_ok hX q.1
        subst g2
        exact DI.range2 g1 (hX.blt _ (by decide +kernel)) (DA.cons (iI_ok hX ha hm) (DA.cons (iI_ok hX hb hm2) DA.nil q.2.2) q.2.1) q.2.1 q.2.2 z
      · cases hv
    · obtain ⟨e', he, h⟩ := Option.map_eq_some_iff.mp h
      subst h
      exact seq_ok hX he hv
  · split at h
    · rename_i q
      obtain ⟨e', he, h⟩ := Option.map_eq_some_iff.mp h
      subst h
      exact ⟨seq_ok hX he hv, q⟩
    · cases h

/-- what the small language says of a body is so -/
theorem trS_ok (hX : XC X c Γ) : ∀ n, (∀ s s' ρ o, trS n c s = some s' → ex Γ s' ρ = some o → DS X s ρ o) ∧ (∀ l l' ρ o, trSs n c l = some l' → exs Γ l' ρ = some o → DSs X l ρ o) := by
  intro n
  induction n with
  | zero => exact ⟨fun e e' ρ w h => by (simp only [trS] at h; cases h), fun e e' ρ w h => by (simp only [trSs] at h; cases h)⟩
  | succ n ih =>
    obtain ⟨iS, iSs⟩ := ih
    refine ⟨fun s s' ρ o h hv => ?_, fun l l' ρ o h hv => ?_⟩
    · simp only [trS] at h
      unfold trS1 at h
      split at h
      · -- name = e
        split at h
        · rename_i hc
          obtain ⟨i, hi, h⟩ := Option.bind_eq_some_iff.mp h
          obtain ⟨e', he, h⟩ := Option.map_eq_some_iff.mp h
          subst h
          simp only [ex] at hv
          obtain ⟨w, hw, hv⟩ := Option.bind_eq_some_iff.mp hv
          obtain ⟨ρ1, h1, hv⟩ := Option.map_eq_some_iff.mp hv
          subst hv
          obtain ⟨q, e1⟩ := setR_some h1
          subst e1
          obtain ⟨a1, a2, a3, a4⟩ := slot_ok hX hi
          have hl : i < ρ.length := by
            have : (after w ρ).length = ρ.length := by unfold after; split; rfl; unfold frz; rw [List.length_map]
            rw [this] at q; exact q
          exact DS.asg (by rw [hX.hN]; exact hX.nd) a1 a2 (.inl (hX.fn _)) (noSwap hc) hl ((tr_ok hX n).1 _ _ _ _ he hw)
        · cases h
      · -- x, y = a, b
        split at h
        · rename_i q
          obtain ⟨q1, q2, q3, q4, q5, q6, q7, q8⟩ := q
          obtain ⟨i, hi, h⟩ := Option.bind_eq_some_iff.mp h
          obtain ⟨j, hj, h⟩ := Option.bind_eq_some_iff.mp h
          obtain ⟨a', ha, h⟩ := Option.bind_eq_some_iff.mp h
          obtain ⟨b', hb, h⟩ := Option.map_eq_some_iff.mp h
          subst h
          simp only [ex] at hv
          obtain ⟨x, hx, hv⟩ := Option.bind_eq_some_iff.mp hv
          obtain ⟨y, hy, hv⟩ := Option.bind_eq_some_iff.mp hv
          split at hv
          · rename_i z
            cases hv
            obtain ⟨a1, a2, a3, a4⟩ := slot_ok hX hi
            obtain ⟨b1, b2, b3, b4⟩ := slot_ok hX hj
            have sx := q7
            have sy := q8
            rw [← hX.hsc] at sx sy
            exact DS.par hX.calm (by rw [hX.hN]; exact hX.nd) a1 b1 z.2.2.1 sx sy (DA.cons (iF_ok hX ha hx) (DA.cons (iF_ok hX hb hy) DA.nil q4) q3) z.2.2.2.1 z.2.2.2.2 z.1 z.2.1 (swap_ok hX.kind sx sy q1 q2 q3 q4 q5 q6)
          · cases hv
        · cases h
      · -- targets = e
        split at h
        · rename_i q
          obtain ⟨is, hi, h⟩ := Option.bind_eq_some_iff.mp h
          obtain ⟨e', he, h⟩ := Option.map_eq_some_iff.mp h
          subst h
          simp only [ex] at hv
          obtain ⟨w, hw, hv⟩ := Option.bind_eq_some_iff.mp hv
          obtain ⟨ρ1, h1, hv⟩ := Option.map_eq_some_iff.mp hv
          subst hv
          exact DS.asgT ((tr_ok hX n).1 _ _ _ _ he hw) (trTg_ok hX (by show (slots c _).map Tg.tup = _; rw [hi]; rfl) h1) (by unfold swapsWithSole; exact noSwap q.1) (noStores q.2) rfl
        · cases h
      · -- return x
        obtain ⟨i, hi, h⟩ := Option.map_eq_some_iff.mp h
        subst h
        simp only [ex] at hv
        obtain ⟨a1, a2, a3, a4⟩ := slot_ok hX hi
        split at hv
        · rename_i l e
          cases hv
          exact DS.retOwn a1 (Loc.vis a2) a3 a4 e
        · rename_i d e
          cases hv
          refine DS.ret (DF.var a1 (Loc.vis a2) a3 a4 ?_).de
          unfold view
          rw [List.getElem?_map, e]; rfl
        · cases hv
      · obtain ⟨e', he, h⟩ := Option.map_eq_some_iff.mp h
        subst h
        simp only [ex] at hv
        obtain ⟨w, hw, hv⟩ := Option.map_eq_some_iff.mp hv
        subst hv
        exact DS.ret ((tr_ok hX n).1 _ _ _ _ he hw)
      · -- if
        obtain ⟨t', ht, h⟩ := Option.bind_eq_some_iff.mp h
        obtain ⟨a', ha, h⟩ := Option.bind_eq_some_iff.mp h
        obtain ⟨b', hb, h⟩ := Option.map_eq_some_iff.mp h
        subst h
        simp only [ex] at hv
        obtain ⟨k, hk, hv⟩ := Option.bind_eq_some_iff.mp hv
        cases k with
        | true =>
          rw [if_pos rfl] at hv
          exact DS.ifT ((trT_ok hX n).1 _ _ _ _ ht hk) (iSs _ _ _ _ ha hv)
        | false =>
          rw [if_neg Bool.false_ne_true] at hv
          exact DS.ifF ((trT_ok hX n).1 _ _ _ _ ht hk) (iSs _ _ _ _ hb hv)
      · -- while
        obtain ⟨t', ht, h⟩ := Option.bind_eq_some_iff.mp h
        obtain ⟨b', hb, h⟩ := Option.map_eq_some_iff.mp h
        subst h
        simp only [ex] at hv
        obtain ⟨m, hm⟩ := whileD_inv hv
        exact DS.while_ hX.po (fun ρ k hk => (trT_ok hX n).1 _ _ _ _ ht hk) (fun ρ o ho => iSs _ _ _ _ hb ho) hm
      · -- for
        obtain ⟨g, hg, h⟩ := Option.bind_eq_some_iff.mp h
        obtain ⟨i, hi, h⟩ := Option.bind_eq_some_iff.mp h
        obtain ⟨b', hb, h⟩ := Option.map_eq_some_iff.mp h
        subst h
        simp only [ex] at hv
        obtain ⟨⟨l, ρ1⟩, hl, hv⟩ := Option.bind_eq_some_iff.mp hv
        obtain ⟨d1, d2⟩ := trI_ok hX hi hl
        exact DS.for_ hX.po hX.calm d1 (fun d ρ ρ' hd => trTg_ok hX hg hd) (fun ρ o ho => iSs _ _ _ _ hb ho) hv (noSet d2)
      · -- try
        split at h
        · rename_i q
          obtain ⟨q1, q2, q3, q4, q5, q6, q7⟩ := q
          subst q5
          obtain ⟨⟨f, k1⟩, hf, h⟩ := Option.bind_eq_some_iff.mp h
          obtain ⟨⟨g, k2⟩, hg, h⟩ := Option.bind_eq_some_iff.mp h
          split at h
          · rename_i hk
            obtain ⟨i, hi, h⟩ := Option.bind_eq_some_iff.mp h
            obtain ⟨j, hj, h⟩ := Option.bind_eq_some_iff.mp h
            obtain ⟨l, hl, h⟩ := Option.map_eq_some_iff.mp h
            subst h
            simp only [ex] at hv
            obtain ⟨ds, hd, hv⟩ := Option.bind_eq_some_iff.mp hv
            have hst := trEs_star hl
            rw [List.all_cons, Bool.and_eq_true] at hst
            have hlen := evs_len hl hd
            obtain ⟨g1, g2⟩ := isGl_ok hX q2
            obtain ⟨g3, g4⟩ := isGl_ok hX q3
            obtain ⟨a1, a2, a3, a4⟩ := slot_ok hX hi
            obtain ⟨b1, b2, b3, b4⟩ := slot_ok hX hj
            have sx := q6
            have sy := q7
            rw [← hX.hsc] at sx sy
            have hda := (tr_ok hX n).2.1 _ _ _ _ hl hd
            split at hv
            · rename_i z hz
              split at hv
              · rename_i c3
                cases hv
                exact DS.tryR hX.st hX.fr (hX.xf q1) (hX.rz _ _ _ hg) g1 g2 (by rw [hX.nx]; exact hda) (hlen.trans (hk.1.trans hk.2)) hz c3.1 hst.1 hst.2 q4 g3 (by rw [hX.hN]; exact hX.nd) a1 sx b1 sy b3 b4 c3.2.1 c3.2.2
              · cases hv
            · obtain ⟨w, hw, hv⟩ := Option.map_eq_some_iff.mp hv
              subst hv
              exact DS.tryN (by rw [hX.nx]; exact DE.call (hX.calls _ _ _ hf) g1 g2 hda (hlen.trans hk.1) hw hst.1 hst.2)
          · cases h
        · cases h
      · cases h
        simp only [ex] at hv
        cases hv
    · cases l with
      | nil =>
        simp only [trSs] at h
        cases h
        simp only [exs] at hv
        cases hv
        exact DSs.nil
      | cons s l =>
        simp only [trSs] at h
        obtain ⟨s', hs, h⟩ := Option.bind_eq_some_iff.mp h
        obtain ⟨l2, hl, h⟩ := Option.map_eq_some_iff.mp h
        subst h
        simp only [exs] at hv
        obtain ⟨o1, h1, hv⟩ := Option.bind_eq_some_iff.mp hv
        cases o1 with
        | nx ρ1 => exact DSs.next (iS _ _ _ _ hs h1) (iSs _ _ _ _ hl hv)
        | rt w => cases hv; exact DSs.ret (iS _ _ _ _ hs h1)
end
end DL

set_option maxHeartbeats 4000000
namespace DL
open PySem L2 PyProof.Rows

abbrev bltNames : List Str := [Str.ofString "len", Str.ofString "abs", Str.ofString "isinstance", Str.ofString "int", Str.ofString "bool", Str.ofString "tuple", Str.ofString "list", Str.ofString "range", Str.ofString "enumerate"]
/-- a def of the text that keeps a promise over plain data -/
def GFn (P : Program) (w : World) (K : PySem.W.Frag) (mg : Str → Option Value) (base : Heap) (k : Nat) (x : Str) (n : Nat) (φ : List D → Option W) : Prop :=
  ∃ (a : Addr) (fd : FuncData) (ps : List Str), FnOk P w K mg base CX0 k a fd ps (spD K n φ) ∧ mg x = some (.ref a) ∧ PySem.W.keepIn K (.ref a) = true ∧ Binds K fd ps []
/-- .. that keeps a promise to raise -/
def GFr (P : Program) (w : World) (K : PySem.W.Frag) (mg : Str → Option Value) (base : Heap) (k : Nat) (x : Str) (n : Nat) (φ : List D → Option W) : Prop :=
  ∃ (a : Addr) (fd : FuncData) (ps : List Str), FnOk P w K mg base (CX1 P w) k a fd ps (spR K n φ) ∧ mg x = some (.ref a) ∧ PySem.W.keepIn K (.ref a) = true ∧ Binds K fd ps []
section
variable {P : Program} {w : World} {K : PySem.W.Frag} {mg : Str → Option Value} {base : Heap}
theorem GFr.mono {j k : Nat} {x : Str} {n : Nat} {φ : List D → Option W} (G : GFr P w K mg base j x n φ) (h : j ≤ k) : GFr P w K mg base k x n φ := by
  obtain ⟨a, fd, ps, F, r⟩ := G
  exact ⟨a, fd, ps, F.mono h, r⟩
theorem GFr.imp {k : Nat} {x : Str} {n : Nat} {φ ψ : List D → Option W} (G : GFr P w K mg base k x n φ) (h : ∀ ds w, ds.length = n → ψ ds = some w → φ ds = some w) : GFr P w K mg base k x n ψ := by
  obtain ⟨a, fd, ps, F, r⟩ := G
  refine ⟨a, fd, ps, F.imp fun vs H Q E ⟨Fz, ds, x, C, h1, h2, h3, h4, h5⟩ => ⟨Fz, ds, x, C, h1, h2, h3, h ds _ h3 h4, h5⟩, r⟩
theorem GFn.mono {j k : Nat} {x : Str} {n : Nat} {φ : List D → Option W} (G : GFn P w K mg base j x n φ) (h : j ≤ k) : GFn P w K mg base k x n φ := by
  obtain ⟨a, fd, ps, F, r⟩ := G
  exact ⟨a, fd, ps, F.mono h, r⟩
theorem GFn.imp {k : Nat} {x : Str} {n : Nat} {φ ψ : List D → Option W} (G : GFn P w K mg base k x n φ) (h : ∀ ds w, ds.length = n → ψ ds = some w → φ ds = some w) : GFn P w K mg base k x n ψ := by
  obtain ⟨a, fd, ps, F, r⟩ := G
  refine ⟨a, fd, ps, F.imp fun vs H Q E ⟨Fz, ds, w, h1, h2, h3, h4, h5⟩ => ⟨Fz, ds, w, h1, h2, h3, h ds w h3 h4, h5⟩, r⟩
theorem start_get {N : List Str} {vs : List V} {i : Nat} {v : V} (h : vs[i]? = some v) : (L2.start N vs)[i]? = some (some v) := by
  unfold L2.start
  have hi : i < vs.length := (List.getElem?_eq_some_iff.mp h).1
  rw [List.getElem?_append_left (by rw [List.length_map]; exact hi), List.getElem?_map, h]
  rfl
theorem sr_start {F : Hp} {H : Hp} {ds : List D} {vs : List V} {N : List Str} (h1 : Same F H) (h2 : DenL K F ds vs) : SR K H F F H (L2.start N vs) (ds.map (fun d => some (.sh d)) ++ List.replicate (N.length - ds.length) none) := by
  have hl : vs.length = ds.length := h2.length
  refine ⟨h1, Same.refl _, Same.refl _, fun a o e => .inl e, fun i d e => ?_, fun i l e => ?_, fun i j l m a e => ?_, ?_⟩
  · by_cases hi : i < ds.length
    · rw [List.getElem?_append_left (by rw [List.length_map]; exact hi), List.getElem?_map] at e
      cases q : ds[i]? with
      | none => rw [q] at e; cases e
      | some d' =>
        rw [q] at e
        cases e
        obtain ⟨v, hv, r⟩ := h2.get q
        exact ⟨v, start_get hv, r⟩
    · rw [List.getElem?_append_right (by rw [List.length_map]; omega)] at e
      rw [List.getElem?_replicate] at e
      split at e <;> cases e
  · by_cases hi : i < ds.length
    · rw [List.getElem?_append_left (by rw [List.length_map]; exact hi), List.getElem?_map] at e
      cases q : ds[i]? with
      | none => rw [q] at e; cases e
      | some d' => rw [q] at e; cases e
    · rw [List.getElem?_append_right (by rw [List.length_map]; omega)] at e
      rw [List.getElem?_replicate] at e
      split at e <;> cases e
  · by_cases hi : i < ds.length
    · rw [List.getElem?_append_left (by rw [List.length_map]; exact hi), List.getElem?_map] at e
      cases q : ds[i]? with
      | none => rw [q] at e; cases e
      | some d' => rw [q] at e; cases e
    · rw [List.getElem?_append_right (by rw [List.length_map]; omega)] at e
      rw [List.getElem?_replicate] at e
      split at e <;> cases e
  · unfold L2.start
    rw [List.length_append, List.length_append, List.length_map, List.length_map, List.length_replicate, List.length_replicate, hl]
/-- what a def leans on -/
structure Deps (P : Program) (w : World) (K : PySem.W.Frag) (mg : Str → Option Value) (base : Heap) (k : Nat) (Γ : Nat → List D → Option W) (fns rzs : List (Str × Nat × Nat)) (xs : Bool) : Prop where
  fns : ∀ x f n, fns.lookup x = some (f, n) → GFn P w K mg base k x n (Γ f)
  rzs : ∀ x f n, rzs.lookup x = some (f, n) → GFr P w K mg base k x n (Γ f)
  xf : xs = true → XFacts K mg
  blt : ∀ x ∈ bltNames, mg x = none
theorem xc_of {CX : CXT} {qual : Str} {sc : Scope} {f : Addr} {N ps : List Str} {k : Nat} {fns rzs : List (Str × Nat × Nat)} {xs : Bool} {Γ : Nat → List D → Option W} {cdv : Value} {A : Around} {outer : List Env} {s : Shared} {H : Hp} {E : XK} (S : FnScope N ps sc) (hd : Deps P w K mg base k Γ fns rzs xs)
    (hr : Room k (A.deeper (envOfC qual sc s.heap.objs.size f cdv))) : XC (cxOf CX P w K mg base N qual sc f cdv A outer s H E).nox ⟨N, sc, fns, rzs, xs⟩ Γ := by
  refine ⟨rfl, rfl, S.nd, fun _ => rfl, rfl, PassesOwn.never, S.kind, fun x f n h => ?_, fun x f n h => ?_, hd.xf, rfl, rfl, rfl, hr.units, hd.blt⟩
  · obtain ⟨a, fd, ps, G, g1, g2, g3⟩ := hd.fns x f n h
    exact ⟨k, a, fd, ps, G, hr, g1, g2, g3⟩
  · obtain ⟨a, fd, ps, G, g1, g2, g3⟩ := hd.rzs x f n h
    exact ⟨k, a, fd, ps, G, hr, g1, g2, g3⟩
theorem fn_sound {x qual : Str} {st : Stmt} {f : Addr} {fd : FuncData} {N ps : List Str} {k m : Nat} {fns rzs : List (Str × Nat × Nat)} {xs : Bool} {Γ : Nat → List D → Option W} {body : Ss} (F : Fun K x qual st f fd) (S : FnScope N ps (defScope st))
    (hTr : trSs m ⟨N, defScope st, fns, rzs, xs⟩ (defBody st) = some body) (hd : Deps P w K mg base k Γ fns rzs xs) :
    FnOk P w K mg base CX0 (k + 1) f fd ps (spD K ps.length (run Γ body N.length)) := by
  refine F.ok S (fun vs H Q E ⟨Fz, ds, w, h1, h2, h3, h4, h5⟩ => by rw [h2.length]; exact h3) (fun cdv A outer s H vs Q E hr ⟨Fz, ds, wv, h1, h2, h3, h4, h5⟩ => ?_)
  have hX := xc_of (CX := CX0) (E := E) (outer := outer) (H := H) S hd hr
  unfold run at h4
  obtain ⟨o, ho, h4⟩ := Option.bind_eq_some_iff.mp h4
  have hS := (trS_ok hX m).2 _ _ _ _ hTr ho
  refine ⟨_, hS H Fz, Fz, sr_start h1 h2, ?_⟩
  cases o with
  | rt w' =>
    cases h4
    exact fun v H' F' r q => h5 v H' F' r.same r.base r.sub (fun a o e => r.new a o e) q
  | nx ρ' =>
    cases h4
    exact fun σ' H' F' s' S' => h5 _ H' F' S'.same S'.base S'.sub (fun a o e => S'.new a o e) (RW.v Den.non_mk)
theorem gfn_of {x qual : Str} {st : Stmt} {f : Addr} {fd : FuncData} {N ps : List Str} {k m n : Nat} {fns rzs : List (Str × Nat × Nat)} {xs : Bool} {Γ : Nat → List D → Option W} {body : Ss} {φ : List D → Option W} (F : Fun K x qual st f fd) (S : FnScope N ps (defScope st)) (hB : Binds K fd ps [])
    (hm : mg x = some (.ref f)) (hTr : trSs m ⟨N, defScope st, fns, rzs, xs⟩ (defBody st) = some body) (hn : ps.length = n) (hd : Deps P w K mg base k Γ fns rzs xs)
    (hφ : ∀ ds w, ds.length = n → φ ds = some w → run Γ body N.length ds = some w) : GFn P w K mg base (k + 1) x n φ := by
  subst hn
  exact GFn.imp ⟨f, fd, ps, fn_sound F S hTr hd, hm, F.kp, hB⟩ hφ

/-! ### defs that raise -/
def trR (n : Nat) (c : TC) : List Stmt → Option (Ss × E × Str)
  | .If t (.Raise (some (.Call (.Name y _) [.Constant (.str _) _ _] [] _)) none _ :: _) _ _ :: _ => if isGl c y = true ∧ c.xs = true ∧ y ∈ xNames then (trT n c t).map fun t' => (.nil, t', y) else none
  | s :: l => (trS n c s).bind fun s' => (trR n c l).map fun p => (.cons s' p.1, p.2)
  | [] => none
def tRz (K : PySem.W.Frag) (H0 Fc : Hp) (ρ : RhoS) (Z : Hp → Prop) : TS := fun D σ H => ∃ F, SR K H0 Fc F H σ ρ ∧ ∀ H' F', RT H0 Fc F' H' → Z H'
theorem PS.nox' {X : Cx} {st : Stmt} {t : TS} (h : PS X.nox st t) : PS X st t := fun pins s σ H D I hw =>
  wpAny_mono (h pins s σ H D (I.wish _) hw) (fun _ _ q => q.unwish) fun _ _ z => False.elim z
theorem trR_ok {X : Cx} {c : TC} {Γ : Nat → List D → Option W} {n : Nat} {Z : Hp → Prop} {C : Addr} {y : Str} (hX : XC X.nox c Γ) (hcalm : X.calm = true) (hC : PySem.W.nsIn X.K mainGlobals y = some (some (.ref C))) (hm : X.mg y = some (.ref C)) (R : RFacts X.K y)
    (hxe : ∀ pins σ H s h1 ea us, Inv X pins σ H s → Heap.MadeExcOf s.heap h1 ea (.ref C) us → Z H → X.xe (.ref ea) { s with heap := h1 }) :
    ∀ (L : List Stmt) (pre : Ss) (t : E) (ρ ρ' : RhoS), trR n c L = some (pre, t, y) → exs Γ pre ρ = some (.nx ρ') → evB Γ t ρ' = some true → ∀ H0 Fc, PSs X L (tRz X.K H0 Fc ρ Z) := by
  intro L
  induction L with
  | nil => intro pre t ρ ρ' h; simp only [trR] at h; cases h
  | cons s l ih =>
    intro pre t ρ ρ' h hp ht H0 Fc
    unfold trR at h
    split at h
    · rename_i t0 y0 _ _ _ _ _ _ _ _ els _ rest z
      cases z
      split at h
      · rename_i q
        obtain ⟨t', ht', h⟩ := Option.map_eq_some_iff.mp h
        cases h
        simp only [exs] at hp
        cases hp
        obtain ⟨g1, g2⟩ := isGl_ok hX q.1
        have hT := (PT.nox ((trT_ok hX n).1 _ _ _ _ ht' ht H0 Fc))
        refine PSs.mono (pss_cons (ps_if hT (show PSs X _ (tRz X.K H0 Fc ρ Z) from fun pins s σ H D I ⟨F, S, k⟩ => ?_) pss_never) pss_never) fun D σ H ⟨F, S, k⟩ => ?_
        · exact wpAny_execs_cons (raise_ok R hC hm g1 g2 hcalm I fun h1 ea us s2 I2 hq => hxe pins σ H s2 h1 ea us I2 hq (k H F ⟨S.sub, S.same, S.base, S.new⟩))
        · obtain ⟨s0, Re⟩ := S.borrow
          refine ⟨_, Re, fun H2 F2 s2 R2 => iteT ?_⟩
          obtain ⟨F3, s3, S3⟩ := S.tested s2 R2
          exact ⟨F3, S3, k⟩
      · cases h
    · rename_i z1 z2 z
      cases z
      obtain ⟨s', hs, h⟩ := Option.bind_eq_some_iff.mp h
      obtain ⟨⟨pre', t', y'⟩, hr, h⟩ := Option.map_eq_some_iff.mp h
      cases h
      simp only [exs] at hp
      obtain ⟨o, ho, hp⟩ := Option.bind_eq_some_iff.mp hp
      cases o with
      | rt w => cases hp
      | nx ρ1 =>
        refine PSs.mono (pss_cons (PS.nox' ((trS_ok hX n).1 _ _ _ _ hs ho H0 Fc)) (ih _ _ _ _ hr hp ht H0 Fc)) fun D σ H ⟨F, S, k⟩ => ?_
        exact ⟨F, S, fun σ' H' F' s' S' => ⟨F', S', k⟩⟩
    · rename_i z; cases z
/-- the meaning of a def that raises -/
noncomputable def runR (Γ : Nat → List D → Option W) (p : Ss × E × Str) (n : Nat) (ds : List D) : Option W := match exs Γ p.1 (ds.map (fun d => some (.sh d)) ++ List.replicate (n - ds.length) none) with
  | some (.nx ρ) => match evB Γ p.2.1 ρ with
    | some true => some (.val (.exc p.2.2))
    | _ => none
  | _ => none
theorem Fun.okR {x qual : Str} {st : Stmt} {f : Addr} {fd : FuncData} {N ps : List Str} {k : Nat} {sp : Sp} (F : Fun K x qual st f fd) (S : FnScope N ps (defScope st)) (len : ∀ vs H Q E, sp vs H Q E → vs.length = ps.length)
    (hbody : ∀ (cdv : Value) (A : Around) (outer : List Env) (s : Shared) (H : Hp) (vs : List V) (Q : VK) (E : XK), Room k (A.deeper (envOfC qual (defScope st) s.heap.objs.size f cdv)) → sp vs H Q E →
      ∃ t, PSs (cxOf (CX1 P w) P w K mg base N qual (defScope st) f cdv A outer s H E) (defBody st) t ∧ t { nx := fun _ H' => Q .non H', rt := Q } (L2.start N vs) H) : FnOk P w K mg base (CX1 P w) (k + 1) f fd ps sp := by
  obtain ⟨oc, od, kV, doc, pm, an, cdv, ct, osl, rfl, lk, hcd⟩ := F.ex
  exact fn_of lk hcd S len fun A outer s H vs Q E hr hsp => hbody cdv A outer s H vs Q E hr hsp
theorem fn_raise {x qual : Str} {st : Stmt} {f : Addr} {fd : FuncData} {N ps : List Str} {k m : Nat} {fns rzs : List (Str × Nat × Nat)} {Γ : Nat → List D → Option W} {p : Ss × E × Str} (F : Fun K x qual st f fd) (S : FnScope N ps (defScope st))
    (hTr : trR m ⟨N, defScope st, fns, rzs, true⟩ (defBody st) = some p) (hd : Deps P w K mg base k Γ fns rzs true) (hp : p.2.2 ∈ xNames) (R : RFacts K p.2.2) :
    FnOk P w K mg base (CX1 P w) (k + 1) f fd ps (spR K ps.length (runR Γ p N.length)) := by
  refine Fun.okR F S (fun vs H Q E ⟨Fz, ds, x, C, h1, h2, h3, h4, h5, h6⟩ => by rw [h2.length]; exact h3) (fun cdv A outer s H vs Q E hr ⟨Fz, ds, x, C, h1, h2, h3, h4, h5, h6⟩ => ?_)
  obtain ⟨pre, t, y⟩ := p
  have hX := xc_of (CX := CX1 P w) (E := E) (outer := outer) (H := H) S hd hr
  unfold runR at h4
  split at h4
  · rename_i ρ' hpre
    split at h4
    · rename_i ht
      cases h4
      obtain ⟨C', e1, e2, _⟩ := (hd.xf rfl).cl _ hp
      have e3 := h5
      rw [e1] at h5
      cases h5
      refine ⟨_, trR_ok (Z := E (.ref C) none) hX rfl e3 e2 R (fun pins σ H2 s2 h1 ea us I hm hZ => ?_) _ _ _ _ _ hTr hpre ht H Fz, Fz, sr_start h1 h2, fun H' F' r => h6 H' F' r.same r.base r.sub r.new⟩
      exact leave_made I rfl rfl rfl hm hZ
    · cases h4
  · cases h4
theorem gfr_of {x qual : Str} {st : Stmt} {f : Addr} {fd : FuncData} {N ps : List Str} {k m n : Nat} {fns rzs : List (Str × Nat × Nat)} {Γ : Nat → List D → Option W} {p : Ss × E × Str} {φ : List D → Option W} (F : Fun K x qual st f fd) (S : FnScope N ps (defScope st)) (hB : Binds K fd ps [])
    (hm : mg x = some (.ref f)) (hTr : trR m ⟨N, defScope st, fns, rzs, true⟩ (defBody st) = some p) (hn : ps.length = n) (hd : Deps P w K mg base k Γ fns rzs true) (hp : p.2.2 ∈ xNames) (R : RFacts K p.2.2)
    (hφ : ∀ ds w, ds.length = n → φ ds = some w → runR Γ p N.length ds = some w) : GFr P w K mg base (k + 1) x n φ := by
  subst hn
  exact GFr.imp ⟨f, fd, ps, fn_raise F S hTr hd hp R, hm, F.kp, hB⟩ hφ
/-- a def that hands on what another raises -/
def trP (n : Nat) (c : TC) : List Stmt → Option (Nat × Es)
  | [.Return (some (.Call (.Name y _) (e :: es) [] _)) _] => if isGl c y = true then (c.rzs.lookup y).bind fun q => if (e :: es).length = q.2 then (trEs n c (e :: es)).map fun l => (q.1, l) else none else none
  | _ => none
def runP (Γ : Nat → List D → Option W) (p : Nat × Es) (n : Nat) (ds : List D) : Option W := (evs Γ p.2 (view (ds.map (fun d => some (.sh d)) ++ List.replicate (n - ds.length) none))).bind fun es => Γ p.1 es
theorem fn_pass {x qual : Str} {st : Stmt} {f : Addr} {fd : FuncData} {N ps : List Str} {k m : Nat} {fns rzs : List (Str × Nat × Nat)} {xs : Bool} {Γ : Nat → List D → Option W} {p : Nat × Es} (F : Fun K x qual st f fd) (S : FnScope N ps (defScope st))
    (hTr : trP m ⟨N, defScope st, fns, rzs, xs⟩ (defBody st) = some p) (hd : Deps P w K mg base k Γ fns rzs xs) :
    FnOk P w K mg base (CX1 P w) (k + 1) f fd ps (spR K ps.length (runP Γ p N.length)) := by
  refine Fun.okR F S (fun vs H Q E ⟨Fz, ds, x, C, h1, h2, h3, h4, h5, h6⟩ => by rw [h2.length]; exact h3) (fun cdv A outer s H vs Q E hr ⟨Fz, ds, x, C, h1, h2, h3, h4, h5, h6⟩ => ?_)
  have hX := xc_of (CX := CX1 P w) (E := E) (outer := outer) (H := H) S hd hr
  unfold runP at h4
  obtain ⟨es', hes, h4⟩ := Option.bind_eq_some_iff.mp h4
  revert hTr
  generalize defBody st = L
  intro hTr
  unfold trP at hTr
  split at hTr
  · rename_i y py e es pc pr
    split at hTr
    · rename_i hg
      obtain ⟨⟨g, kk⟩, hq, hTr⟩ := Option.bind_eq_some_iff.mp hTr
      split at hTr
      · rename_i hk
        obtain ⟨l, hl, hTr⟩ := Option.map_eq_some_iff.mp hTr
        subst hTr
        have hst := trEs_star hl
        rw [List.all_cons, Bool.and_eq_true] at hst
        have hlen := evs_len hl hes
        obtain ⟨g1, g2⟩ := isGl_ok hX hg
        have hda := (tr_ok hX m).2.1 _ _ _ _ hl hes
        obtain ⟨k0, f0, fd0, ps0, G, hr0, hm0, hk0, hb0⟩ := hX.rz _ _ _ hq
        refine ⟨fun D σ H2 => ∃ F2, SR K H Fz F2 H2 σ (ds.map (fun d => some (.sh d)) ++ List.replicate (N.length - ds.length) none) ∧ ∀ H' F', RT H Fz F' H' → E (.ref C) none H', fun pins s2 σ H2 D I ⟨F2, S2, kk2⟩ => ?_, Fz, sr_start h1 h2, fun H' F' r => h6 H' F' r.same r.base r.sub r.new⟩
        refine wpAny_execs_cons (wpAny_Return_some (wpAny_mono (callR (X := cxOf (CX1 P w) P w K mg base N qual (defScope st) f cdv A outer s H E) (Q := fun _ _ => False) (EE := E) G hr0 g1 hm0 hk0 hb0 (hda H Fz) g2 (star_cons hst.1) (star_none hst.2) I ?_ fun H1 s1 e s' I1 hq => leave_on I1 rfl rfl rfl hq fun _ _ z => z) (fun v s1 ⟨x, H1, I1, r1, q1⟩ => q1.elim) fun _ _ z => z))
        obtain ⟨s0, R⟩ := S2.borrow
        refine ⟨_, R, fun vs H1 F1 s1 R1 q1 => ?_⟩
        refine ⟨F1, es', x, C, R1.sub, q1, hlen.trans hk, h4, h5, fun H' F' a1 a2 a3 a4 => ?_⟩
        have R2 := R1.called a1 a2 a3 a4
        exact kk2 H' F' ⟨R2.sub, R2.same, R2.base, R2.new⟩
      · cases hTr
    · cases hTr
  · cases hTr
theorem gfp_of {x qual : Str} {st : Stmt} {f : Addr} {fd : FuncData} {N ps : List Str} {k m n : Nat} {fns rzs : List (Str × Nat × Nat)} {xs : Bool} {Γ : Nat → List D → Option W} {p : Nat × Es} {φ : List D → Option W} (F : Fun K x qual st f fd) (S : FnScope N ps (defScope st)) (hB : Binds K fd ps [])
    (hm : mg x = some (.ref f)) (hTr : trP m ⟨N, defScope st, fns, rzs, xs⟩ (defBody st) = some p) (hn : ps.length = n) (hd : Deps P w K mg base k Γ fns rzs xs)
    (hφ : ∀ ds w, ds.length = n → φ ds = some w → runP Γ p N.length ds = some w) : GFr P w K mg base (k + 1) x n φ := by
  subst hn
  exact GFr.imp ⟨f, fd, ps, fn_pass F S hTr hd, hm, F.kp, hB⟩ hφ
end
end DL

set_option maxHeartbeats 4000000
namespace DL
open PySem L2 PyProof.Rows

/-- a def of the text as it stands behind the top -/
def At (K : PySem.W.Frag) (x : Str) (st : Stmt) : Prop := ∃ (f : Addr) (oc : Value) (od : Option Addr) (kV doc pm : Value) (an : Option Addr) (cdv ct : Value) (osl : Array (Option Value)),
  PySem.W.nsIn K mainGlobals x = some (some (.ref f)) ∧ K.lookup f = some ⟨oc, od, .func (PySem.W.fnOf x x (defArgs st) (defBody st) (defScope st) .none kV doc pm an cdv ct), osl⟩ ∧ PySem.W.codeIn K cdv x = true ∧ PySem.W.keepIn K (.ref f) = true
theorem at_mk {K : PySem.W.Frag} {x : Str} {st : Stmt} {f : Addr} {oc : Value} {od : Option Addr} {kV doc pm : Value} {an : Option Addr} {cdv ct : Value} {osl : Array (Option Value)} (a : PySem.W.nsIn K mainGlobals x = some (some (.ref f)))
    (l : K.lookup f = some ⟨oc, od, .func (PySem.W.fnOf x x (defArgs st) (defBody st) (defScope st) .none kV doc pm an cdv ct), osl⟩) (c : PySem.W.codeIn K cdv x = true) (k : PySem.W.keepIn K (.ref f) = true) : At K x st := ⟨f, oc, od, kV, doc, pm, an, cdv, ct, osl, a, l, c, k⟩
/-- how a def binds its arguments -/
def Bnd (x : Str) (st : Stmt) (ps : List Str) : Prop := ∀ (kV doc pm : Value) (an : Option Addr) (cdv ct : Value) (us : List Value), us.length = ps.length → bindArgs (PySem.W.fnOf x x (defArgs st) (defBody st) (defScope st) .none kV doc pm an cdv ct) ⟨us, []⟩ = pure (ps.zip us)
/-- the callees of a def -/
def Calls (P : Program) (w : World) (K : PySem.W.Frag) (mg : Str → Option Value) (base : Heap) (k : Nat) (Γ : Nat → List D → Option W) (fns : List (Str × Nat × Nat)) : Prop := ∀ x f n, fns.lookup x = some (f, n) → GFn P w K mg base k x n (Γ f)
def CallsR (P : Program) (w : World) (K : PySem.W.Frag) (mg : Str → Option Value) (base : Heap) (k : Nat) (Γ : Nat → List D → Option W) (fns : List (Str × Nat × Nat)) : Prop := ∀ x f n, fns.lookup x = some (f, n) → GFr P w K mg base k x n (Γ f)
section
variable {P : Program} {w : World} {K : PySem.W.Frag} {mg : Str → Option Value} {base : Heap} {Γ : Nat → List D → Option W}
theorem Calls.nil {k : Nat} : Calls P w K mg base k Γ [] := fun x f n h => by cases h
theorem Calls.cons {j k f n : Nat} {x : Str} {l : List (Str × Nat × Nat)} (h : GFn P w K mg base j x n (Γ f)) (hj : j ≤ k) (r : Calls P w K mg base k Γ l) : Calls P w K mg base k Γ ((x, f, n) :: l) := fun y g m e => by
  rw [List.lookup_cons] at e
  cases q : (y == x) with
  | true =>
    rw [q] at e
    cases e
    have := eq_of_beq q
    subst this
    exact h.mono hj
  | false => rw [q] at e; exact r y g m e
theorem CallsR.nil {k : Nat} : CallsR P w K mg base k Γ [] := fun x f n h => by cases h
theorem CallsR.cons {j k f n : Nat} {x : Str} {l : List (Str × Nat × Nat)} (h : GFr P w K mg base j x n (Γ f)) (hj : j ≤ k) (r : CallsR P w K mg base k Γ l) : CallsR P w K mg base k Γ ((x, f, n) :: l) := fun y g m e => by
  rw [List.lookup_cons] at e
  cases q : (y == x) with
  | true =>
    rw [q] at e
    cases e
    have := eq_of_beq q
    subst this
    exact h.mono hj
  | false => rw [q] at e; exact r y g m e
theorem gfn_at {h : Heap} {x : Str} {st : Stmt} {N ps : List Str} {k m n : Nat} {fns rzs : List (Str × Nat × Nat)} {xs : Bool} {body : Ss} {φ : List D → Option W} (A : At K x st) (X : K.In h) (G : h.Ns mainGlobals mg) (S : FnScope N ps (defScope st)) (B : Bnd x st ps)
    (hTr : trSs m ⟨N, defScope st, fns, rzs, xs⟩ (defBody st) = some body) (hn : ps.length = n) (hd : Deps P w K mg base k Γ fns rzs xs)
    (hφ : ∀ ds w, ds.length = n → φ ds = some w → run Γ body N.length ds = some w) : GFn P w K mg base (k + 1) x n φ := by
  obtain ⟨f, oc, od, kV, doc, pm, an, cdv, ct, osl, a, l, c, kp⟩ := A
  have F := fun_mk (st := st) l c kp
  exact gfn_of F S (F.binds B) (PySem.W.mg_of X G a) hTr hn hd hφ
theorem gfr_at {h : Heap} {x : Str} {st : Stmt} {N ps : List Str} {k m n : Nat} {fns rzs : List (Str × Nat × Nat)} {p : Ss × E × Str} {φ : List D → Option W} (A : At K x st) (X : K.In h) (G : h.Ns mainGlobals mg) (S : FnScope N ps (defScope st)) (B : Bnd x st ps)
    (hTr : trR m ⟨N, defScope st, fns, rzs, true⟩ (defBody st) = some p) (hn : ps.length = n) (hd : Deps P w K mg base k Γ fns rzs true) (hp : p.2.2 ∈ xNames) (R : RFacts K p.2.2)
    (hφ : ∀ ds w, ds.length = n → φ ds = some w → runR Γ p N.length ds = some w) : GFr P w K mg base (k + 1) x n φ := by
  obtain ⟨f, oc, od, kV, doc, pm, an, cdv, ct, osl, a, l, c, kp⟩ := A
  have F := fun_mk (st := st) l c kp
  exact gfr_of F S (F.binds B) (PySem.W.mg_of X G a) hTr hn hd hp R hφ
theorem gfp_at {h : Heap} {x : Str} {st : Stmt} {N ps : List Str} {k m n : Nat} {fns rzs : List (Str × Nat × Nat)} {xs : Bool} {p : Nat × Es} {φ : List D → Option W} (A : At K x st) (X : K.In h) (G : h.Ns mainGlobals mg) (S : FnScope N ps (defScope st)) (B : Bnd x st ps)
    (hTr : trP m ⟨N, defScope st, fns, rzs, xs⟩ (defBody st) = some p) (hn : ps.length = n) (hd : Deps P w K mg base k Γ fns rzs xs)
    (hφ : ∀ ds w, ds.length = n → φ ds = some w → runP Γ p N.length ds = some w) : GFr P w K mg base (k + 1) x n φ := by
  obtain ⟨f, oc, od, kV, doc, pm, an, cdv, ct, osl, a, l, c, kp⟩ := A
  have F := fun_mk (st := st) l c kp
  exact gfp_of F S (F.binds B) (PySem.W.mg_of X G a) hTr hn hd hφ
/-- the law itself -/
theorem law_at {h : Heap} {x p : Str} {st : Stmt} {N : List Str} {k m : Nat} {fa : Addr} {fns rzs : List (Str × Nat × Nat)} {xs : Bool} {body : Ss} (A : At K x st) (X : K.In h) (G : h.Ns mainGlobals mg) (hfa : mg x = some (.ref fa)) (S : FnScope N [p] (defScope st)) (B : Bnd x st [p])
    (hTr : trSs m ⟨N, defScope st, fns, rzs, xs⟩ (defBody st) = some body) (hc : ∀ base : Heap, K.In base → base.Ns mainGlobals mg → Deps P w K mg base k Γ fns rzs xs) :
    ∃ fd : FuncData, (∀ (s : Shared) (v : Value), BindsTo s fd ⟨[v], []⟩ [(p, v)]) ∧ ∀ base : Heap, K.In base → base.Ns mainGlobals mg → FnOk P w K mg base CX0 (k + 1) fa fd [p] (spD K 1 (run Γ body N.length)) := by
  obtain ⟨f, oc, od, kV, doc, pm, an, cdv, ct, osl, a, l, c, kp⟩ := A
  have e := hfa.symm.trans (PySem.W.mg_of X G a)
  cases e
  have F := fun_mk (st := st) l c kp
  exact ⟨_, fun s v => .of_eq (B kV doc pm an cdv ct [v] rfl), fun base hk hn => fn_sound F S hTr (hc base hk hn)⟩
theorem law_spec {n : Nat} {φ : List D → Option W} (hφ : ∀ ns : List Int, ns.length ≤ n → φ [.lst (ns.map D.int)] = some (.val (.bl true))) (H : Hp) (a : Addr) (ns : List Int) (hl : ns.length ≤ n) (hS : SqL K H a (ns.map V.int)) :
    spD K 1 φ [.ref a] H (fun v _ => v = .bl true) fun _ _ _ => False :=
  ⟨H, [.lst (ns.map D.int)], .val (.bl true), Same.refl _, DenL.cons (Den.lst_mk hS (DenL.ints ns)) DenL.nil, rfl, hφ ns hl, fun v H' F' _ _ _ _ q => (show Den K F' (.bl true) v from q).bl⟩
theorem blt_none {h : Heap} (X : K.In h) (G : h.Ns mainGlobals mg) (hz : ∀ x ∈ bltNames, PySem.W.nsIn K mainGlobals x = some none) : ∀ x ∈ bltNames, mg x = none := fun x hx => PySem.W.mg_none_of X G (hz x hx)
end

/-! ### the program's exceptions -/
structure XA (K : PySem.W.Frag) (x : Str) (C : Addr) : Prop where
  ns : PySem.W.nsIn K mainGlobals x = some (some (.ref C))
  cls : XCls K C
  v : PySem.W.subIn K (.ref C) (.type "ValueError") = some true
theorem xa_mk {K : PySem.W.Frag} {x : Str} {C : Addr} (a : PySem.W.nsIn K mainGlobals x = some (some (.ref C))) (b1 : PySem.W.isClsIn K C = true) (b2 : PySem.W.typeIn K (.ref C) = some (.type "type")) (b3 : PySem.W.findIn K (.ref C) "__getattribute__" = some (some (.builtin "BaseException.__getattribute__")))
    (b4 : PySem.W.findIn K (.ref C) "__getattr__" = some none) (b5 : PySem.W.findIn K (.ref C) "__class__" = some (some (.builtin "object.__class__"))) (b6 : PySem.W.subIn K (.ref C) (.type "BaseException") = some true) (b7 : PySem.W.subIn K (.ref C) (.type "object") = some true) (v : PySem.W.subIn K (.ref C) (.type "ValueError") = some true) : XA K x C :=
  ⟨a, ⟨b1, b2, b3, b4, b5, b6, b7⟩, v⟩
def XAll (K : PySem.W.Frag) : Prop := PySem.W.nsIn K mainGlobals "ValueError" = some none ∧ ∃ C0 C1 C2 C3 : Addr, XA K "FitError" C0 ∧ XA K "NoNumber" C1 ∧ XA K "NoShape" C2 ∧ XA K "NoSize" C3 ∧
  (PySem.W.subIn K (.ref C0) (.ref C0) = some true ∧ PySem.W.subIn K (.ref C0) (.ref C1) = some false ∧ PySem.W.subIn K (.ref C0) (.ref C2) = some false ∧ PySem.W.subIn K (.ref C0) (.ref C3) = some false) ∧
  (PySem.W.subIn K (.ref C1) (.ref C0) = some true ∧ PySem.W.subIn K (.ref C1) (.ref C1) = some true ∧ PySem.W.subIn K (.ref C1) (.ref C2) = some false ∧ PySem.W.subIn K (.ref C1) (.ref C3) = some false) ∧
  (PySem.W.subIn K (.ref C2) (.ref C0) = some true ∧ PySem.W.subIn K (.ref C2) (.ref C1) = some false ∧ PySem.W.subIn K (.ref C2) (.ref C2) = some true ∧ PySem.W.subIn K (.ref C2) (.ref C3) = some false) ∧
  (PySem.W.subIn K (.ref C3) (.ref C0) = some true ∧ PySem.W.subIn K (.ref C3) (.ref C1) = some false ∧ PySem.W.subIn K (.ref C3) (.ref C2) = some false ∧ PySem.W.subIn K (.ref C3) (.ref C3) = some true)
theorem xall_mk {K : PySem.W.Frag} {C0 C1 C2 C3 : Addr} (ve : PySem.W.nsIn K mainGlobals "ValueError" = some none) (A0 : XA K "FitError" C0) (A1 : XA K "NoNumber" C1) (A2 : XA K "NoShape" C2) (A3 : XA K "NoSize" C3)
    (s00 : PySem.W.subIn K (.ref C0) (.ref C0) = some true) (s01 : PySem.W.subIn K (.ref C0) (.ref C1) = some false) (s02 : PySem.W.subIn K (.ref C0) (.ref C2) = some false) (s03 : PySem.W.subIn K (.ref C0) (.ref C3) = some false)
    (s10 : PySem.W.subIn K (.ref C1) (.ref C0) = some true) (s11 : PySem.W.subIn K (.ref C1) (.ref C1) = some true) (s12 : PySem.W.subIn K (.ref C1) (.ref C2) = some false) (s13 : PySem.W.subIn K (.ref C1) (.ref C3) = some false)
    (s20 : PySem.W.subIn K (.ref C2) (.ref C0) = some true) (s21 : PySem.W.subIn K (.ref C2) (.ref C1) = some false) (s22 : PySem.W.subIn K (.ref C2) (.ref C2) = some true) (s23 : PySem.W.subIn K (.ref C2) (.ref C3) = some false)
    (s30 : PySem.W.subIn K (.ref C3) (.ref C0) = some true) (s31 : PySem.W.subIn K (.ref C3) (.ref C1) = some false) (s32 : PySem.W.subIn K (.ref C3) (.ref C2) = some false) (s33 : PySem.W.subIn K (.ref C3) (.ref C3) = some true) : XAll K :=
  ⟨ve, C0, C1, C2, C3, A0, A1, A2, A3, ⟨s00, s01, s02, s03⟩, ⟨s10, s11, s12, s13⟩, ⟨s20, s21, s22, s23⟩, ⟨s30, s31, s32, s33⟩⟩
section
variable {K : PySem.W.Frag} {mg : Str → Option Value}
theorem kit_pair {C C' : Addr} {b : Bool} (h : PySem.W.subIn K (.ref C) (.ref C') = some b) (hs : PySem.W.subIn K (.ref C) (.ref C) = some true) (Z : XCls K C') : PySem.W.kitOne K (.ref C) (.ref C') = some b := by
  unfold PySem.W.kitOne
  by_cases e : C = C'
  · subst e
    rw [hs] at h
    cases h
    rw [if_pos (by simp)]
  · rw [if_neg (by simpa using e)]
    unfold PySem.W.kitCls
    have c := Z.cls
    unfold PySem.W.isClsIn at c
    simp only
    rw [Z.typ, c, if_pos (by decide)]
    exact h
theorem kit_val {C : Addr} (h : PySem.W.subIn K (.ref C) (.type "ValueError") = some true) : PySem.W.kitOne K (.ref C) (.type "ValueError") = some true := by
  unfold PySem.W.kitOne
  rw [if_neg (by simp)]
  unfold PySem.W.kitCls
  simp only
  rw [if_pos (by kernel_rfl)]
  exact h
theorem exm_pair {C C' : Addr} (h : PySem.W.subIn K (.ref C) (.ref C') = some true) (Z : XCls K C') : PySem.W.exmOne K (.ref C) (.ref C') = some true := by
  unfold PySem.W.exmOne
  rw [Z.bexc, if_pos (by decide)]
  unfold PySem.W.kitCls
  have c := Z.cls
  unfold PySem.W.isClsIn at c
  simp only
  rw [Z.typ, c, if_pos (by decide)]
  exact h
theorem xf_of {h : Heap} (A : XAll K) (X : K.In h) (G : h.Ns mainGlobals mg) : XFacts K mg := by
  obtain ⟨ve, C0, C1, C2, C3, A0, A1, A2, A3, ⟨s00, s01, s02, s03⟩, ⟨s10, s11, s12, s13⟩, ⟨s20, s21, s22, s23⟩, ⟨s30, s31, s32, s33⟩⟩ := A
  have mem : ∀ {y : Str}, y ∈ xNames → y = "FitError" ∨ y = "NoNumber" ∨ y = "NoShape" ∨ y = "NoSize" := fun hy => by
    simp only [xNames, List.mem_cons, List.not_mem_nil, or_false] at hy
    exact hy
  have inj : ∀ {C C' : Addr} {y : Str}, PySem.W.nsIn K mainGlobals y = some (some (.ref C)) → PySem.W.nsIn K mainGlobals y = some (some (.ref C')) → C = C' := fun a b => by
    rw [a] at b; cases b; rfl
  refine ⟨PySem.W.mg_none_of X G ve, fun y hy => ?_, fun x hx y hy C C' h1 h2 => ?_, fun x hx C h1 => ?_, fun x hx C C' h1 h2 => ?_⟩
  · rcases mem hy with rfl | rfl | rfl | rfl
    · exact ⟨C0, A0.ns, PySem.W.mg_of X G A0.ns, A0.cls⟩
    · exact ⟨C1, A1.ns, PySem.W.mg_of X G A1.ns, A1.cls⟩
    · exact ⟨C2, A2.ns, PySem.W.mg_of X G A2.ns, A2.cls⟩
    · exact ⟨C3, A3.ns, PySem.W.mg_of X G A3.ns, A3.cls⟩
  · rcases mem hx with rfl | rfl | rfl | rfl <;> rcases mem hy with rfl | rfl | rfl | rfl
    · rw [inj h1 A0.ns, inj h2 A0.ns]; exact kit_pair s00 s00 A0.cls
    · rw [inj h1 A0.ns, inj h2 A1.ns]; exact kit_pair s01 s00 A1.cls
    · rw [inj h1 A0.ns, inj h2 A2.ns]; exact kit_pair s02 s00 A2.cls
    · rw [inj h1 A0.ns, inj h2 A3.ns]; exact kit_pair s03 s00 A3.cls
    · rw [inj h1 A1.ns, inj h2 A0.ns]; exact kit_pair s10 s11 A0.cls
    · rw [inj h1 A1.ns, inj h2 A1.ns]; exact kit_pair s11 s11 A1.cls
    · rw [inj h1 A1.ns, inj h2 A2.ns]; exact kit_pair s12 s11 A2.cls
    · rw [inj h1 A1.ns, inj h2 A3.ns]; exact kit_pair s13 s11 A3.cls
    · rw [inj h1 A2.ns, inj h2 A0.ns]; exact kit_pair s20 s22 A0.cls
    · rw [inj h1 A2.ns, inj h2 A1.ns]; exact kit_pair s21 s22 A1.cls
    · rw [inj h1 A2.ns, inj h2 A2.ns]; exact kit_pair s22 s22 A2.cls
    · rw [inj h1 A2.ns, inj h2 A3.ns]; exact kit_pair s23 s22 A3.cls
    · rw [inj h1 A3.ns, inj h2 A0.ns]; exact kit_pair s30 s33 A0.cls
    · rw [inj h1 A3.ns, inj h2 A1.ns]; exact kit_pair s31 s33 A1.cls
    · rw [inj h1 A3.ns, inj h2 A2.ns]; exact kit_pair s32 s33 A2.cls
    · rw [inj h1 A3.ns, inj h2 A3.ns]; exact kit_pair s33 s33 A3.cls
  · rcases mem hx with rfl | rfl | rfl | rfl
    · rw [inj h1 A0.ns]; exact kit_val A0.v
    · rw [inj h1 A1.ns]; exact kit_val A1.v
    · rw [inj h1 A2.ns]; exact kit_val A2.v
    · rw [inj h1 A3.ns]; exact kit_val A3.v
  · rw [inj h2 A0.ns]
    rcases mem hx with rfl | rfl | rfl | rfl
    · rw [inj h1 A0.ns]; exact exm_pair s00 A0.cls
    · rw [inj h1 A1.ns]; exact exm_pair s10 A0.cls
    · rw [inj h1 A2.ns]; exact exm_pair s20 A0.cls
    · rw [inj h1 A3.ns]; exact exm_pair s30 A0.cls
end
end DL

set_option maxHeartbeats 4000000
/-! The meaning in a form that is reckoned out from the left. -/
namespace DL
def bin2 (f : D → D → Option W) : Option D → Option D → Option W
  | some x, some y => f x y
  | _, _ => none
def un1 (f : D → Option W) : Option D → Option W
  | some x => f x
  | _ => none
def andO : Option Bool → Option W → Option W
  | some true, y => y
  | some false, _ => some (.val (.bl false))
  | none, _ => none
def orO : Option Bool → Option W → Option W
  | some true, _ => some (.val (.bl true))
  | some false, y => y
  | none, _ => none
def iffO {α : Type} : Option Bool → Option α → Option α → Option α
  | some true, x, _ => x
  | some false, _, y => y
  | none, _, _ => none
def appL (f : List D → Option W) : Option (List D) → Option W
  | some l => f l
  | none => none
def consO : Option D → Option (List D) → Option (List D)
  | some d, some l => some (d :: l)
  | _, _ => none
def slO : Option D → Option (Option Int) → Option (Option Int) → Option W
  | some x, some i, some j => slD x i j
  | _, _, _ => none
def cmpW (c : Cm) (x y : D) : Option W := (cmpD c x y).map fun k => .val (.bl k)
def ixW (x y : D) : Option W := (ixD x y).map W.val
def negW : D → Option W
  | .int i => some (.val (.int (-i)))
  | _ => none
def notW : Option Bool → Option W
  | some k => some (.val (.bl (!k)))
  | none => none
def tupW (ds : List D) : Option W := if ds.length ≤ PySem.sizeLine then some (.val (.tup ds)) else none
def lstW (ds : List D) : Option W := if ds.length ≤ PySem.sizeLine then some (.new ds) else none
def isiW (t : Ty) (d : D) : Option W := (isTyO t d).map fun k => .val (.bl k)
def isxW (ys : List PySem.Str) (d : D) : Option W := (isX ys d).map fun k => .val (.bl k)
theorem isiW_i {t : Ty} {i : Int} : isiW t (.int i) = some (.val (.bl (isTy t (.int i)))) := rfl
theorem isiW_b {t : Ty} {i : Bool} : isiW t (.bl i) = some (.val (.bl (isTy t (.bl i)))) := rfl
theorem isiW_t {t : Ty} {l : List D} : isiW t (.tup l) = some (.val (.bl (isTy t (.tup l)))) := rfl
theorem isiW_l {t : Ty} {l : List D} : isiW t (.lst l) = some (.val (.bl (isTy t (.lst l)))) := rfl
theorem isiW_n {t : Ty} : isiW t .non = some (.val (.bl (isTy t .non))) := rfl
theorem isxW_n {ys : List PySem.Str} : isxW ys .non = some (.val (.bl false)) := rfl
section
variable {Γ : Nat → List D → Option W} {ρ : Rho}
def evd (Γ : Nat → List D → Option W) (e : E) (ρ : Rho) : Option D := (ev Γ e ρ).map W.d
def evb (Γ : Nat → List D → Option W) (e : E) (ρ : Rho) : Option Bool := (evd Γ e ρ).bind dBool
theorem ev_var {i : Nat} : ev Γ (.var i) ρ = (varD ρ i).map W.val := by simp only [ev]
theorem ev_int {i : Int} : ev Γ (.int i) ρ = some (.val (.int i)) := by simp only [ev]
theorem ev_bl {i : Bool} : ev Γ (.bl i) ρ = some (.val (.bl i)) := by simp only [ev]
theorem ev_non : ev Γ .non ρ = some (.val .non) := by simp only [ev]
theorem ev_bin {o : Op} {a b : E} : ev Γ (.bin o a b) ρ = bin2 (opW o) (evd Γ a ρ) (evd Γ b ρ) := by
  simp only [ev, evd]
  cases (ev Γ a ρ) <;> cases (ev Γ b ρ) <;> rfl
theorem ev_neg {a : E} : ev Γ (.neg a) ρ = un1 negW (evd Γ a ρ) := by
  simp only [ev, evd]
  cases (ev Γ a ρ) with
  | none => rfl
  | some w => simp only [Option.map_some, Option.bind_some, un1]; cases w.d <;> rfl
theorem ev_cmp {o : Cm} {a b : E} : ev Γ (.cmp o a b) ρ = bin2 (cmpW o) (evd Γ a ρ) (evd Γ b ρ) := by
  simp only [ev, evd]
  cases (ev Γ a ρ) <;> cases (ev Γ b ρ) <;> rfl
theorem ev_and {a b : E} : ev Γ (.and a b) ρ = andO (evb Γ a ρ) (ev Γ b ρ) := by
  simp only [ev, evd, evb]
  cases (Option.map W.d (ev Γ a ρ)).bind dBool with
  | none => rfl
  | some k => cases k <;> rfl
theorem ev_or {a b : E} : ev Γ (.or a b) ρ = orO (evb Γ a ρ) (ev Γ b ρ) := by
  simp only [ev, evd, evb]
  cases (Option.map W.d (ev Γ a ρ)).bind dBool with
  | none => rfl
  | some k => cases k <;> rfl
theorem ev_not {a : E} : ev Γ (.not a) ρ = notW (evb Γ a ρ) := by
  simp only [ev, evd, evb]
  cases (Option.map W.d (ev Γ a ρ)).bind dBool <;> rfl
theorem ev_tup {l : Es} : ev Γ (.tup l) ρ = appL tupW (evs Γ l ρ) := by
  simp only [ev]
  cases (evs Γ l ρ) <;> rfl
theorem ev_lst {l : Es} : ev Γ (.lst l) ρ = appL lstW (evs Γ l ρ) := by
  simp only [ev]
  cases (evs Γ l ρ) <;> rfl
theorem ev_ix {a b : E} : ev Γ (.ix a b) ρ = bin2 ixW (evd Γ a ρ) (evd Γ b ρ) := by
  simp only [ev, evd]
  cases (ev Γ a ρ) <;> cases (ev Γ b ρ) <;> rfl
theorem ev_sl {a : E} {lo hi : EO} : ev Γ (.sl a lo hi) ρ = slO (evd Γ a ρ) (evo Γ lo ρ) (evo Γ hi ρ) := by
  simp only [ev, evd]
  cases (ev Γ a ρ) <;> cases (evo Γ lo ρ) <;> cases (evo Γ hi ρ) <;> rfl
theorem ev_call {f : Nat} {l : Es} : ev Γ (.call f l) ρ = appL (Γ f) (evs Γ l ρ) := by
  simp only [ev]
  cases (evs Γ l ρ) <;> rfl
theorem ev_bi {f : Bi} {l : Es} : ev Γ (.bi f l) ρ = appL (biW f) (evs Γ l ρ) := by
  simp only [ev]
  cases (evs Γ l ρ) <;> rfl
theorem ev_isi {a : E} {t : Ty} : ev Γ (.isi a t) ρ = un1 (isiW t) (evd Γ a ρ) := by
  simp only [ev, evd]
  cases (ev Γ a ρ) <;> rfl
theorem ev_isx {a : E} {ys : List PySem.Str} : ev Γ (.isx a ys) ρ = un1 (isxW ys) (evd Γ a ρ) := by
  simp only [ev, evd]
  cases (ev Γ a ρ) <;> rfl
theorem evs_nil : evs Γ .nil ρ = some [] := by simp only [evs]
theorem evs_cons {e : E} {l : Es} : evs Γ (.cons e l) ρ = consO (evd Γ e ρ) (evs Γ l ρ) := by
  simp only [evs, evd]
  cases (ev Γ e ρ) <;> cases (evs Γ l ρ) <;> rfl
theorem evo_non : evo Γ .non ρ = some none := by simp only [evo]
theorem evo_som {e : E} : evo Γ (.som e) ρ = ((evd Γ e ρ).bind dInt).map some := by simp only [evo, evd]
end

/-! statements -/
noncomputable def thenS (Γ : Nat → List D → Option W) : Option Out → Ss → Option Out
  | some (.nx ρ), l => exs Γ l ρ
  | some (.rt w), _ => some (.rt w)
  | none, _ => none
def asgO (ρ : RhoS) (i : Nat) : Option W → Option Out
  | some w => (setR (after w ρ) i w.b).map Out.nx
  | none => none
def unpO (ρ : RhoS) (is : List Nat) : Option W → Option Out
  | some w => (bindTg (.tup is) w.d (after w ρ)).map Out.nx
  | none => none
def parO (ρ : RhoS) (i j : Nat) : Option D → Option D → Option Out
  | some x, some y => if lf x = true ∧ lf y = true ∧ i ≠ j ∧ i < ρ.length ∧ j < ρ.length then some (.nx ((ρ.set i (some (.sh x))).set j (some (.sh y)))) else none
  | _, _ => none
def retO : Option W → Option Out
  | some w => some (.rt w)
  | none => none
def retVO : Option (Option B) → Option Out
  | some (some (.ow l)) => some (.rt (.new l))
  | some (some (.sh d)) => some (.rt (.val d))
  | _ => none
def forO (bt : D → RhoS → Option RhoS) (fb : RhoS → Option Out) : Option (List D × RhoS) → Option Out
  | some (l, ρ) => forN bt fb l ρ
  | none => none
def tryO (Γ : Nat → List D → Option W) (f g i j : Nat) (ρ : RhoS) : Option (List D) → Option Out
  | some ds => match Γ g ds with
    | some (.val (.exc z)) => if z ∈ xNames ∧ i ≠ j ∧ i < ρ.length then some (.nx (((frz ρ).set j none).set i (some (.sh (.exc z))))) else none
    | _ => (Γ f ds).map fun _ => .nx (frz ρ)
  | none => none
def outO : Option Out → Option W
  | some (.rt w) => some w
  | some (.nx _) => some (.val .non)
  | none => none
def seqO (ρ : RhoS) : Option W → Option (List D × RhoS)
  | some w => match w.d with
    | .lst l => some (l, after w ρ)
    | .tup l => some (l, after w ρ)
    | _ => none
  | none => none
def rng1O (ρ : RhoS) : Option D → Option (List D × RhoS)
  | some (.int n) => if -(2 ^ 62) ≤ n ∧ n < 2 ^ 62 then some (rangeD 0 n.toNat, ρ) else none
  | _ => none
def rng2O (ρ : RhoS) : Option D → Option D → Option (List D × RhoS)
  | some (.int m), some (.int n) => if -(2 ^ 62) ≤ m ∧ m < 2 ^ 62 ∧ -(2 ^ 62) ≤ n ∧ n < 2 ^ 62 then some (rangeD m (n - m).toNat, ρ) else none
  | _, _ => none
def enumO (ρ : RhoS) : Option D → Option (List D × RhoS)
  | some (.lst l) => some (enumD l, frz ρ)
  | _ => none
section
variable {Γ : Nat → List D → Option W} {ρ : RhoS}
theorem exs_nil : exs Γ .nil ρ = some (.nx ρ) := by simp only [exs]
theorem exs_cons {s : S} {l : Ss} : exs Γ (.cons s l) ρ = thenS Γ (ex Γ s ρ) l := by
  simp only [exs]
  cases ex Γ s ρ with
  | none => rfl
  | some o => cases o <;> rfl
theorem ex_asg {i : Nat} {e : E} : ex Γ (.asg i e) ρ = asgO ρ i (ev Γ e (view ρ)) := by
  simp only [ex]
  cases ev Γ e (view ρ) <;> rfl
theorem ex_unp {is : List Nat} {e : E} : ex Γ (.unp is e) ρ = unpO ρ is (ev Γ e (view ρ)) := by
  simp only [ex]
  cases ev Γ e (view ρ) <;> rfl
theorem ex_par {i j : Nat} {a b : E} : ex Γ (.par i j a b) ρ = parO ρ i j (evd Γ a (view ρ)) (evd Γ b (view ρ)) := by
  simp only [ex, evd]
  cases ev Γ a (view ρ) <;> cases ev Γ b (view ρ) <;> rfl
theorem ex_ret {e : E} : ex Γ (.ret e) ρ = retO (ev Γ e (view ρ)) := by
  simp only [ex]
  cases ev Γ e (view ρ) <;> rfl
theorem ex_retV {i : Nat} : ex Γ (.retV i) ρ = retVO ρ[i]? := by
  simp only [ex]
  cases ρ[i]? with
  | none => rfl
  | some o => cases o with
    | none => rfl
    | some b => cases b <;> rfl
theorem ex_iff {c : E} {a b : Ss} : ex Γ (.iff c a b) ρ = iffO (evb Γ c (view ρ)) (exs Γ a ρ) (exs Γ b ρ) := by
  simp only [ex, evB, evb, evd]
  cases (Option.map W.d (ev Γ c (view ρ))).bind dBool with
  | none => rfl
  | some k => cases k <;> rfl
theorem ex_whl {c : E} {b : Ss} : ex Γ (.whl c b) ρ = whileD (evB Γ c) (exs Γ b) ρ := by simp only [ex]
theorem ex_frr {t : Tg} {it : It'} {b : Ss} : ex Γ (.frr t it b) ρ = forO (bindTg t) (exs Γ b) (evI Γ it ρ) := by
  simp only [ex]
  cases evI Γ it ρ <;> rfl
theorem ex_tryC {f g : Nat} {l : Es} {i j : Nat} : ex Γ (.tryC f g l i j) ρ = tryO Γ f g i j ρ (evs Γ l (view ρ)) := by
  simp only [ex]
  cases evs Γ l (view ρ) with
  | none => rfl
  | some ds =>
    rw [Option.bind_some]
    unfold tryO
    cases hg : Γ g ds with
    | none => simp only [hg]
    | some w => cases w with
      | new l => simp only [hg]
      | val d => cases d <;> simp only [hg]
theorem evB_eq {c : E} : evB Γ c ρ = evb Γ c (view ρ) := rfl
theorem evI_seq {e : E} : evI Γ (.seq e) ρ = seqO ρ (ev Γ e (view ρ)) := by
  simp only [evI]
  cases ev Γ e (view ρ) <;> rfl
theorem evI_range1 {e : E} : evI Γ (.range1 e) ρ = rng1O ρ (evd Γ e (view ρ)) := by
  simp only [evI, evd]
  cases ev Γ e (view ρ) with
  | none => rfl
  | some w => simp only [Option.map_some, Option.bind_some]; cases w.d <;> rfl
theorem evI_range2 {a b : E} : evI Γ (.range2 a b) ρ = rng2O ρ (evd Γ a (view ρ)) (evd Γ b (view ρ)) := by
  simp only [evI, evd]
  cases ev Γ a (view ρ) with
  | none => rfl
  | some w =>
    cases ev Γ b (view ρ) with
    | none => simp only [Option.map_some, Option.bind_some]; cases w.d <;> rfl
    | some u => simp only [Option.map_some, Option.bind_some]; cases w.d <;> cases u.d <;> rfl
theorem evI_enum {e : E} : evI Γ (.enum e) ρ = enumO ρ (evd Γ e (view ρ)) := by
  simp only [evI, evd]
  cases ev Γ e (view ρ) with
  | none => rfl
  | some w => simp only [Option.map_some, Option.bind_some]; cases w.d <;> rfl
theorem run_eq {b : Ss} {n : Nat} {ds : List D} : run Γ b n ds = outO (exs Γ b (ds.map (fun d => some (.sh d)) ++ List.replicate (n - ds.length) none)) := by
  unfold run
  cases exs Γ b (ds.map (fun d => some (.sh d)) ++ List.replicate (n - ds.length) none) with
  | none => rfl
  | some o => cases o <;> rfl
end
section
variable {Γ : Nat → List D → Option W} {ρ : RhoS}
theorem bin2_s {f : D → D → Option W} {x y : D} : bin2 f (some x) (some y) = f x y := rfl
theorem un1_s {f : D → Option W} {x : D} : un1 f (some x) = f x := rfl
theorem andO_t {y : Option W} : andO (some true) y = y := rfl
theorem andO_f {y : Option W} : andO (some false) y = some (.val (.bl false)) := rfl
theorem orO_t {y : Option W} : orO (some true) y = some (.val (.bl true)) := rfl
theorem orO_f {y : Option W} : orO (some false) y = y := rfl
theorem iffO_t {α : Type} {x y : Option α} : iffO (some true) x y = x := rfl
theorem iffO_f {α : Type} {x y : Option α} : iffO (some false) x y = y := rfl
theorem appL_s {f : List D → Option W} {l : List D} : appL f (some l) = f l := rfl
theorem consO_s {d : D} {l : List D} : consO (some d) (some l) = some (d :: l) := rfl
theorem slO_s {x : D} {i j : Option Int} : slO (some x) (some i) (some j) = slD x i j := rfl
theorem notW_s {k : Bool} : notW (some k) = some (.val (.bl (!k))) := rfl
theorem thenS_nx {l : Ss} : thenS Γ (some (.nx ρ)) l = exs Γ l ρ := rfl
theorem thenS_rt {l : Ss} {w : W} : thenS Γ (some (.rt w)) l = some (.rt w) := rfl
theorem asgO_s {i : Nat} {w : W} : asgO ρ i (some w) = (setR (after w ρ) i w.b).map Out.nx := rfl
theorem unpO_s {is : List Nat} {w : W} : unpO ρ is (some w) = (bindTg (.tup is) w.d (after w ρ)).map Out.nx := rfl
theorem parO_s {i j : Nat} {x y : D} : parO ρ i j (some x) (some y) = if lf x = true ∧ lf y = true ∧ i ≠ j ∧ i < ρ.length ∧ j < ρ.length then some (.nx ((ρ.set i (some (.sh x))).set j (some (.sh y)))) else none := rfl
theorem retO_s {w : W} : retO (some w) = some (.rt w) := rfl
theorem tryO_x {f g i j : Nat} {ds : List D} {z : PySem.Str} (h : Γ g ds = some (.val (.exc z))) : tryO Γ f g i j ρ (some ds) = if z ∈ xNames ∧ i ≠ j ∧ i < ρ.length then some (.nx (((frz ρ).set j none).set i (some (.sh (.exc z))))) else none := by
  simp only [tryO, h]
theorem tryO_n {f g i j : Nat} {ds : List D} {w : W} (h : Γ g ds = none) (k : Γ f ds = some w) : tryO Γ f g i j ρ (some ds) = some (.nx (frz ρ)) := by
  simp only [tryO, h, k, Option.map_some]
theorem retVO_o {l : List D} : retVO (some (some (.ow l))) = some (.rt (.new l)) := rfl
theorem retVO_s {d : D} : retVO (some (some (.sh d))) = some (.rt (.val d)) := rfl
theorem forO_s {bt : D → RhoS → Option RhoS} {fb : RhoS → Option Out} {l : List D} : forO bt fb (some (l, ρ)) = forN bt fb l ρ := rfl
theorem outO_rt {w : W} : outO (some (.rt w)) = some w := rfl
theorem outO_nx : outO (some (.nx ρ)) = some (.val .non) := rfl
theorem seqO_nl {l : List D} : seqO ρ (some (.new l)) = some (l, after (.new l) ρ) := rfl
theorem seqO_vl {l : List D} : seqO ρ (some (.val (.lst l))) = some (l, after (.val (.lst l)) ρ) := rfl
theorem seqO_vt {l : List D} : seqO ρ (some (.val (.tup l))) = some (l, after (.val (.tup l)) ρ) := rfl
theorem enumO_s {l : List D} : enumO ρ (some (.lst l)) = some (enumD l, frz ρ) := rfl
theorem rng1O_s {n : Int} : rng1O ρ (some (.int n)) = if -(2 ^ 62) ≤ n ∧ n < 2 ^ 62 then some (rangeD 0 n.toNat, ρ) else none := rfl
theorem rng2O_s {m n : Int} : rng2O ρ (some (.int m)) (some (.int n)) = if -(2 ^ 62) ≤ m ∧ m < 2 ^ 62 ∧ -(2 ^ 62) ≤ n ∧ n < 2 ^ 62 then some (rangeD m (n - m).toNat, ρ) else none := rfl
theorem varD_0 {o : Option D} {r : Rho} : varD (o :: r) 0 = o := by cases o <;> rfl
theorem varD_s {o : Option D} {r : Rho} {i : Nat} : varD (o :: r) (i + 1) = varD r i := rfl
theorem view_nil : view [] = [] := rfl
theorem view_cons {o : Option B} {r : RhoS} : view (o :: r) = o.map B.d :: view r := rfl
theorem after_i {i : Int} : after (.val (.int i)) ρ = ρ := rfl
theorem after_b {i : Bool} : after (.val (.bl i)) ρ = ρ := rfl
theorem after_n : after (.val .non) ρ = ρ := rfl
theorem after_of {w : W} (h : lfW w = true) : after w ρ = ρ := if_pos h
theorem Wd_v {d : D} : (W.val d).d = d := rfl
theorem Wd_n {l : List D} : (W.new l).d = .lst l := rfl
theorem Wb_v {d : D} : (W.val d).b = .sh d := rfl
theorem Wb_n {l : List D} : (W.new l).b = .ow l := rfl
theorem Bd_s {d : D} : (B.sh d).d = d := rfl
theorem Bd_o {l : List D} : (B.ow l).d = .lst l := rfl
theorem dBool_s {k : Bool} : dBool (.bl k) = some k := rfl
theorem dInt_s {k : Int} : dInt (.int k) = some k := rfl
theorem setR_0 {o : Option B} {b : B} : setR (o :: ρ) 0 b = some (some b :: ρ) := rfl
theorem setR_s {o : Option B} {i : Nat} {b : B} : setR (o :: ρ) (i + 1) b = (setR ρ i b).map (o :: ·) := by
  unfold setR
  by_cases h : i < ρ.length
  · rw [if_pos h, if_pos (by rw [List.length_cons]; omega)]; rfl
  · rw [if_neg h, if_neg (by rw [List.length_cons]; omega)]; rfl
theorem op_add {a b : Int} : opW .add (.int a) (.int b) = some (.val (.int (a + b))) := rfl
theorem op_sub {a b : Int} : opW .sub (.int a) (.int b) = some (.val (.int (a - b))) := rfl
theorem op_mul {a b : Int} : opW .mul (.int a) (.int b) = if mulOk a b = true then some (.val (.int (a * b))) else none := rfl
theorem op_fdiv {a b : Int} : opW .fdiv (.int a) (.int b) = if divOk b = true then some (.val (.int (a.fdiv b))) else none := rfl
theorem op_mod {a b : Int} : opW .mod (.int a) (.int b) = if b = 0 then none else some (.val (.int (a.fmod b))) := rfl
theorem op_pow {a b : Int} : opW .pow (.int a) (.int b) = if powOk a b = true then some (.val (.int (a ^ b.toNat))) else none := rfl
end
theorem sl0 : (0 ≤ PySem.sizeLine) = True := eq_true (by decide)
theorem sl1 : (1 ≤ PySem.sizeLine) = True := eq_true (by decide)
theorem sl2 : (2 ≤ PySem.sizeLine) = True := eq_true (by decide)
theorem sl3 : (3 ≤ PySem.sizeLine) = True := eq_true (by decide)
theorem sl4 : (4 ≤ PySem.sizeLine) = True := eq_true (by decide)
theorem sl5 : (5 ≤ PySem.sizeLine) = True := eq_true (by decide)
theorem sl6 : (6 ≤ PySem.sizeLine) = True := eq_true (by decide)
theorem sl7 : (7 ≤ PySem.sizeLine) = True := eq_true (by decide)
theorem sl8 : (8 ≤ PySem.sizeLine) = True := eq_true (by decide)
theorem sl9 : (9 ≤ PySem.sizeLine) = True := eq_true (by decide)
theorem at1_0 {a : D} : L2.atI [a] 0 = some a := rfl
theorem at2_0 {a b : D} : L2.atI [a, b] 0 = some a := rfl
theorem at2_1 {a b : D} : L2.atI [a, b] 1 = some b := rfl
theorem at3_0 {a b c : D} : L2.atI [a, b, c] 0 = some a := rfl
theorem at3_1 {a b c : D} : L2.atI [a, b, c] 1 = some b := rfl
theorem at3_2 {a b c : D} : L2.atI [a, b, c] 2 = some c := rfl
theorem at4_0 {a b c d : D} : L2.atI [a, b, c, d] 0 = some a := rfl
theorem at4_1 {a b c d : D} : L2.atI [a, b, c, d] 1 = some b := rfl
theorem at4_2 {a b c d : D} : L2.atI [a, b, c, d] 2 = some c := rfl
theorem at4_3 {a b c d : D} : L2.atI [a, b, c, d] 3 = some d := rfl
theorem at5_0 {a b c d e : D} : L2.atI [a, b, c, d, e] 0 = some a := rfl
theorem at5_1 {a b c d e : D} : L2.atI [a, b, c, d, e] 1 = some b := rfl
theorem at5_2 {a b c d e : D} : L2.atI [a, b, c, d, e] 2 = some c := rfl
theorem at5_3 {a b c d e : D} : L2.atI [a, b, c, d, e] 3 = some d := rfl
theorem at5_4 {a b c d e : D} : L2.atI [a, b, c, d, e] 4 = some e := rfl
theorem at6_0 {a b c d e f : D} : L2.atI [a, b, c, d, e, f] 0 = some a := rfl
theorem at6_1 {a b c d e f : D} : L2.atI [a, b, c, d, e, f] 1 = some b := rfl
theorem at6_2 {a b c d e f : D} : L2.atI [a, b, c, d, e, f] 2 = some c := rfl
theorem at6_3 {a b c d e f : D} : L2.atI [a, b, c, d, e, f] 3 = some d := rfl
theorem at6_4 {a b c d e f : D} : L2.atI [a, b, c, d, e, f] 4 = some e := rfl
theorem at6_5 {a b c d e f : D} : L2.atI [a, b, c, d, e, f] 5 = some f := rfl
theorem fmod_pos {a b : Int} (h : 0 < b) : a.fmod b = a % b := Int.fmod_eq_emod_of_nonneg _ (by omega)
theorem fdiv_pos {a b : Int} (h : 0 < b) : a.fdiv b = a / b := Int.fdiv_eq_ediv_of_nonneg _ (by omega)
theorem divOk_small {b : Int} (h0 : 0 < b) (h1 : b < 1000000000000000000000000000000000000000000000000000000000000000000000000000000000000000000000000000000000000000000000000000000000000000000000000000000) : divOk b = true := by
  unfold divOk
  rw [Bool.and_eq_true]
  refine ⟨decide_eq_true (by omega), decide_eq_true ?_⟩
  have : (1000000000000000000000000000000000000000000000000000000000000000000000000000000000000000000000000000000000000000000000000000000000000000000000000000000 : Nat) ≤ 2 ^ 9000 := by decide +kernel
  omega
theorem mulOk_small {a b : Int} (h0 : -1000000000000000000000000000000000000000000000000000000000000000000000000000000000000000000000000000000000000000000000000000000000000000000000000000000 < a) (h1 : a < 1000000000000000000000000000000000000000000000000000000000000000000000000000000000000000000000000000000000000000000000000000000000000000000000000000000) (h2 : -1000000000000000000000000000000000000000000000000000000000000000000000000000000000000000000000000000000000000000000000000000000000000000000000000000000 < b) (h3 : b < 1000000000000000000000000000000000000000000000000000000000000000000000000000000000000000000000000000000000000000000000000000000000000000000000000000000) : mulOk a b = true := by
  unfold mulOk
  rw [Bool.and_eq_true]
  have : (1000000000000000000000000000000000000000000000000000000000000000000000000000000000000000000000000000000000000000000000000000000000000000000000000000000 : Nat) ≤ 2 ^ 16000 := by decide +kernel
  exact ⟨decide_eq_true (by omega), decide_eq_true (by omega)⟩
theorem op_p4 : opW .pow (.int 10) (.int 4) = some (.val (.int 10000)) := by
  have h : powOk 10 4 = true := by decide +kernel
  have e : ((10 : Int) ^ Int.toNat 4) = 10000 := by decide +kernel
  rw [op_pow, if_pos h, e]
theorem op_p5 : opW .pow (.int 10) (.int 5) = some (.val (.int 100000)) := by
  have h : powOk 10 5 = true := by decide +kernel
  have e : ((10 : Int) ^ Int.toNat 5) = 100000 := by decide +kernel
  rw [op_pow, if_pos h, e]
theorem op_p6 : opW .pow (.int 10) (.int 6) = some (.val (.int 1000000)) := by
  have h : powOk 10 6 = true := by decide +kernel
  have e : ((10 : Int) ^ Int.toNat 6) = 1000000 := by decide +kernel
  rw [op_pow, if_pos h, e]
theorem op_p9 : opW .pow (.int 10) (.int 9) = some (.val (.int 1000000000)) := by
  have h : powOk 10 9 = true := by decide +kernel
  have e : ((10 : Int) ^ Int.toNat 9) = 1000000000 := by decide +kernel
  rw [op_pow, if_pos h, e]
theorem op_p10 : opW .pow (.int 10) (.int 10) = some (.val (.int 10000000000)) := by
  have h : powOk 10 10 = true := by decide +kernel
  have e : ((10 : Int) ^ Int.toNat 10) = 10000000000 := by decide +kernel
  rw [op_pow, if_pos h, e]
theorem op_p18 : opW .pow (.int 10) (.int 18) = some (.val (.int 1000000000000000000)) := by
  have h : powOk 10 18 = true := by decide +kernel
  have e : ((10 : Int) ^ Int.toNat 18) = 1000000000000000000 := by decide +kernel
  rw [op_pow, if_pos h, e]
theorem op_p30 : opW .pow (.int 10) (.int 30) = some (.val (.int 1000000000000000000000000000000)) := by
  have h : powOk 10 30 = true := by decide +kernel
  have e : ((10 : Int) ^ Int.toNat 30) = 1000000000000000000000000000000 := by decide +kernel
  rw [op_pow, if_pos h, e]
theorem op_p60 : opW .pow (.int 10) (.int 60) = some (.val (.int 1000000000000000000000000000000000000000000000000000000000000)) := by
  have h : powOk 10 60 = true := by decide +kernel
  have e : ((10 : Int) ^ Int.toNat 60) = 1000000000000000000000000000000000000000000000000000000000000 := by decide +kernel
  rw [op_pow, if_pos h, e]
theorem op_p64 : opW .pow (.int 10) (.int 64) = some (.val (.int 10000000000000000000000000000000000000000000000000000000000000000)) := by
  have h : powOk 10 64 = true := by decide +kernel
  have e : ((10 : Int) ^ Int.toNat 64) = 10000000000000000000000000000000000000000000000000000000000000000 := by decide +kernel
  rw [op_pow, if_pos h, e]
theorem cs0 : ((0 : Nat) : Int) = 0 := rfl
theorem cs1 : ((1 : Nat) : Int) = 1 := rfl
theorem cs2 : ((2 : Nat) : Int) = 2 := rfl
theorem cs3 : ((3 : Nat) : Int) = 3 := rfl
theorem cs4 : ((4 : Nat) : Int) = 4 := rfl
theorem cs5 : ((5 : Nat) : Int) = 5 := rfl
theorem cs6 : ((6 : Nat) : Int) = 6 := rfl
theorem cs7 : ((7 : Nat) : Int) = 7 := rfl
theorem cs8 : ((8 : Nat) : Int) = 8 := rfl
theorem cs9 : ((9 : Nat) : Int) = 9 := rfl
theorem cs10 : ((10 : Nat) : Int) = 10 := rfl
theorem cs11 : ((11 : Nat) : Int) = 11 := rfl
theorem cs12 : ((12 : Nat) : Int) = 12 := rfl
theorem ixD_t {l : List D} {i : Int} : ixD (.tup l) (.int i) = L2.atI l i := rfl
theorem ixD_l {l : List D} {i : Int} : ixD (.lst l) (.int i) = L2.atI l i := rfl
theorem slD_l {l : List D} {i j : Option Int} : slD (.lst l) i j = some (.new (cutD l i j)) := rfl
theorem bindTg_n {i : Nat} {d : D} {ρ : RhoS} : bindTg (.name i) d ρ = setR ρ i (.sh d) := rfl
theorem bindTg_t {is : List Nat} {ds : List D} {ρ : RhoS} : bindTg (.tup is) (.tup ds) ρ = bindAll is ds ρ := rfl
theorem isTy_tt {l : List D} : isTy .tuple (.tup l) = true := rfl
theorem isTy_ll {l : List D} : isTy .list (.lst l) = true := rfl
theorem isTy_ii {i : Int} : isTy .int (.int i) = true := rfl
theorem isTy_bi {i : Int} : isTy .bool (.int i) = false := rfl
theorem isTy_bb {i : Bool} : isTy .bool (.bl i) = true := rfl
end DL

namespace Sf
abbrev gc (a b : Int) : Int := ((Int.gcd a b : Nat) : Int)
theorem gc_nn (a b : Int) : 0 ≤ gc a b := Int.natCast_nonneg _
theorem gc_pos {a b : Int} (h : b ≠ 0) : 0 < gc a b := Int.natCast_pos.mpr (Int.gcd_pos_of_ne_zero_right a h)
theorem gc_posl {a b : Int} (h : a ≠ 0) : 0 < gc a b := Int.natCast_pos.mpr (Int.gcd_pos_of_ne_zero_left b h)
/-- one turn of the divisor's loop -/
theorem gc_turn {g s : Int} : gc s (g % s) = gc g s := by
  have e : g = g % s + s * (g / s) := by have := Int.emod_add_mul_ediv g s; omega
  show ((Int.gcd s (g % s) : Nat) : Int) = ((Int.gcd g s : Nat) : Int)
  have h : Int.gcd s g = Int.gcd s (g % s) := by
    conv => lhs; rw [e]
    rw [Int.gcd_add_mul_left_right]
  rw [Int.gcd_comm g s, h]
theorem gc_zero {g : Int} (h : 0 ≤ g) : gc g 0 = g := by
  show ((Int.gcd g 0 : Nat) : Int) = g
  rw [Int.gcd_zero]; omega
theorem gc_abs (a b : Int) : gc (if a < 0 then -a else a) (if b < 0 then -b else b) = gc a b := by
  show ((Int.gcd _ _ : Nat) : Int) = _
  split <;> split <;> simp only [Int.neg_gcd, Int.gcd_neg]
theorem co_of {p q : Int} (h : ∀ c, c ∣ p → c ∣ q → c ∣ 1) : Int.gcd p q = 1 := Int.gcd_eq_one_iff.mpr h
theorem dvd_of_co {k m n : Int} (h : Int.gcd k m = 1) (d : k ∣ m * n) : k ∣ n := by
  have e := Int.gcd_mul_right_right_of_gcd_eq_one (n := k) (m := m) (k := n) h
  have h1 : Int.gcd k (m * n) = k.natAbs := Int.gcd_eq_natAbs_left d
  rw [h1] at e
  exact Int.gcd_eq_natAbs_left_iff_dvd.mp e.symm
theorem abs_le_of_dvd {a b : Int} (h : a ∣ b) (hb : b ≠ 0) : a.natAbs ≤ b.natAbs :=
  Nat.le_of_dvd (by omega) (Int.natAbs_dvd_natAbs.mpr h)
/-- what is left without the greatest divisor -/
theorem gc_split {a b : Int} (h : 0 < gc a b) : ∃ x y : Int, a = gc a b * x ∧ b = gc a b * y ∧ Int.gcd x y = 1 := by
  obtain ⟨x, hx⟩ := Int.gcd_dvd_left a b
  obtain ⟨y, hy⟩ := Int.gcd_dvd_right a b
  refine ⟨x, y, hx, hy, ?_⟩
  have h2 : Int.gcd a b = (gc a b).natAbs * Int.gcd x y := by
    have e := Int.gcd_mul_left (gc a b) x y
    have e1 : gc a b * x = a := hx.symm
    have e2 : gc a b * y = b := hy.symm
    rw [e1, e2] at e
    exact e
  have h3 : (gc a b).natAbs = Int.gcd a b := Int.natAbs_natCast _
  rw [h3] at h2
  have h4 : 0 < Int.gcd a b := Int.natCast_pos.mp h
  exact (Nat.eq_of_mul_eq_mul_left h4 (by rw [Nat.mul_one]; exact h2)).symm
/-- a fraction by its top and bottom -/
structure Fra (p q : Int) : Prop where
  pos : 0 < q
  co : Int.gcd p q = 1
theorem Fra.cross_dvd {p q N B : Int} (f : Fra p q) (h : p * B = N * q) : p ∣ N ∧ q ∣ B := by
  constructor
  · refine dvd_of_co f.co ⟨B, ?_⟩
    rw [h, Int.mul_comm]
  · refine dvd_of_co (k := q) (m := p) (by rw [Int.gcd_comm]; exact f.co) ⟨N, ?_⟩
    rw [h, Int.mul_comm]
theorem Fra.cross_le {p q N B : Int} (f : Fra p q) (hB : B ≠ 0) (h : p * B = N * q) : p.natAbs ≤ N.natAbs ∧ q.natAbs ≤ B.natAbs := by
  obtain ⟨h1, h2⟩ := f.cross_dvd h
  refine ⟨?_, abs_le_of_dvd h2 hB⟩
  by_cases hN : N = 0
  · subst hN
    rw [Int.zero_mul] at h
    rcases Int.mul_eq_zero.mp h with e | e
    · rw [e]; exact Nat.le_refl _
    · exact absurd e hB
  · exact abs_le_of_dvd h1 hN
/-- two fractions of the same worth are one -/
theorem Fra.uniq {p q r s : Int} (f : Fra p q) (g : Fra r s) (h : p * s = r * q) : p = r ∧ q = s := by
  have h1 := (f.cross_dvd h).2
  have h2 := (g.cross_dvd h.symm).2
  have e : q = s := Int.dvd_antisymm (Int.le_of_lt f.pos) (Int.le_of_lt g.pos) h1 h2
  subst e
  exact ⟨Int.eq_of_mul_eq_mul_right (by have := f.pos; omega) h, rfl⟩
theorem Fra.zero_iff {p q : Int} (f : Fra p q) : p = 0 → q = 1 := fun h => by
  subst h
  have := f.co
  rw [Int.zero_gcd] at this
  have := f.pos
  omega
theorem fra_int (n : Int) : Fra n 1 := ⟨by decide, Int.gcd_one⟩

/-- lowest terms -/
def by_ (t b : Int) : Int := if b < 0 then -(gc t b) else gc t b
def low1 (t b : Int) : Int := t.fdiv (by_ t b)
def low2 (t b : Int) : Int := b.fdiv (by_ t b)
theorem by_ne {t b : Int} (h : b ≠ 0) : by_ t b ≠ 0 := by
  have := gc_pos (a := t) h
  unfold by_; split <;> omega
theorem low_split {t b : Int} (h : b ≠ 0) : t = by_ t b * low1 t b ∧ b = by_ t b * low2 t b ∧ Fra (low1 t b) (low2 t b) := by
  have hg := gc_pos (a := t) h
  obtain ⟨x, y, hx, hy, hc⟩ := gc_split hg
  have hn := by_ne (t := t) h
  have key : ∃ z : Int, (z = 1 ∨ z = -1) ∧ by_ t b = gc t b * z ∧ 0 < y * z := by
    by_cases hb : b < 0
    · refine ⟨-1, .inr rfl, ?_, ?_⟩
      · unfold by_; rw [if_pos hb]; omega
      · have : y < 0 := by
          rw [hy] at hb
          by_cases hh : y < 0
          · exact hh
          · exact absurd hb (Int.not_lt.mpr (Int.mul_nonneg (Int.le_of_lt hg) (Int.not_lt.mp hh)))
        omega
    · refine ⟨1, .inl rfl, ?_, ?_⟩
      · unfold by_; rw [if_neg hb]; omega
      · have : 0 < y := by
          by_cases hh : 0 < y
          · exact hh
          · have := Int.mul_nonpos_of_nonneg_of_nonpos (Int.le_of_lt hg) (Int.not_lt.mp hh)
            rw [← hy] at this; omega
        omega
  obtain ⟨z, hz, hbz, hyz⟩ := key
  have zz : z * z = 1 := by rcases hz with e | e <;> subst e <;> decide
  have e1 : t = by_ t b * (x * z) := by
    rw [hbz]
    conv => lhs; rw [hx]
    grind
  have e2 : b = by_ t b * (y * z) := by
    rw [hbz]
    conv => lhs; rw [hy]
    grind
  have l1 : low1 t b = x * z := by
    unfold low1
    conv => lhs; arg 1; rw [e1]
    exact Int.mul_fdiv_cancel_left _ hn
  have l2 : low2 t b = y * z := by
    unfold low2
    conv => lhs; arg 1; rw [e2]
    exact Int.mul_fdiv_cancel_left _ hn
  rw [l1, l2]
  refine ⟨e1, e2, hyz, ?_⟩
  rcases hz with e | e <;> subst e
  · rw [Int.mul_one, Int.mul_one]; exact hc
  · have e3 : x * -1 = -x := by omega
    have e4 : y * -1 = -y := by omega
    rw [e3, e4, Int.neg_gcd, Int.gcd_neg]; exact hc
theorem low_fra {t b : Int} (h : b ≠ 0) : Fra (low1 t b) (low2 t b) := (low_split h).2.2
theorem low_cross {t b : Int} (h : b ≠ 0) : low1 t b * b = t * low2 t b := by
  obtain ⟨e1, e2, _⟩ := low_split (t := t) h
  generalize by_ t b = g at e1 e2
  generalize low1 t b = x at e1 e2 ⊢
  generalize low2 t b = y at e1 e2 ⊢
  subst e1; subst e2
  grind
theorem low_le {t b : Int} (h : b ≠ 0) : (low1 t b).natAbs ≤ t.natAbs ∧ (low2 t b).natAbs ≤ b.natAbs := (low_fra h).cross_le h (low_cross h)
/-- a fraction's own terms are left as they are -/
theorem low_own {p q : Int} (f : Fra p q) : low1 p q = p ∧ low2 p q = q := by
  have hq : q ≠ 0 := by have := f.pos; omega
  exact (low_fra hq).uniq f (low_cross hq)
/-- of a fraction with a common factor -/
theorem low_mul {s p q : Int} (hs : s ≠ 0) (f : Fra p q) : low1 (s * p) (s * q) = p ∧ low2 (s * p) (s * q) = q := by
  have hq : q ≠ 0 := by have := f.pos; omega
  have h : s * q ≠ 0 := Int.mul_ne_zero hs hq
  refine (low_fra h).uniq f ?_
  have e := low_cross (t := s * p) h
  apply Int.eq_of_mul_eq_mul_left hs
  grind

/-- the sum of two fractions -/
def addT (a b c d : Int) : Int := a * (d.fdiv (gc b d)) + c * (b.fdiv (gc b d))
def add1 (a b c d : Int) : Int := (addT a b c d).fdiv (gc (addT a b c d) (gc b d))
def add2 (a b c d : Int) : Int := b.fdiv (gc b d) * d.fdiv (gc (addT a b c d) (gc b d))
theorem add_ok {a b c d : Int} (f : Fra a b) (g : Fra c d) : Fra (add1 a b c d) (add2 a b c d) ∧ add1 a b c d * (b * d) = (a * d + c * b) * add2 a b c d := by
  have hb := f.pos
  have hd := g.pos
  have hs : 0 < gc b d := gc_pos (by omega)
  obtain ⟨b', d', eb, ed, co⟩ := gc_split hs
  have hr : 0 < gc (addT a b c d) (gc b d) := gc_pos (by omega)
  obtain ⟨t', s', et, es, co2⟩ := gc_split hr
  have hne : gc b d ≠ 0 := by omega
  have hre : gc (addT a b c d) (gc b d) ≠ 0 := by omega
  have q1 : b.fdiv (gc b d) = b' := by
    conv => lhs; arg 1; rw [eb]
    exact Int.mul_fdiv_cancel_left _ hne
  have q2 : d.fdiv (gc b d) = d' := by
    conv => lhs; arg 1; rw [ed]
    exact Int.mul_fdiv_cancel_left _ hne
  have hT : addT a b c d = a * d' + c * b' := by unfold addT; rw [q1, q2]
  have q3 : add1 a b c d = t' := by
    unfold add1
    conv => lhs; arg 1; rw [et]
    exact Int.mul_fdiv_cancel_left _ hre
  have ed2 : d = gc (addT a b c d) (gc b d) * (s' * d') := by
    conv => lhs; rw [ed]
    rw [← Int.mul_assoc]
    conv => lhs; arg 1; rw [es]
  have q4 : d.fdiv (gc (addT a b c d) (gc b d)) = s' * d' := by
    conv => lhs; arg 1; rw [ed2]
    exact Int.mul_fdiv_cancel_left _ hre
  have q5 : add2 a b c d = b' * (s' * d') := by unfold add2; rw [q1, q4]
  rw [q3, q5]
  generalize gc (addT a b c d) (gc b d) = r at *
  generalize gc b d = s at *
  rw [hT] at et
  have pb : 0 < b' := by
    by_cases hh : 0 < b'
    · exact hh
    · have := Int.mul_nonpos_of_nonneg_of_nonpos (Int.le_of_lt hs) (Int.not_lt.mp hh); omega
  have pd : 0 < d' := by
    by_cases hh : 0 < d'
    · exact hh
    · have := Int.mul_nonpos_of_nonneg_of_nonpos (Int.le_of_lt hs) (Int.not_lt.mp hh); omega
  have ps : 0 < s' := by
    by_cases hh : 0 < s'
    · exact hh
    · have := Int.mul_nonpos_of_nonneg_of_nonpos (Int.le_of_lt hr) (Int.not_lt.mp hh); omega
  -- a and b' have nothing in common, nor c and d'
  have ca : Int.gcd a b' = 1 := co_of fun k h1 h2 => Int.gcd_eq_one_iff.mp f.co k h1 (by rw [eb]; exact Int.dvd_mul_of_dvd_right h2)
  have cc : Int.gcd c d' = 1 := co_of fun k h1 h2 => Int.gcd_eq_one_iff.mp g.co k h1 (by rw [ed]; exact Int.dvd_mul_of_dvd_right h2)
  have dt : t' ∣ a * d' + c * b' := ⟨r, by rw [et, Int.mul_comm]⟩
  have ctb : Int.gcd t' b' = 1 := co_of fun k h1 h2 => by
    have k1 : k ∣ a * d' := (Int.dvd_add_left (Int.dvd_mul_of_dvd_right h2)).mp (Int.dvd_trans h1 dt)
    have kd : Int.gcd k d' = 1 := co_of fun j j1 j2 => Int.gcd_eq_one_iff.mp co j (Int.dvd_trans j1 h2) j2
    have k2 : k ∣ a := dvd_of_co kd (by rw [Int.mul_comm]; exact k1)
    exact Int.gcd_eq_one_iff.mp ca k k2 h2
  have ctd : Int.gcd t' d' = 1 := co_of fun k h1 h2 => by
    have k1 : k ∣ c * b' := (Int.dvd_add_right (Int.dvd_mul_of_dvd_right h2)).mp (Int.dvd_trans h1 dt)
    have kd : Int.gcd k b' = 1 := co_of fun j j1 j2 => Int.gcd_eq_one_iff.mp co j j2 (Int.dvd_trans j1 h2)
    have k2 : k ∣ c := dvd_of_co kd (by rw [Int.mul_comm]; exact k1)
    exact Int.gcd_eq_one_iff.mp cc k k2 h2
  refine ⟨⟨Int.mul_pos pb (Int.mul_pos ps pd), ?_⟩, ?_⟩
  · rw [Int.gcd_mul_right_right_of_gcd_eq_one ctb, Int.gcd_mul_right_right_of_gcd_eq_one co2]
    exact ctd
  · subst eb; subst ed; subst es
    have : a * (r * s' * d') + c * (r * s' * b') = r * s' * (r * t') := by rw [← et]; grind
    rw [this]; grind
end Sf

/-! fractions as rational numbers -/
namespace Sf
theorem fra_rat (x : Rat) : Fra x.num (x.den : Int) := ⟨by have := x.den_nz; omega, by
  have := x.reduced
  show Nat.gcd x.num.natAbs ((x.den : Int)).natAbs = 1
  exact this⟩
/-- the rational number of a fraction -/
theorem rat_of {p q : Int} (f : Fra p q) : (Rat.divInt p q).num = p ∧ ((Rat.divInt p q).den : Int) = q := by
  have hq := f.pos
  refine (fra_rat (Rat.divInt p q)).uniq f ?_
  have e : Rat.divInt (Rat.divInt p q).num ((Rat.divInt p q).den : Int) = Rat.divInt p q := Rat.num_divInt_den _
  exact (Rat.divInt_eq_divInt_iff (by have := (Rat.divInt p q).den_nz; omega) (by omega)).mp e
theorem rat_eq {x : Rat} {p q : Int} (hq : q ≠ 0) : x = Rat.divInt p q ↔ x.num * q = p * (x.den : Int) := by
  conv => lhs; lhs; rw [← Rat.num_divInt_den x]
  exact Rat.divInt_eq_divInt_iff (by have := x.den_nz; omega) hq
theorem low_rat {t b : Int} (h : b ≠ 0) : (Rat.divInt t b).num = low1 t b ∧ ((Rat.divInt t b).den : Int) = low2 t b :=
  (fra_rat _).uniq (low_fra h) (by
    have e := (rat_eq (x := Rat.divInt t b) h).mp rfl
    have c := low_cross (t := t) h
    have f := (low_fra (t := t) h).pos
    apply Int.eq_of_mul_eq_mul_right h
    grind)
theorem add_rat (x y : Rat) : (x + y).num = add1 x.num x.den y.num y.den ∧ ((x + y).den : Int) = add2 x.num x.den y.num y.den := by
  obtain ⟨f, c⟩ := add_ok (fra_rat x) (fra_rat y)
  refine (fra_rat _).uniq f ?_
  have hx : (x.den : Int) ≠ 0 := by have := x.den_nz; omega
  have hy : (y.den : Int) ≠ 0 := by have := y.den_nz; omega
  have e : x + y = Rat.divInt (x.num * y.den + y.num * x.den) (x.den * y.den) := by
    conv => lhs; rw [← Rat.num_divInt_den x, ← Rat.num_divInt_den y]
    exact Rat.divInt_add_divInt _ _ hx hy
  have e2 := (rat_eq (x := x + y) (Int.mul_ne_zero hx hy)).mp e
  apply Int.eq_of_mul_eq_mul_right (Int.mul_ne_zero hx hy)
  grind
theorem mul_rat (x y : Rat) : x * y = Rat.divInt (x.num * y.num) (x.den * y.den) := by
  conv => lhs; rw [← Rat.num_divInt_den x, ← Rat.num_divInt_den y]
  exact Rat.divInt_mul_divInt _ _
theorem div_rat {x y : Rat} (h : y ≠ 0) : x / y = Rat.divInt (x.num * y.den) (x.den * y.num) := by
  conv => lhs; rw [← Rat.num_divInt_den x, ← Rat.num_divInt_den y]
  rw [Rat.div_def, Rat.inv_divInt, Rat.divInt_mul_divInt]
/-! sizes -/
structure Sz (n : Nat) (x : Rat) : Prop where
  t : x.num.natAbs < 2 ^ n
  b : x.den < 2 ^ n
theorem pow_mono {m n : Nat} (h : m ≤ n) : 2 ^ m ≤ 2 ^ n := Nat.pow_le_pow_right (by decide) h
theorem Sz.mono {m n : Nat} {x : Rat} (h : Sz m x) (k : m ≤ n) : Sz n x := ⟨Nat.lt_of_lt_of_le h.t (pow_mono k), Nat.lt_of_lt_of_le h.b (pow_mono k)⟩
theorem mul_lt {a b m n : Nat} (h : a < 2 ^ m) (k : b < 2 ^ n) : a * b < 2 ^ (m + n) := by
  rw [Nat.pow_add]
  exact Nat.mul_lt_mul'' h k
theorem sz_of_cross {x : Rat} {p q : Int} {n : Nat} (hq : q ≠ 0) (e : x = Rat.divInt p q) (hp : p.natAbs < 2 ^ n) (hb : q.natAbs < 2 ^ n) : Sz n x := by
  obtain ⟨a, b⟩ := (fra_rat x).cross_le hq ((rat_eq hq).mp e)
  exact ⟨Nat.lt_of_le_of_lt a hp, by have := b; omega⟩
theorem Sz.mul {m n : Nat} {x y : Rat} (hx : Sz m x) (hy : Sz n y) : Sz (m + n) (x * y) := by
  have a : (x.den : Int) ≠ 0 := by have := x.den_nz; omega
  have b : (y.den : Int) ≠ 0 := by have := y.den_nz; omega
  refine sz_of_cross (Int.mul_ne_zero a b) (mul_rat x y) ?_ ?_
  · rw [Int.natAbs_mul]; exact mul_lt hx.t hy.t
  · rw [Int.natAbs_mul]; exact mul_lt hx.b hy.b
theorem Sz.add {m n : Nat} {x y : Rat} (hx : Sz m x) (hy : Sz n y) : Sz (m + n + 1) (x + y) := by
  have a : (x.den : Int) ≠ 0 := by have := x.den_nz; omega
  have b : (y.den : Int) ≠ 0 := by have := y.den_nz; omega
  have e : x + y = Rat.divInt (x.num * y.den + y.num * x.den) (x.den * y.den) := by
    conv => lhs; rw [← Rat.num_divInt_den x, ← Rat.num_divInt_den y]
    exact Rat.divInt_add_divInt _ _ a b
  have t1 := mul_lt hx.t hy.b
  have t2 := mul_lt hy.t hx.b
  rw [Nat.add_comm n m] at t2
  have t3 := mul_lt hx.b hy.b
  have p2 : 2 ^ (m + n + 1) = 2 ^ (m + n) + 2 ^ (m + n) := by rw [Nat.pow_succ]; omega
  refine sz_of_cross (Int.mul_ne_zero a b) e ?_ ?_
  · have h1 := Int.natAbs_add_le (x.num * y.den) (y.num * x.den)
    rw [Int.natAbs_mul, Int.natAbs_mul, Int.natAbs_natCast, Int.natAbs_natCast] at h1
    omega
  · rw [Int.natAbs_mul, Int.natAbs_natCast, Int.natAbs_natCast]; omega
theorem Sz.neg {n : Nat} {x : Rat} (hx : Sz n x) : Sz n (-x) := ⟨by show (-x.num).natAbs < _; rw [Int.natAbs_neg]; exact hx.t, hx.b⟩
theorem Sz.sub {m n : Nat} {x y : Rat} (hx : Sz m x) (hy : Sz n y) : Sz (m + n + 1) (x - y) := by
  rw [Rat.sub_eq_add_neg]; exact hx.add hy.neg
theorem Sz.div {m n : Nat} {x y : Rat} (hx : Sz m x) (hy : Sz n y) (h : y ≠ 0) : Sz (m + n) (x / y) := by
  have a : (x.den : Int) ≠ 0 := by have := x.den_nz; omega
  have b : y.num ≠ 0 := fun z => h (Rat.num_eq_zero.mp z)
  refine sz_of_cross (Int.mul_ne_zero a b) (div_rat h) ?_ ?_
  · rw [Int.natAbs_mul]; exact mul_lt hx.t hy.b
  · rw [Int.natAbs_mul]; exact mul_lt hx.b hy.t
theorem sz_low {t b : Int} {n : Nat} (h : b ≠ 0) (ht : t.natAbs < 2 ^ n) (hb : b.natAbs < 2 ^ n) : Sz n (Rat.divInt t b) := sz_of_cross h rfl ht hb
end Sf

namespace DL
/-- divisor(one, other), names one other great small rest, calls none -/
def b_divisor : Ss := (.cons (.asg 2 (.bi .abs (.cons (.var 0) .nil))) (.cons (.asg 3 (.bi .abs (.cons (.var 1) .nil))) (.cons (.whl (.cmp .ne (.var 3) (.int 0)) (.cons (.asg 4 (.bin .mod (.var 2) (.var 3))) (.cons (.asg 2 (.var 3)) (.cons (.asg 3 (.var 4)) .nil)))) (.cons (.retV 2) .nil))))
/-- ratio(top, bottom), names top bottom shared, calls divisor -/
def b_ratio : Ss := (.cons (.iff (.cmp .eq (.var 1) (.int 0)) (.cons .never .nil) .nil) (.cons (.asg 2 (.call 0 (.cons (.var 0) (.cons (.var 1) .nil)))) (.cons (.iff (.cmp .lt (.var 1) (.int 0)) (.cons (.asg 2 (.neg (.var 2))) .nil) .nil) (.cons (.ret (.tup (.cons (.bin .fdiv (.var 0) (.var 2)) (.cons (.bin .fdiv (.var 1) (.var 2)) .nil)))) .nil))))
/-- _law_cell_at(_law_script, _law_k), names _law_script _law_k, calls none -/
def b_law_cell_at : Ss := (.cons (.iff (.cmp .lt (.var 1) (.bi .len (.cons (.var 0) .nil))) (.cons (.ret (.ix (.var 0) (.var 1))) .nil) .nil) (.cons (.ret (.int 0)) .nil))
/-- _law_whole(_law_found), names _law_found, calls none -/
def b_law_whole : Ss := (.cons (.ret (.and (.isi (.var 0) .int) (.not (.isi (.var 0) .bool)))) .nil)
/-- _law_share(_law_cell), names _law_cell, calls none -/
def b_law_share : Ss := (.cons (.ret (.ix (.lst (.cons (.int 1) (.cons (.bin .mod (.bin .fdiv (.var 0) (.int 4)) (.int 3)) (.cons (.bin .mod (.bin .fdiv (.var 0) (.int 4)) (.int 12)) (.cons (.bin .mod (.bin .fdiv (.var 0) (.int 4)) (.bin .pow (.int 10) (.int 10))) .nil))))) (.bin .mod (.var 0) (.int 4)))) .nil)
/-- _law_longer(_law_pair, _law_cell), names _law_pair _law_cell _law_many, calls none -/
def b_law_longer : Ss := (.cons (.asg 2 (.bin .add (.int 1) (.bin .mod (.bin .fdiv (.var 1) (.int 4)) (.ix (.lst (.cons (.int 1) (.cons (.int 3) (.cons (.bin .pow (.int 10) (.int 9)) (.cons (.bin .pow (.int 10) (.int 18)) .nil))))) (.bin .mod (.var 1) (.int 4)))))) (.cons (.iff (.cmp .ge (.bin .mul (.var 2) (.ix (.var 0) (.int 0))) (.bin .pow (.int 10) (.int 30))) (.cons (.asg 2 (.int 1)) .nil) .nil) (.cons (.ret (.tup (.cons (.bin .add (.bin .mul (.var 2) (.ix (.var 0) (.int 0))) (.ix (.var 0) (.int 1))) (.cons (.ix (.var 0) (.int 0)) .nil)))) .nil)))
/-- _law_refused(_law_top, _law_bottom), names _law_top _law_bottom _law_caught e, calls ratio -/
def b_law_refused_k01 : Ss := (.cons (.asg 2 .non) (.cons (.tryC 1 1001 (.cons (.var 0) (.cons (.var 1) .nil)) 2 3) (.cons (.iff (.isx (.var 2) ["NoShape", "NoSize"]) (.cons (.ret (.bl false)) .nil) .nil) (.cons (.ret (.and (.isx (.var 2) ["NoNumber"]) (.isx (.var 2) ["ValueError"]))) .nil))))
/-- _law_right(_law_share_here, _law_pair, _law_cell), names _law_share_here _law_pair _law_cell _law_mixed _law_one _law_other _law_most _law_found, calls divisor law_whole law_refused_k01 ratio -/
def b_law_right_k01 : Ss := (.cons (.asg 3 (.bin .add (.bin .mod (.var 2) (.int 1000003)) (.int 48271))) (.cons (.asg 3 (.bin .mod (.bin .mul (.var 3) (.var 3)) (.int 65537))) (.cons (.asg 4 (.bin .mul (.ix (.var 1) (.int 0)) (.ix (.lst (.cons (.int 1) (.cons (.neg (.int 1)) .nil))) (.bin .mod (.var 3) (.int 2))))) (.cons (.asg 5 (.bin .mul (.ix (.var 1) (.int 1)) (.ix (.lst (.cons (.int 1) (.cons (.neg (.int 1)) .nil))) (.bin .mod (.bin .fdiv (.var 3) (.int 2)) (.int 2))))) (.cons (.iff (.cmp .eq (.bin .mod (.bin .fdiv (.var 3) (.int 4)) (.int 2)) (.int 1)) (.cons (.par 4 5 (.var 5) (.var 4)) .nil) .nil) (.cons (.asg 6 (.call 0 (.cons (.bin .mul (.var 0) (.var 4)) (.cons (.bin .mul (.var 0) (.var 5)) .nil)))) (.cons (.iff (.or (.not (.call 3 (.cons (.var 6) .nil))) (.cmp .ne (.var 6) (.var 0))) (.cons (.ret (.bl false)) .nil) .nil) (.cons (.iff (.cmp .eq (.bin .mul (.var 0) (.var 5)) (.int 0)) (.cons (.ret (.call 6 (.cons (.bin .mul (.var 0) (.var 4)) (.cons (.bin .mul (.var 0) (.var 5)) .nil)))) .nil) .nil) (.cons (.asg 7 (.call 1 (.cons (.bin .mul (.var 0) (.var 4)) (.cons (.bin .mul (.var 0) (.var 5)) .nil)))) (.cons (.iff (.or (.not (.isi (.var 7) .tuple)) (.or (.cmp .ne (.bi .len (.cons (.var 7) .nil)) (.int 2)) (.or (.not (.call 3 (.cons (.ix (.var 7) (.int 0)) .nil))) (.not (.call 3 (.cons (.ix (.var 7) (.int 1)) .nil)))))) (.cons (.ret (.bl false)) .nil) .nil) (.cons (.iff (.cmp .lt (.var 5) (.int 0)) (.cons (.ret (.cmp .eq (.var 7) (.tup (.cons (.bin .sub (.int 0) (.var 4)) (.cons (.bin .sub (.int 0) (.var 5)) .nil))))) .nil) .nil) (.cons (.ret (.cmp .eq (.var 7) (.tup (.cons (.var 4) (.cons (.var 5) .nil))))) .nil))))))))))))
/-- law(_law_script), names _law_script _law_share_here _law_pair _law_cell, calls law_share law_cell_at law_right_k01 law_longer -/
def b_law_k01 : Ss := (.cons (.asg 1 (.call 4 (.cons (.call 2 (.cons (.var 0) (.cons (.int 0) .nil))) .nil))) (.cons (.asg 2 (.tup (.cons (.int 1) (.cons (.int 0) .nil)))) (.cons (.iff (.not (.call 7 (.cons (.var 1) (.cons (.var 2) (.cons (.call 2 (.cons (.var 0) (.cons (.int 1) .nil))) .nil))))) (.cons (.ret (.bl false)) .nil) .nil) (.cons (.frr (.name 3) (.seq (.sl (.var 0) .non (.som (.int 63)))) (.cons (.asg 2 (.call 5 (.cons (.var 2) (.cons (.var 3) .nil)))) (.cons (.iff (.not (.call 7 (.cons (.var 1) (.cons (.var 2) (.cons (.var 3) .nil))))) (.cons (.ret (.bl false)) .nil) .nil) .nil))) (.cons (.ret (.bl true)) .nil)))))
/-- plus(one, other), names one other shared top rest, calls divisor -/
def b_plus : Ss := (.cons (.asg 2 (.call 0 (.cons (.ix (.var 0) (.int 1)) (.cons (.ix (.var 1) (.int 1)) .nil)))) (.cons (.asg 3 (.bin .add (.bin .mul (.ix (.var 0) (.int 0)) (.bin .fdiv (.ix (.var 1) (.int 1)) (.var 2))) (.bin .mul (.ix (.var 1) (.int 0)) (.bin .fdiv (.ix (.var 0) (.int 1)) (.var 2))))) (.cons (.asg 4 (.call 0 (.cons (.var 3) (.cons (.var 2) .nil)))) (.cons (.ret (.tup (.cons (.bin .fdiv (.var 3) (.var 4)) (.cons (.bin .mul (.bin .fdiv (.ix (.var 0) (.int 1)) (.var 2)) (.bin .fdiv (.ix (.var 1) (.int 1)) (.var 4))) .nil)))) .nil))))
/-- minus(one, other), names one other, calls plus -/
def b_minus : Ss := (.cons (.ret (.call 9 (.cons (.var 0) (.cons (.tup (.cons (.neg (.ix (.var 1) (.int 0))) (.cons (.ix (.var 1) (.int 1)) .nil))) .nil)))) .nil)
/-- times(one, other), names one other, calls ratio -/
def b_times : Ss := (.cons (.ret (.call 1 (.cons (.bin .mul (.ix (.var 0) (.int 0)) (.ix (.var 1) (.int 0))) (.cons (.bin .mul (.ix (.var 0) (.int 1)) (.ix (.var 1) (.int 1))) .nil)))) .nil)
/-- _law_divisor(_law_one, _law_other), names _law_one _law_other, calls none -/
def b_law_divisor : Ss := (.cons (.asg 0 (.bi .abs (.cons (.var 0) .nil))) (.cons (.asg 1 (.bi .abs (.cons (.var 1) .nil))) (.cons (.whl (.cmp .gt (.var 1) (.int 0)) (.cons (.par 0 1 (.var 1) (.bin .mod (.var 0) (.var 1))) .nil)) (.cons (.retV 0) .nil))))
/-- _law_lowest(_law_top, _law_bottom), names _law_top _law_bottom _law_by, calls law_divisor -/
def b_law_lowest : Ss := (.cons (.asg 2 (.call 12 (.cons (.var 0) (.cons (.var 1) .nil)))) (.cons (.iff (.cmp .lt (.var 1) (.int 0)) (.cons (.asg 2 (.bin .sub (.int 0) (.var 2))) .nil) .nil) (.cons (.ret (.tup (.cons (.bin .fdiv (.var 0) (.var 2)) (.cons (.bin .fdiv (.var 1) (.var 2)) .nil)))) .nil)))
/-- _law_is_fraction(_law_found), names _law_found, calls law_whole law_divisor -/
def b_law_is_fraction : Ss := (.cons (.iff (.or (.not (.isi (.var 0) .tuple)) (.or (.cmp .ne (.bi .len (.cons (.var 0) .nil)) (.int 2)) (.or (.not (.call 3 (.cons (.ix (.var 0) (.int 0)) .nil))) (.not (.call 3 (.cons (.ix (.var 0) (.int 1)) .nil)))))) (.cons (.ret (.bl false)) .nil) .nil) (.cons (.ret (.and (.cmp .gt (.ix (.var 0) (.int 1)) (.int 0)) (.cmp .eq (.call 12 (.cons (.ix (.var 0) (.int 0)) (.cons (.ix (.var 0) (.int 1)) .nil))) (.int 1)))) .nil))
/-- _law_fraction_by(_law_cell, _law_k), names _law_cell _law_k _law_number _law_top, calls law_lowest -/
def b_law_fraction_by : Ss := (.cons (.asg 2 (.bin .add (.bin .mod (.var 0) (.bin .pow (.int 10) (.int 18))) (.bin .mul (.int 48271) (.bin .add (.var 1) (.int 1))))) (.cons (.asg 2 (.bin .mod (.bin .mul (.var 2) (.var 2)) (.int 2147483647))) (.cons (.asg 3 (.ix (.lst (.cons (.bin .sub (.bin .mod (.bin .fdiv (.var 2) (.int 6)) (.int 13)) (.int 6)) (.cons (.bin .sub (.bin .mod (.bin .fdiv (.var 2) (.int 6)) (.int 200001)) (.bin .pow (.int 10) (.int 5))) (.cons (.bin .sub (.bin .mod (.var 0) (.bin .mul (.int 2) (.bin .pow (.int 10) (.int 9)))) (.bin .pow (.int 10) (.int 9))) .nil)))) (.bin .mod (.bin .fdiv (.var 2) (.int 6)) (.int 3)))) (.cons (.ret (.call 13 (.cons (.var 3) (.cons (.bin .add (.int 1) (.bin .mod (.var 2) (.int 6))) .nil)))) .nil))))
/-- _law_great(_law_one, _law_other), names _law_one _law_other _law_top, calls law_lowest -/
def b_law_great : Ss := (.cons (.asg 2 (.bin .sub (.bin .mod (.var 0) (.bin .sub (.bin .mul (.int 2) (.bin .pow (.int 10) (.int 60))) (.int 1))) (.bin .sub (.bin .pow (.int 10) (.int 60)) (.int 1)))) (.cons (.ret (.call 13 (.cons (.var 2) (.cons (.bin .add (.int 1) (.bin .mod (.var 1) (.bin .sub (.bin .pow (.int 10) (.int 60)) (.int 1)))) .nil)))) .nil))
/-- _law_worth(_law_found, _law_top, _law_bottom), names _law_found _law_top _law_bottom, calls law_is_fraction -/
def b_law_worth : Ss := (.cons (.ret (.and (.call 14 (.cons (.var 0) .nil)) (.cmp .eq (.bin .mul (.ix (.var 0) (.int 0)) (.var 2)) (.bin .mul (.var 1) (.ix (.var 0) (.int 1)))))) .nil)
/-- _law_right(_law_one, _law_other), names _law_one _law_other _law_a _law_b _law_c _law_d, calls law_worth plus minus times -/
def b_law_right_k02 : Ss := (.cons (.unp [2, 3] (.var 0)) (.cons (.unp [4, 5] (.var 1)) (.cons (.iff (.not (.call 17 (.cons (.call 9 (.cons (.var 0) (.cons (.var 1) .nil))) (.cons (.bin .add (.bin .mul (.var 2) (.var 5)) (.bin .mul (.var 4) (.var 3))) (.cons (.bin .mul (.var 3) (.var 5)) .nil))))) (.cons (.ret (.bl false)) .nil) .nil) (.cons (.ret (.and (.call 17 (.cons (.call 10 (.cons (.var 0) (.cons (.var 1) .nil))) (.cons (.bin .sub (.bin .mul (.var 2) (.var 5)) (.bin .mul (.var 4) (.var 3))) (.cons (.bin .mul (.var 3) (.var 5)) .nil)))) (.call 17 (.cons (.call 11 (.cons (.var 0) (.cons (.var 1) .nil))) (.cons (.bin .mul (.var 2) (.var 4)) (.cons (.bin .mul (.var 3) (.var 5)) .nil)))))) .nil))))
/-- law(_law_script), names _law_script _law_total _law_tops _law_k _law_cell _law_one _law_pair _law_other, calls law_fraction_by law_right_k02 plus law_worth law_great law_cell_at -/
def b_law_k02 : Ss := (.cons (.asg 1 (.tup (.cons (.int 0) (.cons (.int 1) .nil)))) (.cons (.asg 2 (.int 0)) (.cons (.frr (.tup [3, 4]) (.enum (.sl (.var 0) .non (.som (.int 63)))) (.cons (.asg 5 (.call 15 (.cons (.var 4) (.cons (.var 3) .nil)))) (.cons (.asg 6 (.ix (.lst (.cons (.tup (.cons (.var 1) (.cons (.var 5) .nil))) (.cons (.tup (.cons (.var 5) (.cons (.var 1) .nil))) .nil))) (.bin .mod (.bin .add (.var 4) (.var 3)) (.int 2)))) (.cons (.iff (.not (.call 18 (.cons (.ix (.var 6) (.int 0)) (.cons (.ix (.var 6) (.int 1)) .nil)))) (.cons (.ret (.bl false)) .nil) .nil) (.cons (.asg 2 (.bin .add (.var 2) (.bin .mul (.ix (.var 5) (.int 0)) (.bin .fdiv (.int 60) (.ix (.var 5) (.int 1)))))) (.cons (.asg 1 (.call 9 (.cons (.var 1) (.cons (.var 5) .nil)))) .nil)))))) (.cons (.iff (.not (.call 17 (.cons (.var 1) (.cons (.var 2) (.cons (.int 60) .nil))))) (.cons (.ret (.bl false)) .nil) .nil) (.cons (.asg 5 (.call 16 (.cons (.call 2 (.cons (.var 0) (.cons (.int 0) .nil))) (.cons (.call 2 (.cons (.var 0) (.cons (.int 1) .nil))) .nil)))) (.cons (.asg 7 (.call 16 (.cons (.call 2 (.cons (.var 0) (.cons (.int 2) .nil))) (.cons (.call 2 (.cons (.var 0) (.cons (.int 3) .nil))) .nil)))) (.cons (.ret (.and (.call 18 (.cons (.var 5) (.cons (.var 7) .nil))) (.call 18 (.cons (.var 7) (.cons (.var 5) .nil))))) .nil)))))))
/-- over(one, other), names one other, calls ratio -/
def b_over : Ss := (.cons (.ret (.call 1 (.cons (.bin .mul (.ix (.var 0) (.int 0)) (.ix (.var 1) (.int 1))) (.cons (.bin .mul (.ix (.var 0) (.int 1)) (.ix (.var 1) (.int 0))) .nil)))) .nil)
/-- below(one, other), names one other, calls none -/
def b_below : Ss := (.cons (.ret (.cmp .lt (.bin .mul (.ix (.var 0) (.int 0)) (.ix (.var 1) (.int 1))) (.bin .mul (.ix (.var 1) (.int 0)) (.ix (.var 0) (.int 1))))) .nil)
/-- _law_refused(_law_one, _law_other), names _law_one _law_other _law_caught e, calls over -/
def b_law_refused_k03 : Ss := (.cons (.asg 2 .non) (.cons (.tryC 20 1020 (.cons (.var 0) (.cons (.var 1) .nil)) 2 3) (.cons (.iff (.isx (.var 2) ["NoShape", "NoSize"]) (.cons (.ret (.bl false)) .nil) .nil) (.cons (.ret (.and (.isx (.var 2) ["NoNumber"]) (.isx (.var 2) ["ValueError"]))) .nil))))
/-- _law_right(_law_one, _law_other), names _law_one _law_other _law_less, calls below law_refused_k03 law_worth over -/
def b_law_right_k03 : Ss := (.cons (.asg 2 (.call 21 (.cons (.var 0) (.cons (.var 1) .nil)))) (.cons (.iff (.or (.not (.isi (.var 2) .bool)) (.cmp .ne (.var 2) (.cmp .lt (.bin .mul (.ix (.var 0) (.int 0)) (.ix (.var 1) (.int 1))) (.bin .mul (.ix (.var 1) (.int 0)) (.ix (.var 0) (.int 1)))))) (.cons (.ret (.bl false)) .nil) .nil) (.cons (.iff (.cmp .eq (.ix (.var 1) (.int 0)) (.int 0)) (.cons (.ret (.call 22 (.cons (.var 0) (.cons (.var 1) .nil)))) .nil) .nil) (.cons (.ret (.call 17 (.cons (.call 20 (.cons (.var 0) (.cons (.var 1) .nil))) (.cons (.bin .mul (.ix (.var 0) (.int 0)) (.ix (.var 1) (.int 1))) (.cons (.bin .mul (.ix (.var 0) (.int 1)) (.ix (.var 1) (.int 0))) .nil))))) .nil))))
/-- law(_law_script), names _law_script _law_last _law_k _law_cell _law_one _law_other, calls law_fraction_by law_right_k03 law_great law_cell_at law_lowest law_refused_k03 -/
def b_law_k03 : Ss := (.cons (.asg 1 (.tup (.cons (.int 0) (.cons (.int 1) .nil)))) (.cons (.frr (.tup [2, 3]) (.enum (.sl (.var 0) .non (.som (.int 63)))) (.cons (.asg 4 (.call 15 (.cons (.var 3) (.cons (.var 2) .nil)))) (.cons (.iff (.cmp .eq (.bin .mod (.var 3) (.int 7)) (.int 1)) (.cons (.asg 4 (.tup (.cons (.int 0) (.cons (.int 1) .nil)))) .nil) .nil) (.cons (.iff (.or (.not (.call 23 (.cons (.var 1) (.cons (.var 4) .nil)))) (.not (.call 23 (.cons (.var 4) (.cons (.var 1) .nil))))) (.cons (.ret (.bl false)) .nil) .nil) (.cons (.asg 1 (.var 4)) .nil))))) (.cons (.asg 4 (.call 16 (.cons (.call 2 (.cons (.var 0) (.cons (.int 0) .nil))) (.cons (.call 2 (.cons (.var 0) (.cons (.int 1) .nil))) .nil)))) (.cons (.asg 5 (.call 16 (.cons (.call 2 (.cons (.var 0) (.cons (.int 2) .nil))) (.cons (.call 2 (.cons (.var 0) (.cons (.int 3) .nil))) .nil)))) (.cons (.iff (.cmp .eq (.bin .mod (.call 2 (.cons (.var 0) (.cons (.int 4) .nil))) (.int 3)) (.int 1)) (.cons (.asg 5 (.var 4)) .nil) .nil) (.cons (.iff (.cmp .eq (.bin .mod (.call 2 (.cons (.var 0) (.cons (.int 4) .nil))) (.int 3)) (.int 2)) (.cons (.asg 5 (.call 13 (.cons (.bin .add (.ix (.var 4) (.int 0)) (.int 1)) (.cons (.ix (.var 4) (.int 1)) .nil)))) .nil) .nil) (.cons (.ret (.and (.call 23 (.cons (.var 4) (.cons (.var 5) .nil))) (.and (.call 23 (.cons (.var 5) (.cons (.var 4) .nil))) (.call 22 (.cons (.var 4) (.cons (.tup (.cons (.int 0) (.cons (.int 1) .nil))) .nil)))))) .nil)))))))
def r_ratio : Ss × E × PySem.Str := (.nil, (.cmp .eq (.var 1) (.int 0)), ("NoNumber" : PySem.Str))
def p_over : Nat × Es := (1001, (.cons (.bin .mul (.ix (.var 0) (.int 0)) (.ix (.var 1) (.int 1))) (.cons (.bin .mul (.ix (.var 0) (.int 1)) (.ix (.var 1) (.int 0))) .nil)))
end DL

set_option maxHeartbeats 4000000
namespace DL
/-! the meaning, reckoned out by simp -/
local macro_rules | `(tactic| walk_at "ev") => `(tactic| simp only [run_eq, exs_nil, exs_cons, thenS_nx, thenS_rt, ex_asg, asgO_s, ex_unp, unpO_s, ex_par, parO_s, ex_ret, retO_s, ex_retV, retVO_o, retVO_s, ex_iff, iffO_t, iffO_f, ex_whl, ex_frr, forO_s, evI_seq, seqO_nl, seqO_vl, seqO_vt, evI_range1, rng1O_s, evI_range2, rng2O_s, evI_enum, enumO_s, outO_rt, outO_nx, evB_eq,
  ev_var, ev_int, ev_bl, ev_non, ev_bin, ev_neg, ev_cmp, ev_and, ev_or, ev_not, ev_tup, ev_lst, ev_ix, ev_sl, ev_call, ev_bi, ev_isi, isiW_i, isiW_b, isiW_t, isiW_l, isiW_n, ev_isx, isxW_n, ex_tryC, evs_nil, evs_cons, evo_non, evo_som, evd, evb, bin2_s, un1_s, andO_t, andO_f, orO_t, orO_f, appL_s, consO_s, slO_s, cmpW, ixW, negW, notW_s, tupW, lstW,
  varD_0, varD_s, view_nil, view_cons, setR_0, setR_s, bindTg_n, bindTg_t, bindAll, after_i, after_b, after_n, after, lfW, lf, lfL, Wd_v, Wd_n, Wb_v, Wb_n, Bd_s, Bd_o, DL.op_add, DL.op_sub, DL.op_mul, DL.op_fdiv, DL.op_mod, fmod_pos, fdiv_pos, divOk_small, mulOk_small, op_p4, op_p5, op_p6, op_p9, op_p18, op_p30, op_p60, op_p64, Int.reduceEq, Int.reduceLT, Int.reduceLE, Int.reduceNeg, Int.reduceAdd, Int.reduceSub, Int.reduceMul, Int.reduceToNat, Int.reducePow, Int.reduceMod, Int.reduceDiv, cs0, cs1, cs2, cs3, cs4, cs5, cs6, cs7, cs8, cs9, cs10, cs11, cs12, Nat.reduceSub, cmpD, biW, ixD_t, ixD_l, slD_l, dBool_s, dInt_s, isTy, isNon,
  List.map_cons, List.map_nil, List.cons_append, List.nil_append, List.append_nil, List.length_cons, List.length_nil, List.getElem?_cons_zero, List.getElem?_cons_succ, List.set_cons_zero, List.set_cons_succ, Option.map_some, Option.map_none, Option.bind_some, Option.bind_none,
  List.replicate, if_true, if_false, Nat.reduceAdd, Nat.reduceSub, Nat.reduceLT, Nat.reduceLeDiff, Bool.false_eq_true, reduceCtorEq, decide_true, decide_false, Bool.not_true, Bool.not_false, Bool.and_true, Bool.true_and, Bool.and_false, Bool.false_and, ne_eq, not_false_eq_true, and_self, and_true, true_and, Nat.reduceEqDiff, Nat.zero_ne_one, Nat.one_ne_zero, sl0, sl1, sl2, sl3, sl4, sl5, sl6, sl7, sl8, sl9, at1_0, at2_0, at2_1, at3_0, at3_1, at3_2, at4_0, at4_1, at4_2, at4_3, at5_0, at5_1, at5_2, at5_3, at5_4, at6_0, at6_1, at6_2, at6_3, at6_4, at6_5])
local macro_rules | `(tactic| walk_at "evh") => `(tactic| simp only [run_eq, exs_nil, exs_cons, thenS_nx, thenS_rt, ex_asg, asgO_s, ex_unp, unpO_s, ex_par, parO_s, ex_ret, retO_s, ex_retV, retVO_o, retVO_s, ex_iff, iffO_t, iffO_f, ex_whl, ex_frr, forO_s, evI_seq, seqO_nl, seqO_vl, seqO_vt, evI_range1, rng1O_s, evI_range2, rng2O_s, evI_enum, enumO_s, outO_rt, outO_nx, evB_eq,
  ev_var, ev_int, ev_bl, ev_non, ev_bin, ev_neg, ev_cmp, ev_and, ev_or, ev_not, ev_tup, ev_lst, ev_ix, ev_sl, ev_call, ev_bi, ev_isi, isiW_i, isiW_b, isiW_t, isiW_l, isiW_n, ev_isx, isxW_n, ex_tryC, evs_nil, evs_cons, evo_non, evo_som, evd, evb, bin2_s, un1_s, andO_t, andO_f, orO_t, orO_f, appL_s, consO_s, slO_s, cmpW, ixW, negW, notW_s, tupW, lstW,
  varD_0, varD_s, view_nil, view_cons, setR_0, setR_s, bindTg_n, bindTg_t, bindAll, after_i, after_b, after_n, after, lfW, lf, lfL, Wd_v, Wd_n, Wb_v, Wb_n, Bd_s, Bd_o, DL.op_add, DL.op_sub, DL.op_mul, DL.op_fdiv, DL.op_mod, fmod_pos, fdiv_pos, divOk_small, mulOk_small, op_p4, op_p5, op_p6, op_p9, op_p18, op_p30, op_p60, op_p64, Int.reduceEq, Int.reduceLT, Int.reduceLE, Int.reduceNeg, Int.reduceAdd, Int.reduceSub, Int.reduceMul, Int.reduceToNat, Int.reducePow, Int.reduceMod, Int.reduceDiv, cs0, cs1, cs2, cs3, cs4, cs5, cs6, cs7, cs8, cs9, cs10, cs11, cs12, Nat.reduceSub, cmpD, biW, ixD_t, ixD_l, slD_l, dBool_s, dInt_s, isTy, isNon,
  List.map_cons, List.map_nil, List.cons_append, List.nil_append, List.append_nil, List.length_cons, List.length_nil, List.getElem?_cons_zero, List.getElem?_cons_succ, List.set_cons_zero, List.set_cons_succ, Option.map_some, Option.map_none, Option.bind_some, Option.bind_none,
  List.replicate, if_true, if_false, Nat.reduceAdd, Nat.reduceSub, Nat.reduceLT, Nat.reduceLeDiff, Bool.false_eq_true, reduceCtorEq, decide_true, decide_false, Bool.not_true, Bool.not_false, Bool.and_true, Bool.true_and, Bool.and_false, Bool.false_and, ne_eq, not_false_eq_true, and_self, and_true, true_and, Nat.reduceEqDiff, Nat.zero_ne_one, Nat.one_ne_zero, sl0, sl1, sl2, sl3, sl4, sl5, sl6, sl7, sl8, sl9, at1_0, at2_0, at2_1, at3_0, at3_1, at3_2, at4_0, at4_1, at4_2, at4_3, at5_0, at5_1, at5_2, at5_3, at5_4, at6_0, at6_1, at6_2, at6_3, at6_4, at6_5, *])
open Sf
/-- a fraction -/
def fr (x : Rat) : D := .tup [.int x.num, .int (x.den : Int)]
def asFr : D → Option Rat
  | .tup [.int p, .int q] => if 0 < q ∧ Int.gcd p q = 1 then some (Rat.divInt p q) else none
  | _ => none
theorem asFr_fr (x : Rat) : asFr (fr x) = some x := by
  have f := fra_rat x
  show (if 0 < (x.den : Int) ∧ Int.gcd x.num (x.den : Int) = 1 then some (Rat.divInt x.num (x.den : Int)) else none) = some x
  rw [if_pos ⟨f.pos, f.co⟩, Rat.num_divInt_den]
theorem asFr_some {d : D} {x : Rat} (h : asFr d = some x) : d = fr x := by
  unfold asFr at h
  split at h
  · rename_i p q
    split at h
    · rename_i z
      cases h
      obtain ⟨a, b⟩ := rat_of ⟨z.1, z.2⟩
      unfold fr
      rw [a, b]
    · cases h
  · cases h
def okR (x : Rat) : Bool := decide (x.num.natAbs < 2 ^ 4400) && decide (x.den < 2 ^ 4400)
theorem okR_of {n : Nat} {x : Rat} (h : Sz n x) (k : n ≤ 4400) : okR x = true := by
  have := h.mono k
  unfold okR
  rw [Bool.and_eq_true]
  exact ⟨decide_eq_true this.t, decide_eq_true this.b⟩
theorem okR_sz {x : Rat} (h : okR x = true) : Sz 4400 x := by
  unfold okR at h
  rw [Bool.and_eq_true] at h
  exact ⟨of_decide_eq_true h.1, of_decide_eq_true h.2⟩
theorem mulOk_of {a b : Int} {m n : Nat} (ha : a.natAbs < 2 ^ m) (hb : b.natAbs < 2 ^ n) (hm : m ≤ 16000) (hn : n ≤ 16000) : mulOk a b = true := by
  unfold mulOk
  rw [Bool.and_eq_true]
  exact ⟨decide_eq_true (Nat.lt_of_lt_of_le ha (pow_mono hm)), decide_eq_true (Nat.lt_of_lt_of_le hb (pow_mono hn))⟩
theorem divOk_of {b : Int} {n : Nat} (h0 : b ≠ 0) (hb : b.natAbs < 2 ^ n) (hn : n ≤ 9000) : divOk b = true := by
  unfold divOk
  rw [Bool.and_eq_true]
  exact ⟨decide_eq_true h0, decide_eq_true (Nat.lt_of_lt_of_le hb (pow_mono hn))⟩
section
variable {Γ : Nat → List D → Option W}
/-! ### divisor -/
def mDivisor : List D → Option W
  | [.int a, .int b] => some (.val (.int (gc a b)))
  | _ => none
/-- the loop of the divisor -/
theorem w_divisor (a b : Option B) : ∀ (m : Nat) (n : Nat), n ≤ m → ∀ (g : Int) (r : Option B), 0 ≤ g → ∃ r', whileN (evB Γ (.cmp .ne (.var 3) (.int 0))) (exs Γ (.cons (.asg 4 (.bin .mod (.var 2) (.var 3))) (.cons (.asg 2 (.var 3)) (.cons (.asg 3 (.var 4)) .nil)))) (m + 1)
    [a, b, some (.sh (.int g)), some (.sh (.int (n : Int))), r] = some (.nx [a, b, some (.sh (.int (gc g n))), some (.sh (.int 0)), r']) := by
  intro m
  induction m with
  | zero =>
    intro n hn g r hg
    obtain rfl : n = 0 := by omega
    refine ⟨r, ?_⟩
    unfold whileN
    walk_at "ev"
    simp [gc_zero hg]
  | succ m ih =>
    intro n hn g r hg
    unfold whileN
    walk_at "ev"
    by_cases h0 : n = 0
    · subst h0
      refine ⟨r, ?_⟩
      simp [gc_zero hg]
    · have h1 : ¬ ((n : Int) = 0) := by omega
      simp only [h1, decide_false, Bool.not_false, if_false]
      walk_at "ev"
      have e : g.fmod (n : Int) = ((g % (n : Int)).toNat : Int) := by
        rw [Int.fmod_eq_emod_of_nonneg _ (by omega)]
        have := Int.emod_nonneg g h1
        omega
      have l : (g % (n : Int)).toNat ≤ m := by
        have := Int.emod_lt_of_pos g (show (0 : Int) < n by omega)
        have := Int.emod_nonneg g h1
        omega
      obtain ⟨r', q⟩ := ih _ l (n : Int) (some (.sh (.int ((g % (n : Int)).toNat : Int)))) (by omega)
      refine ⟨r', ?_⟩
      rw [e, q]
      have e2 : (((g % (n : Int)).toNat : Nat) : Int) = g % n := by have := Int.emod_nonneg g h1; omega
      rw [e2, gc_turn]
theorem abs_cast (b : Int) : (if b < 0 then -b else b) = ((b.natAbs : Nat) : Int) := by split <;> omega
theorem ok_divisor : ∀ ds w, ds.length = 2 → mDivisor ds = some w → run Γ b_divisor 5 ds = some w := by
  intro ds w _ h
  unfold mDivisor at h
  split at h
  · rename_i a b _
    cases h
    unfold b_divisor
    walk_at "ev"
    obtain ⟨r', q⟩ := w_divisor (Γ := Γ) (some (.sh (.int a))) (some (.sh (.int b))) b.natAbs b.natAbs (Nat.le_refl _) (if a < 0 then -a else a) none (by split <;> omega)
    rw [abs_cast b, whileD_of q]
    walk_at "ev"
    rw [← abs_cast b, gc_abs]
  · cases h
/-! ### the law's own -/
theorem w_law_divisor : ∀ (m : Nat) (n : Nat), n ≤ m → ∀ (g : Int), 0 ≤ g → whileN (evB Γ (.cmp .gt (.var 1) (.int 0))) (exs Γ (.cons (.par 0 1 (.var 1) (.bin .mod (.var 0) (.var 1))) .nil)) (m + 1)
    [some (.sh (.int g)), some (.sh (.int (n : Int)))] = some (.nx [some (.sh (.int (gc g n))), some (.sh (.int 0))]) := by
  intro m
  induction m with
  | zero =>
    intro n hn g hg
    obtain rfl : n = 0 := by omega
    unfold whileN
    walk_at "ev"
    simp [gc_zero hg]
  | succ m ih =>
    intro n hn g hg
    unfold whileN
    walk_at "ev"
    by_cases h0 : n = 0
    · subst h0
      simp [gc_zero hg]
    · have h1 : ¬ ((n : Int) = 0) := by omega
      have h2 : (0 : Int) < n := by omega
      simp only [h1, h2, decide_true, if_false]
      walk_at "ev"
      have e : g.fmod (n : Int) = ((g % (n : Int)).toNat : Int) := by
        rw [Int.fmod_eq_emod_of_nonneg _ (by omega)]
        have := Int.emod_nonneg g h1
        omega
      have l : (g % (n : Int)).toNat ≤ m := by
        have := Int.emod_lt_of_pos g (show (0 : Int) < n by omega)
        have := Int.emod_nonneg g h1
        omega
      have q := ih _ l (n : Int) (by omega)
      rw [e, q]
      have e2 : (((g % (n : Int)).toNat : Nat) : Int) = g % n := by have := Int.emod_nonneg g h1; omega
      rw [e2, gc_turn]
theorem ok_law_divisor : ∀ ds w, ds.length = 2 → mDivisor ds = some w → run Γ b_law_divisor 2 ds = some w := by
  intro ds w _ h
  unfold mDivisor at h
  split at h
  · rename_i a b _
    cases h
    unfold b_law_divisor
    walk_at "ev"
    have q := w_law_divisor (Γ := Γ) b.natAbs b.natAbs (Nat.le_refl _) (if a < 0 then -a else a) (by split <;> omega)
    rw [abs_cast b, whileD_of q]
    walk_at "ev"
    rw [← abs_cast b, gc_abs]
  · cases h
end
end DL

set_option maxHeartbeats 4000000
set_option exponentiation.threshold 20000
namespace DL
local macro_rules | `(tactic| walk_at "ev") => `(tactic| simp only [run_eq, exs_nil, exs_cons, thenS_nx, thenS_rt, ex_asg, asgO_s, ex_unp, unpO_s, ex_par, parO_s, ex_ret, retO_s, ex_retV, retVO_o, retVO_s, ex_iff, iffO_t, iffO_f, ex_whl, ex_frr, forO_s, evI_seq, seqO_nl, seqO_vl, seqO_vt, evI_range1, rng1O_s, evI_range2, rng2O_s, evI_enum, enumO_s, outO_rt, outO_nx, evB_eq,
  ev_var, ev_int, ev_bl, ev_non, ev_bin, ev_neg, ev_cmp, ev_and, ev_or, ev_not, ev_tup, ev_lst, ev_ix, ev_sl, ev_call, ev_bi, ev_isi, isiW_i, isiW_b, isiW_t, isiW_l, isiW_n, ev_isx, isxW_n, ex_tryC, evs_nil, evs_cons, evo_non, evo_som, evd, evb, bin2_s, un1_s, andO_t, andO_f, orO_t, orO_f, appL_s, consO_s, slO_s, cmpW, ixW, negW, notW_s, tupW, lstW,
  varD_0, varD_s, view_nil, view_cons, setR_0, setR_s, bindTg_n, bindTg_t, bindAll, after_i, after_b, after_n, after, lfW, lf, lfL, Wd_v, Wd_n, Wb_v, Wb_n, Bd_s, Bd_o, DL.op_add, DL.op_sub, DL.op_mul, DL.op_fdiv, DL.op_mod, fmod_pos, fdiv_pos, divOk_small, mulOk_small, op_p4, op_p5, op_p6, op_p9, op_p18, op_p30, op_p60, op_p64, Int.reduceEq, Int.reduceLT, Int.reduceLE, Int.reduceNeg, Int.reduceAdd, Int.reduceSub, Int.reduceMul, Int.reduceToNat, Int.reducePow, Int.reduceMod, Int.reduceDiv, cs0, cs1, cs2, cs3, cs4, cs5, cs6, cs7, cs8, cs9, cs10, cs11, cs12, Nat.reduceSub, cmpD, biW, ixD_t, ixD_l, slD_l, dBool_s, dInt_s, isTy, isNon,
  List.map_cons, List.map_nil, List.cons_append, List.nil_append, List.append_nil, List.length_cons, List.length_nil, List.getElem?_cons_zero, List.getElem?_cons_succ, List.set_cons_zero, List.set_cons_succ, Option.map_some, Option.map_none, Option.bind_some, Option.bind_none,
  List.replicate, if_true, if_false, Nat.reduceAdd, Nat.reduceSub, Nat.reduceLT, Nat.reduceLeDiff, Bool.false_eq_true, reduceCtorEq, decide_true, decide_false, Bool.not_true, Bool.not_false, Bool.and_true, Bool.true_and, Bool.and_false, Bool.false_and, ne_eq, not_false_eq_true, and_self, and_true, true_and, Nat.reduceEqDiff, Nat.zero_ne_one, Nat.one_ne_zero, sl0, sl1, sl2, sl3, sl4, sl5, sl6, sl7, sl8, sl9, at1_0, at2_0, at2_1, at3_0, at3_1, at3_2, at4_0, at4_1, at4_2, at4_3, at5_0, at5_1, at5_2, at5_3, at5_4, at6_0, at6_1, at6_2, at6_3, at6_4, at6_5])
local macro_rules | `(tactic| walk_at "evh") => `(tactic| simp only [run_eq, exs_nil, exs_cons, thenS_nx, thenS_rt, ex_asg, asgO_s, ex_unp, unpO_s, ex_par, parO_s, ex_ret, retO_s, ex_retV, retVO_o, retVO_s, ex_iff, iffO_t, iffO_f, ex_whl, ex_frr, forO_s, evI_seq, seqO_nl, seqO_vl, seqO_vt, evI_range1, rng1O_s, evI_range2, rng2O_s, evI_enum, enumO_s, outO_rt, outO_nx, evB_eq,
  ev_var, ev_int, ev_bl, ev_non, ev_bin, ev_neg, ev_cmp, ev_and, ev_or, ev_not, ev_tup, ev_lst, ev_ix, ev_sl, ev_call, ev_bi, ev_isi, isiW_i, isiW_b, isiW_t, isiW_l, isiW_n, ev_isx, isxW_n, ex_tryC, evs_nil, evs_cons, evo_non, evo_som, evd, evb, bin2_s, un1_s, andO_t, andO_f, orO_t, orO_f, appL_s, consO_s, slO_s, cmpW, ixW, negW, notW_s, tupW, lstW,
  varD_0, varD_s, view_nil, view_cons, setR_0, setR_s, bindTg_n, bindTg_t, bindAll, after_i, after_b, after_n, after, lfW, lf, lfL, Wd_v, Wd_n, Wb_v, Wb_n, Bd_s, Bd_o, DL.op_add, DL.op_sub, DL.op_mul, DL.op_fdiv, DL.op_mod, fmod_pos, fdiv_pos, divOk_small, mulOk_small, op_p4, op_p5, op_p6, op_p9, op_p18, op_p30, op_p60, op_p64, Int.reduceEq, Int.reduceLT, Int.reduceLE, Int.reduceNeg, Int.reduceAdd, Int.reduceSub, Int.reduceMul, Int.reduceToNat, Int.reducePow, Int.reduceMod, Int.reduceDiv, cs0, cs1, cs2, cs3, cs4, cs5, cs6, cs7, cs8, cs9, cs10, cs11, cs12, Nat.reduceSub, cmpD, biW, ixD_t, ixD_l, slD_l, dBool_s, dInt_s, isTy, isNon,
  List.map_cons, List.map_nil, List.cons_append, List.nil_append, List.append_nil, List.length_cons, List.length_nil, List.getElem?_cons_zero, List.getElem?_cons_succ, List.set_cons_zero, List.set_cons_succ, Option.map_some, Option.map_none, Option.bind_some, Option.bind_none,
  List.replicate, if_true, if_false, Nat.reduceAdd, Nat.reduceSub, Nat.reduceLT, Nat.reduceLeDiff, Bool.false_eq_true, reduceCtorEq, decide_true, decide_false, Bool.not_true, Bool.not_false, Bool.and_true, Bool.true_and, Bool.and_false, Bool.false_and, ne_eq, not_false_eq_true, and_self, and_true, true_and, Nat.reduceEqDiff, Nat.zero_ne_one, Nat.one_ne_zero, sl0, sl1, sl2, sl3, sl4, sl5, sl6, sl7, sl8, sl9, at1_0, at2_0, at2_1, at3_0, at3_1, at3_2, at4_0, at4_1, at4_2, at4_3, at5_0, at5_1, at5_2, at5_3, at5_4, at6_0, at6_1, at6_2, at6_3, at6_4, at6_5, *])
open Sf
theorem ixf0 {z : Rat} : ixD (fr z) (.int 0) = some (.int z.num) := rfl
theorem ixf1 {z : Rat} : ixD (fr z) (.int 1) = some (.int (z.den : Int)) := rfl
theorem lff {z : Rat} : lf (fr z) = true := rfl
theorem mDivisor_i {a b : Int} : mDivisor [.int a, .int b] = some (.val (.int (gc a b))) := rfl
section
variable {Γ : Nat → List D → Option W}
/-! ### ratio -/
def mRatio : List D → Option W
  | [.int t, .int b] => if b ≠ 0 ∧ b.natAbs < 2 ^ 9000 then some (.val (fr (Rat.divInt t b))) else none
  | _ => none
theorem gc_le {t b : Int} (h : b ≠ 0) : (gc t b).natAbs ≤ b.natAbs := by
  have := Int.gcd_dvd_right t b
  exact abs_le_of_dvd this h
theorem divOk_gc {t b : Int} (h : b ≠ 0) (hb : b.natAbs < 2 ^ 9000) : divOk (gc t b) = true ∧ divOk (-(gc t b)) = true := by
  have p := gc_pos (a := t) h
  have l := gc_le (t := t) h
  exact ⟨divOk_of (n := 9000) (by omega) (by omega) (Nat.le_refl _), divOk_of (n := 9000) (by omega) (by rw [Int.natAbs_neg]; omega) (Nat.le_refl _)⟩
theorem fr_low {t b : Int} (h : b ≠ 0) : fr (Rat.divInt t b) = .tup [.int (low1 t b), .int (low2 t b)] := by
  obtain ⟨a, c⟩ := low_rat (t := t) h
  unfold fr
  rw [a, c]
theorem ok_ratio (h0 : Γ 0 = mDivisor) : ∀ ds w, ds.length = 2 → mRatio ds = some w → run Γ b_ratio 3 ds = some w := by
  intro ds w _ h
  unfold mRatio at h
  split at h
  · rename_i t b _
    split at h
    · rename_i z
      cases h
      unfold b_ratio
      walk_at "ev"
      simp only [z.1, decide_false]
      walk_at "ev"
      simp only [h0, mDivisor_i]
      walk_at "ev"
      obtain ⟨g1, g2⟩ := divOk_gc (t := t) z.1 z.2
      rw [fr_low z.1]
      unfold low1 low2 by_
      by_cases hb : b < 0
      · simp only [hb, decide_true]
        walk_at "ev"
        simp only [g2]
        walk_at "ev"
      · simp only [hb, decide_false]
        walk_at "ev"
        simp only [g1]
        walk_at "ev"
    · cases h
  · cases h
/-! ### two fractions in -/
def fr2 (C : Rat → Rat → Bool) (g : Rat → Rat → D) : List D → Option W
  | [a, b] => match asFr a, asFr b with
    | some x, some y => if C x y = true then some (.val (g x y)) else none
    | _, _ => none
  | _ => none
theorem fr2_some {C : Rat → Rat → Bool} {g : Rat → Rat → D} {ds : List D} {w : W} (h : fr2 C g ds = some w) : ∃ x y, ds = [fr x, fr y] ∧ C x y = true ∧ w = .val (g x y) := by
  unfold fr2 at h
  split at h
  · split at h
    · rename_i x y hx hy
      split at h
      · rename_i z
        cases h
        exact ⟨x, y, by rw [asFr_some hx, asFr_some hy], z, rfl⟩
      · cases h
    · cases h
  · cases h
theorem fr2_of {C : Rat → Rat → Bool} {g : Rat → Rat → D} {x y : Rat} (h : C x y = true) : fr2 C g [fr x, fr y] = some (.val (g x y)) := by
  unfold fr2
  simp only [asFr_fr, h, if_true]
def okRR (x y : Rat) : Bool := okR x && okR y
theorem okRR_of {m n : Nat} {x y : Rat} (hx : Sz m x) (hy : Sz n y) (hm : m ≤ 4400) (hn : n ≤ 4400) : okRR x y = true := by
  unfold okRR; rw [okR_of hx hm, okR_of hy hn]; rfl
theorem okRR_sz {x y : Rat} (h : okRR x y = true) : Sz 4400 x ∧ Sz 4400 y := by
  unfold okRR at h
  rw [Bool.and_eq_true] at h
  exact ⟨okR_sz h.1, okR_sz h.2⟩
def mPlus : List D → Option W := fr2 okRR fun x y => fr (x + y)
def mMinus : List D → Option W := fr2 okRR fun x y => fr (x - y)
def mTimes : List D → Option W := fr2 okRR fun x y => fr (x * y)
def mOver : List D → Option W := fr2 (fun x y => okRR x y && decide (y ≠ 0)) fun x y => fr (x / y)
def mBelow : List D → Option W := fr2 okRR fun x y => .bl (decide (x < y))
theorem den_pos (x : Rat) : (0 : Int) < x.den := (fra_rat x).pos
theorem ok_plus (h0 : Γ 0 = mDivisor) : ∀ ds w, ds.length = 2 → mPlus ds = some w → run Γ b_plus 5 ds = some w := by
  intro ds w _ h
  obtain ⟨x, y, rfl, hC, rfl⟩ := fr2_some h
  obtain ⟨sx, sy⟩ := okRR_sz hC
  have px := den_pos x
  have py := den_pos y
  have hne : (y.den : Int) ≠ 0 := by omega
  have gp := gc_pos (a := (x.den : Int)) hne
  have gl := gc_le (t := (x.den : Int)) hne
  have e1 : ((y.den : Int)).natAbs = y.den := Int.natAbs_natCast _
  have d1 : divOk (gc x.den y.den) = true := divOk_of (n := 4400) (by omega) (by have := sy.b; omega) (by decide)
  have hle : ∀ {p s : Int}, 0 < s → (p.fdiv s).natAbs ≤ p.natAbs := fun {p s} hs => by
    rw [Int.fdiv_eq_ediv_of_nonneg _ (Int.le_of_lt hs)]
    have := Int.natAbs_ediv_le_natAbs p s
    exact this
  have l1 := hle (p := (y.den : Int)) gp
  have l2 := hle (p := (x.den : Int)) gp
  have e2 : ((x.den : Int)).natAbs = x.den := Int.natAbs_natCast _
  have m1 : mulOk x.num ((y.den : Int).fdiv (gc x.den y.den)) = true := mulOk_of sx.t (n := 4400) (by have := sy.b; omega) (by decide) (by decide)
  have m2 : mulOk y.num ((x.den : Int).fdiv (gc x.den y.den)) = true := mulOk_of sy.t (n := 4400) (by have := sx.b; omega) (by decide) (by decide)
  have hne2 : gc (x.den : Int) y.den ≠ 0 := by omega
  have rp := gc_pos (a := addT x.num x.den y.num y.den) hne2
  have rl := gc_le (t := addT x.num x.den y.num y.den) hne2
  have d2 : divOk (gc (addT x.num x.den y.num y.den) (gc x.den y.den)) = true := divOk_of (n := 4400) (by omega) (by have := sy.b; omega) (by decide)
  have l3 := hle (p := (y.den : Int)) rp
  have m3 : mulOk ((x.den : Int).fdiv (gc x.den y.den)) ((y.den : Int).fdiv (gc (addT x.num x.den y.num y.den) (gc x.den y.den))) = true := mulOk_of (m := 4400) (n := 4400) (by have := sx.b; omega) (by have := sy.b; omega) (by decide) (by decide)
  obtain ⟨q1, q2⟩ := add_rat x y
  have eT : x.num * (y.den : Int).fdiv (gc x.den y.den) + y.num * (x.den : Int).fdiv (gc x.den y.den) = addT x.num x.den y.num y.den := rfl
  have hd := @mDivisor_i
  clear hC h px py sx sy hne gp gl hne2 rp rl l1 l2 l3 hle
  unfold b_plus
  simp only [fr]
  walk_at "evh"
  rfl
theorem ok_minus (h9 : Γ 9 = mPlus) : ∀ ds w, ds.length = 2 → mMinus ds = some w → run Γ b_minus 2 ds = some w := by
  intro ds w _ h
  obtain ⟨x, y, rfl, hC, rfl⟩ := fr2_some h
  obtain ⟨sx, sy⟩ := okRR_sz hC
  unfold b_minus
  simp only [fr]
  walk_at "ev"
  have e : (D.tup [.int (-y.num), .int (y.den : Int)]) = fr (-y) := rfl
  have e2 : (D.tup [.int x.num, .int (x.den : Int)]) = fr x := rfl
  have q : mPlus [fr x, fr (-y)] = some (.val (fr (x + -y))) := fr2_of (okRR_of sx sy.neg (Nat.le_refl _) (Nat.le_refl _))
  simp only [h9, e, e2, q]
  walk_at "ev"
  rw [Rat.sub_eq_add_neg]
  rfl
theorem ok_times (h1 : Γ 1 = mRatio) : ∀ ds w, ds.length = 2 → mTimes ds = some w → run Γ b_times 2 ds = some w := by
  intro ds w _ h
  obtain ⟨x, y, rfl, hC, rfl⟩ := fr2_some h
  obtain ⟨sx, sy⟩ := okRR_sz hC
  have px := den_pos x
  have py := den_pos y
  have m1 : mulOk x.num y.num = true := mulOk_of sx.t sy.t (by decide) (by decide)
  have m2 : mulOk (x.den : Int) y.den = true := mulOk_of (m := 4400) (n := 4400) (by rw [Int.natAbs_natCast]; exact sx.b) (by rw [Int.natAbs_natCast]; exact sy.b) (by decide) (by decide)
  have hb : ((x.den : Int) * y.den).natAbs < 2 ^ 9000 := by
    rw [Int.natAbs_mul, Int.natAbs_natCast, Int.natAbs_natCast]
    exact Nat.lt_of_lt_of_le (mul_lt sx.b sy.b) (pow_mono (by decide))
  have hne : (x.den : Int) * y.den ≠ 0 := Int.mul_ne_zero (by omega) (by omega)
  unfold b_times
  simp only [fr]
  walk_at "ev"
  simp only [m1, m2]
  walk_at "ev"
  have q : mRatio [.int (x.num * y.num), .int ((x.den : Int) * y.den)] = some (.val (fr (x * y))) := by
    show (if _ then _ else _) = _
    rw [if_pos ⟨hne, hb⟩, ← mul_rat]
  simp only [h1, q]
  walk_at "ev"
  rfl
end
end DL

set_option maxHeartbeats 4000000
set_option exponentiation.threshold 20000
namespace DL
local macro_rules | `(tactic| walk_at "ev") => `(tactic| simp only [run_eq, exs_nil, exs_cons, thenS_nx, thenS_rt, ex_asg, asgO_s, ex_unp, unpO_s, ex_par, parO_s, ex_ret, retO_s, ex_retV, retVO_o, retVO_s, ex_iff, iffO_t, iffO_f, ex_whl, ex_frr, forO_s, evI_seq, seqO_nl, seqO_vl, seqO_vt, evI_range1, rng1O_s, evI_range2, rng2O_s, evI_enum, enumO_s, outO_rt, outO_nx, evB_eq,
  ev_var, ev_int, ev_bl, ev_non, ev_bin, ev_neg, ev_cmp, ev_and, ev_or, ev_not, ev_tup, ev_lst, ev_ix, ev_sl, ev_call, ev_bi, ev_isi, isiW_i, isiW_b, isiW_t, isiW_l, isiW_n, ev_isx, isxW_n, ex_tryC, evs_nil, evs_cons, evo_non, evo_som, evd, evb, bin2_s, un1_s, andO_t, andO_f, orO_t, orO_f, appL_s, consO_s, slO_s, cmpW, ixW, negW, notW_s, tupW, lstW,
  varD_0, varD_s, view_nil, view_cons, setR_0, setR_s, bindTg_n, bindTg_t, bindAll, after_i, after_b, after_n, after, lfW, lf, lfL, Wd_v, Wd_n, Wb_v, Wb_n, Bd_s, Bd_o, DL.op_add, DL.op_sub, DL.op_mul, DL.op_fdiv, DL.op_mod, fmod_pos, fdiv_pos, divOk_small, mulOk_small, op_p4, op_p5, op_p6, op_p9, op_p18, op_p30, op_p60, op_p64, Int.reduceEq, Int.reduceLT, Int.reduceLE, Int.reduceNeg, Int.reduceAdd, Int.reduceSub, Int.reduceMul, Int.reduceToNat, Int.reducePow, Int.reduceMod, Int.reduceDiv, cs0, cs1, cs2, cs3, cs4, cs5, cs6, cs7, cs8, cs9, cs10, cs11, cs12, Nat.reduceSub, cmpD, biW, ixD_t, ixD_l, ixf0, ixf1, lff, slD_l, dBool_s, dInt_s, isTy, isNon,
  List.map_cons, List.map_nil, List.cons_append, List.nil_append, List.append_nil, List.length_cons, List.length_nil, List.getElem?_cons_zero, List.getElem?_cons_succ, List.set_cons_zero, List.set_cons_succ, Option.map_some, Option.map_none, Option.bind_some, Option.bind_none,
  List.replicate, if_true, if_false, Nat.reduceAdd, Nat.reduceSub, Nat.reduceLT, Nat.reduceLeDiff, Bool.false_eq_true, reduceCtorEq, decide_true, decide_false, Bool.not_true, Bool.not_false, Bool.and_true, Bool.true_and, Bool.and_false, Bool.false_and, ne_eq, not_false_eq_true, and_self, and_true, true_and, Nat.reduceEqDiff, Nat.zero_ne_one, Nat.one_ne_zero, sl0, sl1, sl2, sl3, sl4, sl5, sl6, sl7, sl8, sl9, at1_0, at2_0, at2_1, at3_0, at3_1, at3_2, at4_0, at4_1, at4_2, at4_3, at5_0, at5_1, at5_2, at5_3, at5_4, at6_0, at6_1, at6_2, at6_3, at6_4, at6_5])
local macro_rules | `(tactic| walk_at "evh") => `(tactic| simp only [run_eq, exs_nil, exs_cons, thenS_nx, thenS_rt, ex_asg, asgO_s, ex_unp, unpO_s, ex_par, parO_s, ex_ret, retO_s, ex_retV, retVO_o, retVO_s, ex_iff, iffO_t, iffO_f, ex_whl, ex_frr, forO_s, evI_seq, seqO_nl, seqO_vl, seqO_vt, evI_range1, rng1O_s, evI_range2, rng2O_s, evI_enum, enumO_s, outO_rt, outO_nx, evB_eq,
  ev_var, ev_int, ev_bl, ev_non, ev_bin, ev_neg, ev_cmp, ev_and, ev_or, ev_not, ev_tup, ev_lst, ev_ix, ev_sl, ev_call, ev_bi, ev_isi, isiW_i, isiW_b, isiW_t, isiW_l, isiW_n, ev_isx, isxW_n, ex_tryC, evs_nil, evs_cons, evo_non, evo_som, evd, evb, bin2_s, un1_s, andO_t, andO_f, orO_t, orO_f, appL_s, consO_s, slO_s, cmpW, ixW, negW, notW_s, tupW, lstW,
  varD_0, varD_s, view_nil, view_cons, setR_0, setR_s, bindTg_n, bindTg_t, bindAll, after_i, after_b, after_n, after, lfW, lf, lfL, Wd_v, Wd_n, Wb_v, Wb_n, Bd_s, Bd_o, DL.op_add, DL.op_sub, DL.op_mul, DL.op_fdiv, DL.op_mod, fmod_pos, fdiv_pos, divOk_small, mulOk_small, op_p4, op_p5, op_p6, op_p9, op_p18, op_p30, op_p60, op_p64, Int.reduceEq, Int.reduceLT, Int.reduceLE, Int.reduceNeg, Int.reduceAdd, Int.reduceSub, Int.reduceMul, Int.reduceToNat, Int.reducePow, Int.reduceMod, Int.reduceDiv, cs0, cs1, cs2, cs3, cs4, cs5, cs6, cs7, cs8, cs9, cs10, cs11, cs12, Nat.reduceSub, cmpD, biW, ixD_t, ixD_l, ixf0, ixf1, lff, slD_l, dBool_s, dInt_s, isTy, isNon,
  List.map_cons, List.map_nil, List.cons_append, List.nil_append, List.append_nil, List.length_cons, List.length_nil, List.getElem?_cons_zero, List.getElem?_cons_succ, List.set_cons_zero, List.set_cons_succ, Option.map_some, Option.map_none, Option.bind_some, Option.bind_none,
  List.replicate, if_true, if_false, Nat.reduceAdd, Nat.reduceSub, Nat.reduceLT, Nat.reduceLeDiff, Bool.false_eq_true, reduceCtorEq, decide_true, decide_false, Bool.not_true, Bool.not_false, Bool.and_true, Bool.true_and, Bool.and_false, Bool.false_and, ne_eq, not_false_eq_true, and_self, and_true, true_and, Nat.reduceEqDiff, Nat.zero_ne_one, Nat.one_ne_zero, sl0, sl1, sl2, sl3, sl4, sl5, sl6, sl7, sl8, sl9, at1_0, at2_0, at2_1, at3_0, at3_1, at3_2, at4_0, at4_1, at4_2, at4_3, at5_0, at5_1, at5_2, at5_3, at5_4, at6_0, at6_1, at6_2, at6_3, at6_4, at6_5, *])
open Sf
section
variable {Γ : Nat → List D → Option W}
/-! ### the law's own helpers -/
def mCellAt : List D → Option W
  | [.lst l, .int k] => if k < l.length then (L2.atI l k).map W.val else some (.val (.int 0))
  | _ => none
theorem ok_law_cell_at : ∀ ds w, ds.length = 2 → mCellAt ds = some w → run Γ b_law_cell_at 2 ds = some w := by
  intro ds w _ h
  unfold mCellAt at h
  split at h
  · rename_i l k _
    unfold b_law_cell_at
    walk_at "ev"
    split at h
    · rename_i z
      obtain ⟨d, hd, e⟩ := Option.map_eq_some_iff.mp h
      subst e
      walk_at "evh"
    · rename_i z
      cases h
      walk_at "evh"
  · cases h
def isInt : D → Bool
  | .int _ => true
  | _ => false
def mWhole : List D → Option W
  | [.exc _] => none
  | [d] => some (.val (.bl (isInt d)))
  | _ => none
theorem ok_law_whole : ∀ ds w, ds.length = 1 → mWhole ds = some w → run Γ b_law_whole 1 ds = some w := by
  intro ds w _ h
  unfold mWhole at h
  split at h
  · cases h
  · rename_i d hd _
    cases h
    unfold b_law_whole
    cases d with
    | exc x => exact absurd rfl (hd x)
    | _ => walk_at "ev"; rfl
  · cases h
theorem mWhole_i {i : Int} : mWhole [.int i] = some (.val (.bl true)) := rfl
theorem ok_law_lowest (h12 : Γ 12 = mDivisor) : ∀ ds w, ds.length = 2 → mRatio ds = some w → run Γ b_law_lowest 3 ds = some w := by
  intro ds w _ h
  unfold mRatio at h
  split at h
  · rename_i t b _
    split at h
    · rename_i z
      cases h
      obtain ⟨g1, g2⟩ := divOk_gc (t := t) z.1 z.2
      have g3 : (0 : Int) - gc t b = -(gc t b) := by omega
      rw [fr_low z.1]
      unfold low1 low2 by_ b_law_lowest
      have hd := @mDivisor_i
      by_cases hb : b < 0
      · walk_at "evh"
      · walk_at "evh"
    · cases h
  · cases h
def mIsFr : List D → Option W
  | [d] => match asFr d with
    | some x => some (.val (.bl true))
    | none => none
  | _ => none
theorem mIsFr_fr (x : Rat) : mIsFr [fr x] = some (.val (.bl true)) := by
  unfold mIsFr
  simp only [asFr_fr]
theorem ok_law_is_fraction (h3 : Γ 3 = mWhole) (h12 : Γ 12 = mDivisor) : ∀ ds w, ds.length = 1 → mIsFr ds = some w → run Γ b_law_is_fraction 1 ds = some w := by
  intro ds w _ h
  unfold mIsFr at h
  split at h
  · split at h
    · rename_i x hx
      cases h
      have hd := @mDivisor_i
      have hw := @mWhole_i
      have hp := den_pos x
      have e1 : gc x.num x.den = 1 := by
        show ((Int.gcd x.num x.den : Nat) : Int) = 1
        rw [(fra_rat x).co]; rfl
      rw [asFr_some hx]
      clear hx
      unfold b_law_is_fraction
      simp only [fr]
      walk_at "evh"
    · cases h
  · cases h
def mWorth : List D → Option W
  | [d, .int t, .int b] => match asFr d with
    | some x => if okR x = true ∧ t.natAbs < 2 ^ 16000 ∧ b.natAbs < 2 ^ 16000 then some (.val (.bl (decide (x.num * b = t * (x.den : Int))))) else none
    | none => none
  | _ => none
theorem mWorth_fr {x : Rat} {t b : Int} {n : Nat} (hx : okR x = true) (ht : t.natAbs < 2 ^ n) (hb : b.natAbs < 2 ^ n) (hn : n ≤ 16000) : mWorth [fr x, .int t, .int b] = some (.val (.bl (decide (x.num * b = t * (x.den : Int))))) := by
  unfold mWorth
  simp only [asFr_fr]
  rw [if_pos ⟨hx, Nat.lt_of_lt_of_le ht (pow_mono hn), Nat.lt_of_lt_of_le hb (pow_mono hn)⟩]
theorem ok_law_worth (h14 : Γ 14 = mIsFr) : ∀ ds w, ds.length = 3 → mWorth ds = some w → run Γ b_law_worth 3 ds = some w := by
  intro ds w _ h
  unfold mWorth at h
  split at h
  · rename_i d t b _
    split at h
    · rename_i x hx
      split at h
      · rename_i z
        cases h
        have sx := okR_sz z.1
        have m1 : mulOk x.num b = true := mulOk_of sx.t z.2.2 (by decide) (by decide)
        have m2 : mulOk t (x.den : Int) = true := mulOk_of z.2.1 (n := 4400) (by rw [Int.natAbs_natCast]; exact sx.b) (by decide) (by decide)
        rw [asFr_some hx]
        have q := mIsFr_fr x
        clear hx z sx
        unfold b_law_worth
        walk_at "evh"
      · cases h
    · cases h
  · cases h
/-! ### the drawn fractions -/
def num02 (cell k : Int) : Int := let n := cell % 10 ^ 18 + 48271 * (k + 1); n * n % 2147483647
def top02 (cell k : Int) : Int := match (num02 cell k / 6 % 3).toNat with
  | 0 => num02 cell k / 6 % 13 - 6
  | 1 => num02 cell k / 6 % 200001 - 10 ^ 5
  | _ => cell % (2 * 10 ^ 9) - 10 ^ 9
def by02 (cell k : Int) : Rat := Rat.divInt (top02 cell k) (1 + num02 cell k % 6)
def mFrBy : List D → Option W
  | [.int cell, .int k] => if 0 ≤ k ∧ k < 1000 then some (.val (fr (by02 cell k))) else none
  | _ => none
theorem ok_law_fraction_by (h13 : Γ 13 = mRatio) : ∀ ds w, ds.length = 2 → mFrBy ds = some w → run Γ b_law_fraction_by 4 ds = some w := by
  intro ds w _ h
  unfold mFrBy at h
  split at h
  · rename_i cell k _
    split at h
    · rename_i z
      cases h
      have hc := Int.emod_nonneg cell (show (1000000000000000000 : Int) ≠ 0 by decide)
      have hc2 := Int.emod_lt_of_pos cell (show (0 : Int) < 1000000000000000000 by decide)
      have k1 : mulOk 48271 (k + 1) = true := mulOk_small (by omega) (by omega) (by omega) (by omega)
      have k2 : mulOk (cell % 1000000000000000000 + 48271 * (k + 1)) (cell % 1000000000000000000 + 48271 * (k + 1)) = true := mulOk_small (by omega) (by omega) (by omega) (by omega)
      have e0 : (cell % 1000000000000000000 + 48271 * (k + 1)) * (cell % 1000000000000000000 + 48271 * (k + 1)) % 2147483647 = num02 cell k := rfl
      unfold b_law_fraction_by
      have n0 := Int.emod_nonneg ((cell % 1000000000000000000 + 48271 * (k + 1)) * (cell % 1000000000000000000 + 48271 * (k + 1))) (show (2147483647 : Int) ≠ 0 by decide)
      rw [e0] at n0
      have e1 : (1 : Int) + num02 cell k % 6 ≠ 0 := by omega
      have e2 : ((1 : Int) + num02 cell k % 6).natAbs < 2 ^ 9000 := Nat.lt_of_lt_of_le (show _ < 2 ^ 3 by omega) (pow_mono (by decide))
      have q : ∀ t, mRatio [.int t, .int (1 + num02 cell k % 6)] = some (.val (fr (Rat.divInt t (1 + num02 cell k % 6)))) := fun t => if_pos ⟨e1, e2⟩
      have h3 : num02 cell k / 6 % 3 = 0 ∨ num02 cell k / 6 % 3 = 1 ∨ num02 cell k / 6 % 3 = 2 := by omega
      clear e1 e2 hc hc2 z
      unfold by02 top02
      rcases h3 with h3 | h3 | h3
      · walk_at "evh"
      · walk_at "evh"
      · walk_at "evh"
    · cases h
  · cases h
end
end DL

set_option maxHeartbeats 4000000
set_option exponentiation.threshold 20000
namespace DL
local macro_rules | `(tactic| walk_at "ev") => `(tactic| simp only [run_eq, exs_nil, exs_cons, thenS_nx, thenS_rt, ex_asg, asgO_s, ex_unp, unpO_s, ex_par, parO_s, ex_ret, retO_s, ex_retV, retVO_o, retVO_s, ex_iff, iffO_t, iffO_f, ex_whl, ex_frr, forO_s, evI_seq, seqO_nl, seqO_vl, seqO_vt, evI_range1, rng1O_s, evI_range2, rng2O_s, evI_enum, enumO_s, outO_rt, outO_nx, evB_eq,
  ev_var, ev_int, ev_bl, ev_non, ev_bin, ev_neg, ev_cmp, ev_and, ev_or, ev_not, ev_tup, ev_lst, ev_ix, ev_sl, ev_call, ev_bi, ev_isi, isiW_i, isiW_b, isiW_t, isiW_l, isiW_n, ev_isx, isxW_n, ex_tryC, evs_nil, evs_cons, evo_non, evo_som, evd, evb, bin2_s, un1_s, andO_t, andO_f, orO_t, orO_f, appL_s, consO_s, slO_s, cmpW, ixW, negW, notW_s, tupW, lstW,
  varD_0, varD_s, view_nil, view_cons, setR_0, setR_s, bindTg_n, bindTg_t, bindAll, after_i, after_b, after_n, after, lfW, lf, lfL, Wd_v, Wd_n, Wb_v, Wb_n, Bd_s, Bd_o, DL.op_add, DL.op_sub, DL.op_mul, DL.op_fdiv, DL.op_mod, fmod_pos, fdiv_pos, divOk_small, mulOk_small, op_p4, op_p5, op_p6, op_p9, op_p18, op_p30, op_p60, op_p64, Int.reduceEq, Int.reduceLT, Int.reduceLE, Int.reduceNeg, Int.reduceAdd, Int.reduceSub, Int.reduceMul, Int.reduceToNat, Int.reducePow, Int.reduceMod, Int.reduceDiv, cs0, cs1, cs2, cs3, cs4, cs5, cs6, cs7, cs8, cs9, cs10, cs11, cs12, Nat.reduceSub, cmpD, biW, ixD_t, ixD_l, ixf0, ixf1, lff, slD_l, dBool_s, dInt_s, isTy, isNon,
  List.map_cons, List.map_nil, List.cons_append, List.nil_append, List.append_nil, List.length_cons, List.length_nil, List.getElem?_cons_zero, List.getElem?_cons_succ, List.set_cons_zero, List.set_cons_succ, Option.map_some, Option.map_none, Option.bind_some, Option.bind_none,
  List.replicate, if_true, if_false, Nat.reduceAdd, Nat.reduceSub, Nat.reduceLT, Nat.reduceLeDiff, Bool.false_eq_true, reduceCtorEq, decide_true, decide_false, Bool.not_true, Bool.not_false, Bool.and_true, Bool.true_and, Bool.and_false, Bool.false_and, ne_eq, not_false_eq_true, and_self, and_true, true_and, Nat.reduceEqDiff, Nat.zero_ne_one, Nat.one_ne_zero, sl0, sl1, sl2, sl3, sl4, sl5, sl6, sl7, sl8, sl9, at1_0, at2_0, at2_1, at3_0, at3_1, at3_2, at4_0, at4_1, at4_2, at4_3, at5_0, at5_1, at5_2, at5_3, at5_4, at6_0, at6_1, at6_2, at6_3, at6_4, at6_5])
local macro_rules | `(tactic| walk_at "evh") => `(tactic| simp only [run_eq, exs_nil, exs_cons, thenS_nx, thenS_rt, ex_asg, asgO_s, ex_unp, unpO_s, ex_par, parO_s, ex_ret, retO_s, ex_retV, retVO_o, retVO_s, ex_iff, iffO_t, iffO_f, ex_whl, ex_frr, forO_s, evI_seq, seqO_nl, seqO_vl, seqO_vt, evI_range1, rng1O_s, evI_range2, rng2O_s, evI_enum, enumO_s, outO_rt, outO_nx, evB_eq,
  ev_var, ev_int, ev_bl, ev_non, ev_bin, ev_neg, ev_cmp, ev_and, ev_or, ev_not, ev_tup, ev_lst, ev_ix, ev_sl, ev_call, ev_bi, ev_isi, isiW_i, isiW_b, isiW_t, isiW_l, isiW_n, ev_isx, isxW_n, ex_tryC, evs_nil, evs_cons, evo_non, evo_som, evd, evb, bin2_s, un1_s, andO_t, andO_f, orO_t, orO_f, appL_s, consO_s, slO_s, cmpW, ixW, negW, notW_s, tupW, lstW,
  varD_0, varD_s, view_nil, view_cons, setR_0, setR_s, bindTg_n, bindTg_t, bindAll, after_i, after_b, after_n, after, lfW, lf, lfL, Wd_v, Wd_n, Wb_v, Wb_n, Bd_s, Bd_o, DL.op_add, DL.op_sub, DL.op_mul, DL.op_fdiv, DL.op_mod, fmod_pos, fdiv_pos, divOk_small, mulOk_small, op_p4, op_p5, op_p6, op_p9, op_p18, op_p30, op_p60, op_p64, Int.reduceEq, Int.reduceLT, Int.reduceLE, Int.reduceNeg, Int.reduceAdd, Int.reduceSub, Int.reduceMul, Int.reduceToNat, Int.reducePow, Int.reduceMod, Int.reduceDiv, cs0, cs1, cs2, cs3, cs4, cs5, cs6, cs7, cs8, cs9, cs10, cs11, cs12, Nat.reduceSub, cmpD, biW, ixD_t, ixD_l, ixf0, ixf1, lff, slD_l, dBool_s, dInt_s, isTy, isNon,
  List.map_cons, List.map_nil, List.cons_append, List.nil_append, List.append_nil, List.length_cons, List.length_nil, List.getElem?_cons_zero, List.getElem?_cons_succ, List.set_cons_zero, List.set_cons_succ, Option.map_some, Option.map_none, Option.bind_some, Option.bind_none,
  List.replicate, if_true, if_false, Nat.reduceAdd, Nat.reduceSub, Nat.reduceLT, Nat.reduceLeDiff, Bool.false_eq_true, reduceCtorEq, decide_true, decide_false, Bool.not_true, Bool.not_false, Bool.and_true, Bool.true_and, Bool.and_false, Bool.false_and, ne_eq, not_false_eq_true, and_self, and_true, true_and, Nat.reduceEqDiff, Nat.zero_ne_one, Nat.one_ne_zero, sl0, sl1, sl2, sl3, sl4, sl5, sl6, sl7, sl8, sl9, at1_0, at2_0, at2_1, at3_0, at3_1, at3_2, at4_0, at4_1, at4_2, at4_3, at5_0, at5_1, at5_2, at5_3, at5_4, at6_0, at6_1, at6_2, at6_3, at6_4, at6_5, *])
open Sf
section
variable {Γ : Nat → List D → Option W}
def great (a b : Int) : Rat := Rat.divInt (a % 1999999999999999999999999999999999999999999999999999999999999 - 999999999999999999999999999999999999999999999999999999999999) (1 + b % 999999999999999999999999999999999999999999999999999999999999)
def mGreat : List D → Option W
  | [.int a, .int b] => some (.val (fr (great a b)))
  | _ => none
theorem great_sz (a b : Int) : Sz 210 (great a b) := by
  have h1 := Int.emod_nonneg b (show (999999999999999999999999999999999999999999999999999999999999 : Int) ≠ 0 by decide)
  have h2 := Int.emod_lt_of_pos b (show (0 : Int) < 999999999999999999999999999999999999999999999999999999999999 by decide)
  have h3 := Int.emod_nonneg a (show (1999999999999999999999999999999999999999999999999999999999999 : Int) ≠ 0 by decide)
  have h4 := Int.emod_lt_of_pos a (show (0 : Int) < 1999999999999999999999999999999999999999999999999999999999999 by decide)
  have e : (2 : Nat) ^ 210 = 1645504557321206042154969182557350504982735865633579863348609024 := by decide +kernel
  exact sz_low (by omega) (by omega) (by omega)
theorem ok_law_great (h13 : Γ 13 = mRatio) : ∀ ds w, ds.length = 2 → mGreat ds = some w → run Γ b_law_great 3 ds = some w := by
  intro ds w _ h
  unfold mGreat at h
  split at h
  · rename_i a b _
    cases h
    have h1 := Int.emod_nonneg b (show (999999999999999999999999999999999999999999999999999999999999 : Int) ≠ 0 by decide)
    have h2 := Int.emod_lt_of_pos b (show (0 : Int) < 999999999999999999999999999999999999999999999999999999999999 by decide)
    have e : (2 : Nat) ^ 210 = 1645504557321206042154969182557350504982735865633579863348609024 := by decide +kernel
    have q : ∀ t, mRatio [.int t, .int (1 + b % 999999999999999999999999999999999999999999999999999999999999)] = some (.val (fr (Rat.divInt t (1 + b % 999999999999999999999999999999999999999999999999999999999999)))) := fun t => if_pos ⟨by omega, Nat.lt_of_lt_of_le (show _ < 2 ^ 210 by omega) (pow_mono (by decide))⟩
    clear h1 h2 e
    unfold b_law_great
    walk_at "evh"
    rfl
  · cases h
def ok2 (x y : Rat) : Bool := decide (x.num.natAbs < 2 ^ 2000) && decide (x.den < 2 ^ 2000) && decide (y.num.natAbs < 2 ^ 2000) && decide (y.den < 2 ^ 2000)
theorem ok2_of {m n : Nat} {x y : Rat} (hx : Sz m x) (hy : Sz n y) (hm : m ≤ 2000) (hn : n ≤ 2000) : ok2 x y = true := by
  have a := hx.mono hm
  have b := hy.mono hn
  unfold ok2
  rw [decide_eq_true a.t, decide_eq_true a.b, decide_eq_true b.t, decide_eq_true b.b]
  rfl
theorem ok2_sz {x y : Rat} (h : ok2 x y = true) : Sz 2000 x ∧ Sz 2000 y := by
  unfold ok2 at h
  rw [Bool.and_eq_true, Bool.and_eq_true, Bool.and_eq_true] at h
  exact ⟨⟨of_decide_eq_true h.1.1.1, of_decide_eq_true h.1.1.2⟩, ⟨of_decide_eq_true h.1.2, of_decide_eq_true h.2⟩⟩
def mRight02 : List D → Option W := fr2 ok2 fun _ _ => .bl true
theorem nat_mul_lt {a b : Int} {m n : Nat} (h : a.natAbs < 2 ^ m) (k : b.natAbs < 2 ^ n) : (a * b).natAbs < 2 ^ (m + n) := by
  rw [Int.natAbs_mul]; exact mul_lt h k
theorem ok_law_right_k02 (h9 : Γ 9 = mPlus) (h10 : Γ 10 = mMinus) (h11 : Γ 11 = mTimes) (h17 : Γ 17 = mWorth) : ∀ ds w, ds.length = 2 → mRight02 ds = some w → run Γ b_law_right_k02 6 ds = some w := by
  intro ds w _ h
  obtain ⟨x, y, rfl, hC, rfl⟩ := fr2_some h
  obtain ⟨sx, sy⟩ := ok2_sz hC
  have px := den_pos x
  have py := den_pos y
  have bx : ((x.den : Int)).natAbs < 2 ^ 2000 := by rw [Int.natAbs_natCast]; exact sx.b
  have by' : ((y.den : Int)).natAbs < 2 ^ 2000 := by rw [Int.natAbs_natCast]; exact sy.b
  have hx : (x.den : Int) ≠ 0 := by omega
  have hy : (y.den : Int) ≠ 0 := by omega
  have m1 : mulOk x.num y.den = true := mulOk_of sx.t by' (by decide) (by decide)
  have m2 : mulOk y.num x.den = true := mulOk_of sy.t bx (by decide) (by decide)
  have m3 : mulOk (x.den : Int) y.den = true := mulOk_of bx by' (by decide) (by decide)
  have m4 : mulOk x.num y.num = true := mulOk_of sx.t sy.t (by decide) (by decide)
  have t1 := nat_mul_lt sx.t by'
  have t2 := nat_mul_lt sy.t bx
  have t3 := nat_mul_lt bx by'
  have t4 := nat_mul_lt sx.t sy.t
  have p2 : (2 : Nat) ^ 4001 = 2 ^ 4000 + 2 ^ 4000 := by decide +kernel
  have q1 : mPlus [fr x, fr y] = some (.val (fr (x + y))) := fr2_of (okRR_of sx sy (by decide) (by decide))
  have q2 : mMinus [fr x, fr y] = some (.val (fr (x - y))) := fr2_of (okRR_of sx sy (by decide) (by decide))
  have q3 : mTimes [fr x, fr y] = some (.val (fr (x * y))) := fr2_of (okRR_of sx sy (by decide) (by decide))
  have w1 : mWorth [fr (x + y), .int (x.num * y.den + y.num * x.den), .int ((x.den : Int) * y.den)] = some (.val (.bl true)) := by
    rw [mWorth_fr (n := 4001) (okR_of (sx.add sy) (by decide)) (by have := Int.natAbs_add_le (x.num * y.den) (y.num * x.den); omega) (by omega) (by decide)]
    rw [decide_eq_true]
    refine (rat_eq (Int.mul_ne_zero hx hy)).mp ?_
    conv => lhs; rw [← Rat.num_divInt_den x, ← Rat.num_divInt_den y]
    exact Rat.divInt_add_divInt _ _ hx hy
  have w2 : mWorth [fr (x - y), .int (x.num * y.den - y.num * x.den), .int ((x.den : Int) * y.den)] = some (.val (.bl true)) := by
    rw [mWorth_fr (n := 4001) (okR_of (sx.sub sy) (by decide)) (by have := Int.natAbs_sub_le (x.num * y.den) (y.num * x.den); omega) (by omega) (by decide)]
    rw [decide_eq_true]
    refine (rat_eq (Int.mul_ne_zero hx hy)).mp ?_
    conv => lhs; rw [← Rat.num_divInt_den x, ← Rat.num_divInt_den y]
    exact Rat.divInt_sub_divInt _ _ hx hy
  have w3 : mWorth [fr (x * y), .int (x.num * y.num), .int ((x.den : Int) * y.den)] = some (.val (.bl true)) := by
    rw [mWorth_fr (n := 4001) (okR_of (sx.mul sy) (by decide)) (by omega) (by omega) (by decide)]
    rw [decide_eq_true]
    exact (rat_eq (Int.mul_ne_zero hx hy)).mp (mul_rat x y)
  have u1 : ∀ z : Rat, fr z = .tup [.int z.num, .int (z.den : Int)] := fun _ => rfl
  clear hC h sx sy bx by' px py hx hy t1 t2 t3 t4 p2
  unfold b_law_right_k02
  simp only [u1] at *
  walk_at "evh"
/-! ### the law -/
theorem by02_ok {cell k : Int} (h0 : 0 ≤ k) (h1 : k < 1000) : ∃ T : Int, by02 cell k = Rat.divInt T 60 ∧ T = (by02 cell k).num * (60 / ((by02 cell k).den : Int)) ∧ T.natAbs ≤ 60000000000 ∧ Sz 40 (by02 cell k) := by
  have n0 : 0 ≤ num02 cell k := Int.emod_nonneg _ (by decide)
  have ht : (top02 cell k).natAbs ≤ 1000000000 := by
    unfold top02
    split
    · omega
    · omega
    · omega
  have hb : (1 : Int) + num02 cell k % 6 ≠ 0 := by omega
  have hb2 : 1 ≤ 1 + num02 cell k % 6 ∧ 1 + num02 cell k % 6 ≤ 6 := by omega
  have hs : Sz 40 (by02 cell k) := sz_low hb (by have : (2 : Nat) ^ 40 = 1099511627776 := by decide
                                                 omega) (by have : (2 : Nat) ^ 40 = 1099511627776 := by decide
                                                            omega)
  have cr := (rat_eq (x := by02 cell k) hb).mp rfl
  obtain ⟨dv1, dv2⟩ := (fra_rat (by02 cell k)).cross_dvd cr
  have cl := (fra_rat (by02 cell k)).cross_le hb cr
  have dp := den_pos (by02 cell k)
  have d60 : ((by02 cell k).den : Int) ∣ 60 := by
    have : (1 + num02 cell k % 6) ∣ 60 := by
      have : num02 cell k % 6 = 0 ∨ num02 cell k % 6 = 1 ∨ num02 cell k % 6 = 2 ∨ num02 cell k % 6 = 3 ∨ num02 cell k % 6 = 4 ∨ num02 cell k % 6 = 5 := by omega
      rcases this with e | e | e | e | e | e <;> rw [e] <;> decide
    exact Int.dvd_trans dv2 this
  refine ⟨_, ?_, rfl, ?_, hs⟩
  · refine (rat_eq (by decide)).mpr ?_
    obtain ⟨c, hc⟩ := d60
    have e : 60 / ((by02 cell k).den : Int) = c := by
      rw [hc]; exact Int.mul_ediv_cancel_left _ (by omega)
    rw [e, hc]
    grind
  · rw [Int.natAbs_mul]
    have a := cl.1
    have b : (60 / ((by02 cell k).den : Int)).natAbs ≤ 60 := by
      have := Int.natAbs_ediv_le_natAbs 60 ((by02 cell k).den : Int)
      omega
    calc _ ≤ 1000000000 * 60 := Nat.mul_le_mul (by omega) b
      _ = _ := by decide
end
end DL

set_option maxHeartbeats 4000000
set_option exponentiation.threshold 20000
namespace DL
local macro_rules | `(tactic| walk_at "ev") => `(tactic| simp only [run_eq, exs_nil, exs_cons, thenS_nx, thenS_rt, ex_asg, asgO_s, ex_unp, unpO_s, ex_par, parO_s, ex_ret, retO_s, ex_retV, retVO_o, retVO_s, ex_iff, iffO_t, iffO_f, ex_whl, ex_frr, forO_s, evI_seq, seqO_nl, seqO_vl, seqO_vt, evI_range1, rng1O_s, evI_range2, rng2O_s, evI_enum, enumO_s, outO_rt, outO_nx, evB_eq,
  ev_var, ev_int, ev_bl, ev_non, ev_bin, ev_neg, ev_cmp, ev_and, ev_or, ev_not, ev_tup, ev_lst, ev_ix, ev_sl, ev_call, ev_bi, ev_isi, isiW_i, isiW_b, isiW_t, isiW_l, isiW_n, ev_isx, isxW_n, ex_tryC, evs_nil, evs_cons, evo_non, evo_som, evd, evb, bin2_s, un1_s, andO_t, andO_f, orO_t, orO_f, appL_s, consO_s, slO_s, cmpW, ixW, negW, notW_s, tupW, lstW,
  varD_0, varD_s, view_nil, view_cons, setR_0, setR_s, bindTg_n, bindTg_t, bindAll, after_i, after_b, after_n, after, lfW, lf, lfL, Wd_v, Wd_n, Wb_v, Wb_n, Bd_s, Bd_o, DL.op_add, DL.op_sub, DL.op_mul, DL.op_fdiv, DL.op_mod, fmod_pos, fdiv_pos, divOk_small, mulOk_small, op_p4, op_p5, op_p6, op_p9, op_p18, op_p30, op_p60, op_p64, Int.reduceEq, Int.reduceLT, Int.reduceLE, Int.reduceNeg, Int.reduceAdd, Int.reduceSub, Int.reduceMul, Int.reduceToNat, Int.reducePow, Int.reduceMod, Int.reduceDiv, cs0, cs1, cs2, cs3, cs4, cs5, cs6, cs7, cs8, cs9, cs10, cs11, cs12, Nat.reduceSub, cmpD, biW, ixD_t, ixD_l, ixf0, ixf1, lff, slD_l, dBool_s, dInt_s, isTy, isNon,
  List.map_cons, List.map_nil, List.cons_append, List.nil_append, List.append_nil, List.length_cons, List.length_nil, List.getElem?_cons_zero, List.getElem?_cons_succ, List.set_cons_zero, List.set_cons_succ, Option.map_some, Option.map_none, Option.bind_some, Option.bind_none,
  List.replicate, if_true, if_false, Nat.reduceAdd, Nat.reduceSub, Nat.reduceLT, Nat.reduceLeDiff, Bool.false_eq_true, reduceCtorEq, decide_true, decide_false, Bool.not_true, Bool.not_false, Bool.and_true, Bool.true_and, Bool.and_false, Bool.false_and, ne_eq, not_false_eq_true, and_self, and_true, true_and, Nat.reduceEqDiff, Nat.zero_ne_one, Nat.one_ne_zero, sl0, sl1, sl2, sl3, sl4, sl5, sl6, sl7, sl8, sl9, at1_0, at2_0, at2_1, at3_0, at3_1, at3_2, at4_0, at4_1, at4_2, at4_3, at5_0, at5_1, at5_2, at5_3, at5_4, at6_0, at6_1, at6_2, at6_3, at6_4, at6_5])
local macro_rules | `(tactic| walk_at "evh") => `(tactic| simp only [run_eq, exs_nil, exs_cons, thenS_nx, thenS_rt, ex_asg, asgO_s, ex_unp, unpO_s, ex_par, parO_s, ex_ret, retO_s, ex_retV, retVO_o, retVO_s, ex_iff, iffO_t, iffO_f, ex_whl, ex_frr, forO_s, evI_seq, seqO_nl, seqO_vl, seqO_vt, evI_range1, rng1O_s, evI_range2, rng2O_s, evI_enum, enumO_s, outO_rt, outO_nx, evB_eq,
  ev_var, ev_int, ev_bl, ev_non, ev_bin, ev_neg, ev_cmp, ev_and, ev_or, ev_not, ev_tup, ev_lst, ev_ix, ev_sl, ev_call, ev_bi, ev_isi, isiW_i, isiW_b, isiW_t, isiW_l, isiW_n, ev_isx, isxW_n, ex_tryC, evs_nil, evs_cons, evo_non, evo_som, evd, evb, bin2_s, un1_s, andO_t, andO_f, orO_t, orO_f, appL_s, consO_s, slO_s, cmpW, ixW, negW, notW_s, tupW, lstW,
  varD_0, varD_s, view_nil, view_cons, setR_0, setR_s, bindTg_n, bindTg_t, bindAll, after_i, after_b, after_n, after, lfW, lf, lfL, Wd_v, Wd_n, Wb_v, Wb_n, Bd_s, Bd_o, DL.op_add, DL.op_sub, DL.op_mul, DL.op_fdiv, DL.op_mod, fmod_pos, fdiv_pos, divOk_small, mulOk_small, op_p4, op_p5, op_p6, op_p9, op_p18, op_p30, op_p60, op_p64, Int.reduceEq, Int.reduceLT, Int.reduceLE, Int.reduceNeg, Int.reduceAdd, Int.reduceSub, Int.reduceMul, Int.reduceToNat, Int.reducePow, Int.reduceMod, Int.reduceDiv, cs0, cs1, cs2, cs3, cs4, cs5, cs6, cs7, cs8, cs9, cs10, cs11, cs12, Nat.reduceSub, cmpD, biW, ixD_t, ixD_l, ixf0, ixf1, lff, slD_l, dBool_s, dInt_s, isTy, isNon,
  List.map_cons, List.map_nil, List.cons_append, List.nil_append, List.append_nil, List.length_cons, List.length_nil, List.getElem?_cons_zero, List.getElem?_cons_succ, List.set_cons_zero, List.set_cons_succ, Option.map_some, Option.map_none, Option.bind_some, Option.bind_none,
  List.replicate, if_true, if_false, Nat.reduceAdd, Nat.reduceSub, Nat.reduceLT, Nat.reduceLeDiff, Bool.false_eq_true, reduceCtorEq, decide_true, decide_false, Bool.not_true, Bool.not_false, Bool.and_true, Bool.true_and, Bool.and_false, Bool.false_and, ne_eq, not_false_eq_true, and_self, and_true, true_and, Nat.reduceEqDiff, Nat.zero_ne_one, Nat.one_ne_zero, sl0, sl1, sl2, sl3, sl4, sl5, sl6, sl7, sl8, sl9, at1_0, at2_0, at2_1, at3_0, at3_1, at3_2, at4_0, at4_1, at4_2, at4_3, at5_0, at5_1, at5_2, at5_3, at5_4, at6_0, at6_1, at6_2, at6_3, at6_4, at6_5, *])
open Sf
section
variable {Γ : Nat → List D → Option W}
abbrev body02 : Ss := (.cons (.asg 5 (.call 15 (.cons (.var 4) (.cons (.var 3) .nil)))) (.cons (.asg 6 (.ix (.lst (.cons (.tup (.cons (.var 1) (.cons (.var 5) .nil))) (.cons (.tup (.cons (.var 5) (.cons (.var 1) .nil))) .nil))) (.bin .mod (.bin .add (.var 4) (.var 3)) (.int 2)))) (.cons (.iff (.not (.call 18 (.cons (.ix (.var 6) (.int 0)) (.cons (.ix (.var 6) (.int 1)) .nil)))) (.cons (.ret (.bl false)) .nil) .nil) (.cons (.asg 2 (.bin .add (.var 2) (.bin .mul (.ix (.var 5) (.int 0)) (.bin .fdiv (.int 60) (.ix (.var 5) (.int 1)))))) (.cons (.asg 1 (.call 9 (.cons (.var 1) (.cons (.var 5) .nil)))) .nil)))))
theorem loop02 (h9 : Γ 9 = mPlus) (h15 : Γ 15 = mFrBy) (h18 : Γ 18 = mRight02) (s : Option B) : ∀ (l : List Int) (k : Nat) (x : Rat) (T : Int) (a b c d e : Option B), k + l.length ≤ 63 → x = Rat.divInt T 60 → T.natAbs ≤ k * 60000000000 →
    ∃ (x' : Rat) (T' : Int) (a' b' c' d' : Option B), forN (bindTg (.tup [3, 4])) (exs Γ body02) ((l.zipIdx k).map fun p => D.tup [.int (p.2 : Int), .int p.1]) [s, some (.sh (fr x)), some (.sh (.int T)), a, b, c, d, e] =
      some (.nx [s, some (.sh (fr x')), some (.sh (.int T')), a', b', c', d', e]) ∧ x' = Rat.divInt T' 60 ∧ T'.natAbs ≤ 63 * 60000000000 := by
  intro l
  induction l with
  | nil =>
    intro k x T a b c d e hk hx hT
    refine ⟨x, T, a, b, c, d, by simp only [List.zipIdx_nil, List.map_nil, forN], hx, Nat.le_trans hT (Nat.mul_le_mul_right _ ?_)⟩
    rw [List.length_nil] at hk
    exact hk
  | cons cell l ih =>
    intro k x T a b c d e hk hx hT
    rw [List.length_cons] at hk
    obtain ⟨U, hU, eU, lU, sU⟩ := by02_ok (cell := cell) (k := (k : Int)) (by omega) (by omega)
    have sx : Sz 60 x := by
      rw [hx]
      have p60 : (2 : Nat) ^ 60 = 1152921504606846976 := by decide
      exact sz_low (by decide) (by omega) (by decide)
    obtain ⟨x', T', a', b', c', d', hf, r1, r2⟩ := ih (k + 1) (x + by02 cell k) (T + U) (some (.sh (.int (k : Int)))) (some (.sh (.int cell))) (some (.sh (fr (by02 cell k)))) (some (.sh (if (cell + k) % 2 = 0 then .tup [fr x, fr (by02 cell k)] else .tup [fr (by02 cell k), fr x]))) e (by omega) (by
        rw [hx]
        conv => lhs; rw [hU]
        refine (rat_eq (by decide)).mpr ?_
        have e := Rat.divInt_add_divInt T U (show (60 : Int) ≠ 0 by decide) (show (60 : Int) ≠ 0 by decide)
        have e2 := (rat_eq (by decide)).mp e
        apply Int.eq_of_mul_eq_mul_right (show (60 : Int) ≠ 0 by decide)
        grind) (by
        have := Int.natAbs_add_le T U
        have e : (k + 1) * 60000000000 = k * 60000000000 + 60000000000 := by omega
        omega)
    refine ⟨x', T', a', b', c', d', ?_, r1, r2⟩
    rw [List.zipIdx_cons, List.map_cons]
    have q15 : mFrBy [.int cell, .int (k : Int)] = some (.val (fr (by02 cell k))) := if_pos (by omega)
    have q9 : mPlus [fr x, fr (by02 cell k)] = some (.val (fr (x + by02 cell k))) := fr2_of (okRR_of sx sU (by decide) (by decide))
    have q18 : mRight02 [fr x, fr (by02 cell k)] = some (.val (.bl true)) := fr2_of (ok2_of sx sU (by decide) (by decide))
    have q18' : mRight02 [fr (by02 cell k), fr x] = some (.val (.bl true)) := fr2_of (ok2_of sU sx (by decide) (by decide))
    have dp := den_pos (by02 cell k)
    have hfd : (60 : Int).fdiv ((by02 cell k).den : Int) = 60 / ((by02 cell k).den : Int) := fdiv_pos dp
    have d1 : divOk ((by02 cell k).den : Int) = true := divOk_of (n := 40) (by omega) (by rw [Int.natAbs_natCast]; exact sU.b) (by decide)
    have m1 : mulOk (by02 cell k).num (60 / ((by02 cell k).den : Int)) = true := mulOk_of sU.t (n := 40) (by
      have := Int.natAbs_ediv_le_natAbs 60 ((by02 cell k).den : Int)
      have p : (2 : Nat) ^ 40 = 1099511627776 := by decide
      omega) (by decide) (by decide)
    have hm : (cell + (k : Int)) % 2 = 0 ∨ (cell + (k : Int)) % 2 = 1 := by omega
    have ex1 : exs Γ body02 [s, some (.sh (fr x)), some (.sh (.int T)), some (.sh (.int (k : Int))), some (.sh (.int cell)), c, d, e] = some (.nx [s, some (.sh (fr (x + by02 cell k))), some (.sh (.int (T + U))), some (.sh (.int (k : Int))), some (.sh (.int cell)), some (.sh (fr (by02 cell k))), some (.sh (if (cell + k) % 2 = 0 then .tup [fr x, fr (by02 cell k)] else .tup [fr (by02 cell k), fr x])), e]) := by
      rw [eU]
      clear hf ih hU eU lU sU sx dp hx hT hk
      unfold body02
      rcases hm with hm | hm
      · walk_at "evh"
      · walk_at "evh"
    unfold forN
    simp only [bindTg_t, bindAll, setR_s, setR_0, Option.map_some, Option.bind_some]
    rw [ex1]
    exact hf
theorem sIx_63 {n : Nat} (h : n ≤ 63) : HT.sIx n n (some 63) = n := by
  have := HT.sIx_nat n n 63
  rw [show ((63 : Nat) : Int) = 63 from rfl] at this
  rw [this]; omega
theorem cut63 {l : List D} (h : l.length ≤ 63) : cutD l none (some 63) = l := by
  unfold cutD
  rw [sIx_63 h, HT.sIx_none]
  simp
theorem enum_ints (ns : List Int) : enumD (ns.map D.int) = (ns.zipIdx 0).map fun p => D.tup [.int (p.2 : Int), .int p.1] := by
  unfold enumD
  rw [List.zipIdx_map, List.map_map]
  rfl
theorem cell_int {ns : List Int} {k : Nat} : ∃ c, mCellAt [.lst (ns.map D.int), .int (k : Int)] = some (.val (.int c)) := by
  unfold mCellAt
  by_cases h : k < ns.length
  · have hk : ((k : Int) < ((ns.map D.int).length : Nat)) := by rw [List.length_map]; omega
    simp only [hk, if_true]
    refine ⟨ns[k], ?_⟩
    rw [L2.atI_nat (v := .int ns[k]) (by rw [List.getElem?_map, List.getElem?_eq_getElem h]; rfl)]
    rfl
  · have hk : ¬ ((k : Int) < ((ns.map D.int).length : Nat)) := by rw [List.length_map]; omega
    simp only [hk, if_false]
    exact ⟨0, rfl⟩
theorem law02 (h2 : Γ 2 = mCellAt) (h9 : Γ 9 = mPlus) (h15 : Γ 15 = mFrBy) (h16 : Γ 16 = mGreat) (h17 : Γ 17 = mWorth) (h18 : Γ 18 = mRight02) (ns : List Int) (hn : ns.length ≤ 63) : run Γ b_law_k02 8 [.lst (ns.map D.int)] = some (.val (.bl true)) := by
  obtain ⟨c0, q0⟩ := cell_int (ns := ns) (k := 0)
  obtain ⟨c1, q1⟩ := cell_int (ns := ns) (k := 1)
  obtain ⟨c2, q2⟩ := cell_int (ns := ns) (k := 2)
  obtain ⟨c3, q3⟩ := cell_int (ns := ns) (k := 3)
  rw [show ((0 : Nat) : Int) = 0 from rfl] at q0
  rw [show ((1 : Nat) : Int) = 1 from rfl] at q1
  rw [show ((2 : Nat) : Int) = 2 from rfl] at q2
  rw [show ((3 : Nat) : Int) = 3 from rfl] at q3
  obtain ⟨x, T, a, b, c, d, hf, r1, r2⟩ := loop02 (Γ := Γ) h9 h15 h18 (some (.sh (.lst (ns.map D.int)))) ns 0 0 0 none none none none none (by omega) (by decide +kernel) (by decide)
  have hc : cutD (ns.map D.int) none (some 63) = ns.map D.int := cut63 (by rw [List.length_map]; exact hn)
  have e0 : fr 0 = .tup [.int 0, .int 1] := rfl
  have sx : Sz 60 x := by
    rw [r1]
    have p60 : (2 : Nat) ^ 60 = 1152921504606846976 := by decide
    exact sz_low (by decide) (by omega) (by decide)
  have w1 : mWorth [fr x, .int T, .int 60] = some (.val (.bl true)) := by
    have p60 : (2 : Nat) ^ 60 = 1152921504606846976 := by decide
    rw [mWorth_fr (n := 60) (okR_of sx (by decide)) (by omega) (by decide) (by decide), decide_eq_true]
    exact (rat_eq (by decide)).mp r1
  have g1 : ∀ a b, mGreat [.int a, .int b] = some (.val (fr (great a b))) := fun _ _ => rfl
  have g2 : ∀ a b c d, mRight02 [fr (great a b), fr (great c d)] = some (.val (.bl true)) := fun a b c d => fr2_of (ok2_of (great_sz a b) (great_sz c d) (by decide) (by decide))
  have hfz : frz [some (B.sh (.lst (ns.map D.int))), some (B.sh (.tup [.int 0, .int 1])), some (B.sh (.int 0)), none, none, none, none, none] = [some (B.sh (.lst (ns.map D.int))), some (B.sh (.tup [.int 0, .int 1])), some (B.sh (.int 0)), none, none, none, none, none] := rfl
  have hen := enum_ints ns
  rw [e0] at hf
  unfold body02 at hf
  clear sx r1 r2 hn
  unfold b_law_k02
  walk_at "evh"
end
end DL

set_option maxHeartbeats 4000000
namespace DL
local macro_rules | `(tactic| walk_at "ev") => `(tactic| simp only [run_eq, exs_nil, exs_cons, thenS_nx, thenS_rt, ex_asg, asgO_s, ex_unp, unpO_s, ex_par, parO_s, ex_ret, retO_s, ex_retV, retVO_o, retVO_s, ex_iff, iffO_t, iffO_f, ex_whl, ex_frr, forO_s, evI_seq, seqO_nl, seqO_vl, seqO_vt, evI_range1, rng1O_s, evI_range2, rng2O_s, evI_enum, enumO_s, outO_rt, outO_nx, evB_eq,
  ev_var, ev_int, ev_bl, ev_non, ev_bin, ev_neg, ev_cmp, ev_and, ev_or, ev_not, ev_tup, ev_lst, ev_ix, ev_sl, ev_call, ev_bi, ev_isi, isiW_i, isiW_b, isiW_t, isiW_l, isiW_n, ev_isx, isxW_n, ex_tryC, evs_nil, evs_cons, evo_non, evo_som, evd, evb, bin2_s, un1_s, andO_t, andO_f, orO_t, orO_f, appL_s, consO_s, slO_s, cmpW, ixW, negW, notW_s, tupW, lstW,
  varD_0, varD_s, view_nil, view_cons, setR_0, setR_s, bindTg_n, bindTg_t, bindAll, after_i, after_b, after_n, after, lfW, lf, lfL, Wd_v, Wd_n, Wb_v, Wb_n, Bd_s, Bd_o, DL.op_add, DL.op_sub, DL.op_mul, DL.op_fdiv, DL.op_mod, fmod_pos, fdiv_pos, divOk_small, mulOk_small, op_p4, op_p5, op_p6, op_p9, op_p10, op_p18, eqL, eqD, dOkL, dOk, beq_self_eq_true, Bool.and_self, op_p30, op_p60, op_p64, Int.reduceEq, Int.reduceLT, Int.reduceLE, Int.reduceNeg, Int.reduceAdd, Int.reduceSub, Int.reduceMul, Int.reduceToNat, Int.reducePow, Int.reduceMod, Int.reduceDiv, cs0, cs1, cs2, cs3, cs4, cs5, cs6, cs7, cs8, cs9, cs10, cs11, cs12, Nat.reduceSub, cmpD, biW, ixD_t, ixD_l, ixf0, ixf1, lff, slD_l, dBool_s, dInt_s, isTy, isNon,
  List.map_cons, List.map_nil, List.cons_append, List.nil_append, List.append_nil, List.length_cons, List.length_nil, List.getElem?_cons_zero, List.getElem?_cons_succ, List.set_cons_zero, List.set_cons_succ, Option.map_some, Option.map_none, Option.bind_some, Option.bind_none,
  List.replicate, if_true, if_false, Nat.reduceAdd, Nat.reduceSub, Nat.reduceLT, Nat.reduceLeDiff, Bool.false_eq_true, reduceCtorEq, decide_true, decide_false, Bool.not_true, Bool.not_false, Bool.and_true, Bool.true_and, Bool.and_false, Bool.false_and, ne_eq, not_false_eq_true, and_self, and_true, true_and, Nat.reduceEqDiff, Nat.zero_ne_one, Nat.one_ne_zero, sl0, sl1, sl2, sl3, sl4, sl5, sl6, sl7, sl8, sl9, at1_0, at2_0, at2_1, at3_0, at3_1, at3_2, at4_0, at4_1, at4_2, at4_3, at5_0, at5_1, at5_2, at5_3, at5_4, at6_0, at6_1, at6_2, at6_3, at6_4, at6_5])
local macro_rules | `(tactic| walk_at "evh") => `(tactic| simp only [run_eq, exs_nil, exs_cons, thenS_nx, thenS_rt, ex_asg, asgO_s, ex_unp, unpO_s, ex_par, parO_s, ex_ret, retO_s, ex_retV, retVO_o, retVO_s, ex_iff, iffO_t, iffO_f, ex_whl, ex_frr, forO_s, evI_seq, seqO_nl, seqO_vl, seqO_vt, evI_range1, rng1O_s, evI_range2, rng2O_s, evI_enum, enumO_s, outO_rt, outO_nx, evB_eq,
  ev_var, ev_int, ev_bl, ev_non, ev_bin, ev_neg, ev_cmp, ev_and, ev_or, ev_not, ev_tup, ev_lst, ev_ix, ev_sl, ev_call, ev_bi, ev_isi, isiW_i, isiW_b, isiW_t, isiW_l, isiW_n, ev_isx, isxW_n, ex_tryC, evs_nil, evs_cons, evo_non, evo_som, evd, evb, bin2_s, un1_s, andO_t, andO_f, orO_t, orO_f, appL_s, consO_s, slO_s, cmpW, ixW, negW, notW_s, tupW, lstW,
  varD_0, varD_s, view_nil, view_cons, setR_0, setR_s, bindTg_n, bindTg_t, bindAll, after_i, after_b, after_n, after, lfW, lf, lfL, Wd_v, Wd_n, Wb_v, Wb_n, Bd_s, Bd_o, DL.op_add, DL.op_sub, DL.op_mul, DL.op_fdiv, DL.op_mod, fmod_pos, fdiv_pos, divOk_small, mulOk_small, op_p4, op_p5, op_p6, op_p9, op_p10, op_p18, eqL, eqD, dOkL, dOk, beq_self_eq_true, Bool.and_self, op_p30, op_p60, op_p64, Int.reduceEq, Int.reduceLT, Int.reduceLE, Int.reduceNeg, Int.reduceAdd, Int.reduceSub, Int.reduceMul, Int.reduceToNat, Int.reducePow, Int.reduceMod, Int.reduceDiv, cs0, cs1, cs2, cs3, cs4, cs5, cs6, cs7, cs8, cs9, cs10, cs11, cs12, Nat.reduceSub, cmpD, biW, ixD_t, ixD_l, ixf0, ixf1, lff, slD_l, dBool_s, dInt_s, isTy, isNon,
  List.map_cons, List.map_nil, List.cons_append, List.nil_append, List.append_nil, List.length_cons, List.length_nil, List.getElem?_cons_zero, List.getElem?_cons_succ, List.set_cons_zero, List.set_cons_succ, Option.map_some, Option.map_none, Option.bind_some, Option.bind_none,
  List.replicate, if_true, if_false, Nat.reduceAdd, Nat.reduceSub, Nat.reduceLT, Nat.reduceLeDiff, Bool.false_eq_true, reduceCtorEq, decide_true, decide_false, Bool.not_true, Bool.not_false, Bool.and_true, Bool.true_and, Bool.and_false, Bool.false_and, ne_eq, not_false_eq_true, and_self, and_true, true_and, Nat.reduceEqDiff, Nat.zero_ne_one, Nat.one_ne_zero, sl0, sl1, sl2, sl3, sl4, sl5, sl6, sl7, sl8, sl9, at1_0, at2_0, at2_1, at3_0, at3_1, at3_2, at4_0, at4_1, at4_2, at4_3, at5_0, at5_1, at5_2, at5_3, at5_4, at6_0, at6_1, at6_2, at6_3, at6_4, at6_5, *])
open Sf
section
variable {Γ : Nat → List D → Option W}
/-! ### refusals -/
def mRatioR : List D → Option W
  | [.int _, .int b] => if b = 0 then some (.val (.exc "NoNumber")) else none
  | _ => none
theorem okr_ratio : ∀ ds w, ds.length = 2 → mRatioR ds = some w → runR Γ r_ratio 3 ds = some w := by
  intro ds w _ h
  unfold mRatioR at h
  split at h
  · rename_i t b _
    split at h
    · rename_i z
      cases h
      subst z
      unfold runR r_ratio
      walk_at "ev"
    · cases h
  · cases h
theorem ix1 : isxW ["NoShape", "NoSize"] (.exc "NoNumber") = some (.val (.bl false)) := by
  have e : isX ["NoShape", "NoSize"] (.exc "NoNumber") = some false := by decide +kernel
  unfold isxW
  rw [e]; rfl
theorem ix2 : isxW ["NoNumber"] (.exc "NoNumber") = some (.val (.bl true)) := by
  have e : isX ["NoNumber"] (.exc "NoNumber") = some true := by decide +kernel
  unfold isxW
  rw [e]; rfl
theorem ix3 : isxW ["ValueError"] (.exc "NoNumber") = some (.val (.bl true)) := by
  have e : isX ["ValueError"] (.exc "NoNumber") = some true := by decide +kernel
  unfold isxW
  rw [e]; rfl
def mRefused01 : List D → Option W
  | [.int _, .int b] => if b = 0 then some (.val (.bl true)) else none
  | _ => none
theorem ok_law_refused_k01 (hr : Γ 1001 = mRatioR) : ∀ ds w, ds.length = 2 → mRefused01 ds = some w → run Γ b_law_refused_k01 4 ds = some w := by
  intro ds w _ h
  unfold mRefused01 at h
  split at h
  · rename_i t b _
    split at h
    · rename_i z
      cases h
      subst z
      have q : Γ 1001 [.int t, .int 0] = some (.val (.exc "NoNumber")) := by rw [hr]; rfl
      have hx : ("NoNumber" : PySem.Str) ∈ xNames := by decide
      unfold b_law_refused_k01
      walk_at "ev"
      simp only [tryO_x q, hx, frz, List.map_cons, List.map_nil, Option.map_some, Option.map_none, Bd_s]
      walk_at "ev"
      simp only [ix1, ix2, ix3]
      walk_at "ev"
      simp only [ix1, ix2, ix3]
      walk_at "ev"
    · cases h
  · cases h
/-! ### the numbers -/
def share (c : Int) : Int := match (c % 4).toNat with
  | 0 => 1
  | 1 => c / 4 % 3
  | 2 => c / 4 % 12
  | _ => c / 4 % 10000000000
theorem share_nn (c : Int) : 0 ≤ share c ∧ share c < 10000000000 := by
  unfold share
  split <;> omega
def mShare : List D → Option W
  | [.int c] => some (.val (.int (share c)))
  | _ => none
theorem mod4 (c : Int) : c % 4 = 0 ∨ c % 4 = 1 ∨ c % 4 = 2 ∨ c % 4 = 3 := by omega
theorem ok_law_share : ∀ ds w, ds.length = 1 → mShare ds = some w → run Γ b_law_share 1 ds = some w := by
  intro ds w _ h
  unfold mShare at h
  split at h
  · rename_i c _
    cases h
    unfold b_law_share
    rcases mod4 c with e | e | e | e
    · have e2 : share c = 1 := by unfold share; rw [e]; rfl
      rw [e2]
      walk_at "evh"
    · have e2 : share c = c / 4 % 3 := by unfold share; rw [e]; rfl
      rw [e2]
      walk_at "evh"
    · have e2 : share c = c / 4 % 12 := by unfold share; rw [e]; rfl
      rw [e2]
      walk_at "evh"
    · have e2 : share c = c / 4 % 10000000000 := by unfold share; rw [e]; rfl
      rw [e2]
      walk_at "evh"
  · cases h
def per (c : Int) : Int := match (c % 4).toNat with
  | 0 => 1
  | 1 => 3
  | 2 => 1000000000
  | _ => 1000000000000000000
theorem per_pos (c : Int) : 0 < per c := by unfold per; split <;> omega
def many (c a : Int) : Int := if 1000000000000000000000000000000 ≤ (1 + c / 4 % per c) * a then 1 else 1 + c / 4 % per c
def mLonger : List D → Option W
  | [.tup [.int a, .int b], .int c] => if 0 ≤ a ∧ a < 2 ^ 200 then some (.val (.tup [.int (many c a * a + b), .int a])) else none
  | _ => none
theorem ok_law_longer : ∀ ds w, ds.length = 2 → mLonger ds = some w → run Γ b_law_longer 3 ds = some w := by
  intro ds w _ h
  unfold mLonger at h
  split at h
  · rename_i a b c _
    split at h
    · rename_i z
      cases h
      unfold b_law_longer
      have key : ∀ m : Int, 1 ≤ m → m ≤ 1000000000000000000 → mulOk m a = true := fun m h1 h2 => mulOk_of (m := 100) (n := 200) (by
          have p : (2 : Nat) ^ 100 = 1267650600228229401496703205376 := by decide
          omega) (by
          have p : ((2 ^ 200 : Nat) : Int) = 2 ^ 200 := by norm_cast
          omega) (by decide) (by decide)
      have k1 := key 1 (by omega) (by omega)
      unfold many
      rcases mod4 c with e | e | e | e
      · have pe : per c = 1 := by unfold per; rw [e]; rfl
        rw [pe]
        by_cases g : 1000000000000000000000000000000 ≤ (1 + c / 4 % 1) * a
        · have k := key (1 + c / 4 % 1) (by omega) (by omega)
          simp only [if_pos g]
          walk_at "evh"
        · have k := key (1 + c / 4 % 1) (by omega) (by omega)
          simp only [if_neg g]
          walk_at "evh"
      · have pe : per c = 3 := by unfold per; rw [e]; rfl
        rw [pe]
        by_cases g : 1000000000000000000000000000000 ≤ (1 + c / 4 % 3) * a
        · have k := key (1 + c / 4 % 3) (by omega) (by omega)
          simp only [if_pos g]
          walk_at "evh"
        · have k := key (1 + c / 4 % 3) (by omega) (by omega)
          simp only [if_neg g]
          walk_at "evh"
      · have pe : per c = 1000000000 := by unfold per; rw [e]; rfl
        rw [pe]
        by_cases g : 1000000000000000000000000000000 ≤ (1 + c / 4 % 1000000000) * a
        · have k := key (1 + c / 4 % 1000000000) (by omega) (by omega)
          simp only [if_pos g]
          walk_at "evh"
        · have k := key (1 + c / 4 % 1000000000) (by omega) (by omega)
          simp only [if_neg g]
          walk_at "evh"
      · have pe : per c = 1000000000000000000 := by unfold per; rw [e]; rfl
        rw [pe]
        by_cases g : 1000000000000000000000000000000 ≤ (1 + c / 4 % 1000000000000000000) * a
        · have k := key (1 + c / 4 % 1000000000000000000) (by omega) (by omega)
          simp only [if_pos g]
          walk_at "evh"
        · have k := key (1 + c / 4 % 1000000000000000000) (by omega) (by omega)
          simp only [if_neg g]
          walk_at "evh"
    · cases h
  · cases h
end
end DL

set_option maxHeartbeats 4000000
namespace DL
local macro_rules | `(tactic| walk_at "ev") => `(tactic| simp only [run_eq, exs_nil, exs_cons, thenS_nx, thenS_rt, ex_asg, asgO_s, ex_unp, unpO_s, ex_par, parO_s, ex_ret, retO_s, ex_retV, retVO_o, retVO_s, ex_iff, iffO_t, iffO_f, ex_whl, ex_frr, forO_s, evI_seq, seqO_nl, seqO_vl, seqO_vt, evI_range1, rng1O_s, evI_range2, rng2O_s, evI_enum, enumO_s, outO_rt, outO_nx, evB_eq,
  ev_var, ev_int, ev_bl, ev_non, ev_bin, ev_neg, ev_cmp, ev_and, ev_or, ev_not, ev_tup, ev_lst, ev_ix, ev_sl, ev_call, ev_bi, ev_isi, isiW_i, isiW_b, isiW_t, isiW_l, isiW_n, ev_isx, isxW_n, ex_tryC, evs_nil, evs_cons, evo_non, evo_som, evd, evb, bin2_s, un1_s, andO_t, andO_f, orO_t, orO_f, appL_s, consO_s, slO_s, cmpW, ixW, negW, notW_s, tupW, lstW,
  varD_0, varD_s, view_nil, view_cons, setR_0, setR_s, bindTg_n, bindTg_t, bindAll, after_i, after_b, after_n, after, lfW, lf, lfL, Wd_v, Wd_n, Wb_v, Wb_n, Bd_s, Bd_o, DL.op_add, DL.op_sub, DL.op_mul, DL.op_fdiv, DL.op_mod, fmod_pos, fdiv_pos, divOk_small, mulOk_small, op_p4, op_p5, op_p6, op_p9, op_p10, op_p18, eqL, eqD, dOkL, dOk, beq_self_eq_true, Bool.and_self, op_p30, op_p60, op_p64, Int.reduceEq, Int.reduceLT, Int.reduceLE, Int.reduceNeg, Int.reduceAdd, Int.reduceSub, Int.reduceMul, Int.reduceToNat, Int.reducePow, Int.reduceMod, Int.reduceDiv, cs0, cs1, cs2, cs3, cs4, cs5, cs6, cs7, cs8, cs9, cs10, cs11, cs12, Nat.reduceSub, cmpD, biW, ixD_t, ixD_l, ixf0, ixf1, lff, slD_l, dBool_s, dInt_s, isTy, isNon,
  List.map_cons, List.map_nil, List.cons_append, List.nil_append, List.append_nil, List.length_cons, List.length_nil, List.getElem?_cons_zero, List.getElem?_cons_succ, List.set_cons_zero, List.set_cons_succ, Option.map_some, Option.map_none, Option.bind_some, Option.bind_none,
  List.replicate, if_true, if_false, Nat.reduceAdd, Nat.reduceSub, Nat.reduceLT, Nat.reduceLeDiff, Bool.false_eq_true, reduceCtorEq, decide_true, decide_false, Bool.not_true, Bool.not_false, Bool.and_true, Bool.true_and, Bool.and_false, Bool.false_and, ne_eq, not_false_eq_true, and_self, and_true, true_and, Nat.reduceEqDiff, Nat.zero_ne_one, Nat.one_ne_zero, sl0, sl1, sl2, sl3, sl4, sl5, sl6, sl7, sl8, sl9, at1_0, at2_0, at2_1, at3_0, at3_1, at3_2, at4_0, at4_1, at4_2, at4_3, at5_0, at5_1, at5_2, at5_3, at5_4, at6_0, at6_1, at6_2, at6_3, at6_4, at6_5])
local macro_rules | `(tactic| walk_at "evh") => `(tactic| simp only [run_eq, exs_nil, exs_cons, thenS_nx, thenS_rt, ex_asg, asgO_s, ex_unp, unpO_s, ex_par, parO_s, ex_ret, retO_s, ex_retV, retVO_o, retVO_s, ex_iff, iffO_t, iffO_f, ex_whl, ex_frr, forO_s, evI_seq, seqO_nl, seqO_vl, seqO_vt, evI_range1, rng1O_s, evI_range2, rng2O_s, evI_enum, enumO_s, outO_rt, outO_nx, evB_eq,
  ev_var, ev_int, ev_bl, ev_non, ev_bin, ev_neg, ev_cmp, ev_and, ev_or, ev_not, ev_tup, ev_lst, ev_ix, ev_sl, ev_call, ev_bi, ev_isi, isiW_i, isiW_b, isiW_t, isiW_l, isiW_n, ev_isx, isxW_n, ex_tryC, evs_nil, evs_cons, evo_non, evo_som, evd, evb, bin2_s, un1_s, andO_t, andO_f, orO_t, orO_f, appL_s, consO_s, slO_s, cmpW, ixW, negW, notW_s, tupW, lstW,
  varD_0, varD_s, view_nil, view_cons, setR_0, setR_s, bindTg_n, bindTg_t, bindAll, after_i, after_b, after_n, after, lfW, lf, lfL, Wd_v, Wd_n, Wb_v, Wb_n, Bd_s, Bd_o, DL.op_add, DL.op_sub, DL.op_mul, DL.op_fdiv, DL.op_mod, fmod_pos, fdiv_pos, divOk_small, mulOk_small, op_p4, op_p5, op_p6, op_p9, op_p10, op_p18, eqL, eqD, dOkL, dOk, beq_self_eq_true, Bool.and_self, op_p30, op_p60, op_p64, Int.reduceEq, Int.reduceLT, Int.reduceLE, Int.reduceNeg, Int.reduceAdd, Int.reduceSub, Int.reduceMul, Int.reduceToNat, Int.reducePow, Int.reduceMod, Int.reduceDiv, cs0, cs1, cs2, cs3, cs4, cs5, cs6, cs7, cs8, cs9, cs10, cs11, cs12, Nat.reduceSub, cmpD, biW, ixD_t, ixD_l, ixf0, ixf1, lff, slD_l, dBool_s, dInt_s, isTy, isNon,
  List.map_cons, List.map_nil, List.cons_append, List.nil_append, List.append_nil, List.length_cons, List.length_nil, List.getElem?_cons_zero, List.getElem?_cons_succ, List.set_cons_zero, List.set_cons_succ, Option.map_some, Option.map_none, Option.bind_some, Option.bind_none,
  List.replicate, if_true, if_false, Nat.reduceAdd, Nat.reduceSub, Nat.reduceLT, Nat.reduceLeDiff, Bool.false_eq_true, reduceCtorEq, decide_true, decide_false, Bool.not_true, Bool.not_false, Bool.and_true, Bool.true_and, Bool.and_false, Bool.false_and, ne_eq, not_false_eq_true, and_self, and_true, true_and, Nat.reduceEqDiff, Nat.zero_ne_one, Nat.one_ne_zero, sl0, sl1, sl2, sl3, sl4, sl5, sl6, sl7, sl8, sl9, at1_0, at2_0, at2_1, at3_0, at3_1, at3_2, at4_0, at4_1, at4_2, at4_3, at5_0, at5_1, at5_2, at5_3, at5_4, at6_0, at6_1, at6_2, at6_3, at6_4, at6_5, *])
open Sf
section
variable {Γ : Nat → List D → Option W}
theorem gc_scale {s p q : Int} (hs : 0 ≤ s) (h : Int.gcd p q = 1) : gc (s * p) (s * q) = s := by
  show ((Int.gcd (s * p) (s * q) : Nat) : Int) = s
  rw [Int.gcd_mul_left, h]
  omega
theorem mRatio_i {t b : Int} (h : b ≠ 0) (hb : b.natAbs < 2 ^ 9000) : mRatio [.int t, .int b] = some (.val (.tup [.int (low1 t b), .int (low2 t b)])) := by
  unfold mRatio
  simp only
  rw [if_pos ⟨h, hb⟩, fr_low h]
theorem low_two {s p q : Int} (hs : s ≠ 0) (hq : q ≠ 0) (h : Int.gcd p q = 1) : low1 (s * p) (s * q) = (if q < 0 then 0 - p else p) ∧ low2 (s * p) (s * q) = (if q < 0 then 0 - q else q) := by
  by_cases hn : q < 0
  · rw [if_pos hn, if_pos hn]
    have f : Fra (-p) (-q) := ⟨by omega, by rw [Int.neg_gcd, Int.gcd_neg]; exact h⟩
    have z := low_mul (s := -s) (by omega) f
    rw [Int.neg_mul_neg, Int.neg_mul_neg] at z
    rw [z.1, z.2]
    omega
  · rw [if_neg hn, if_neg hn]
    exact low_mul hs ⟨by omega, h⟩
abbrev tail01 : Ss := (.cons (.asg 6 (.call 0 (.cons (.bin .mul (.var 0) (.var 4)) (.cons (.bin .mul (.var 0) (.var 5)) .nil)))) (.cons (.iff (.or (.not (.call 3 (.cons (.var 6) .nil))) (.cmp .ne (.var 6) (.var 0))) (.cons (.ret (.bl false)) .nil) .nil) (.cons (.iff (.cmp .eq (.bin .mul (.var 0) (.var 5)) (.int 0)) (.cons (.ret (.call 6 (.cons (.bin .mul (.var 0) (.var 4)) (.cons (.bin .mul (.var 0) (.var 5)) .nil)))) .nil) .nil) (.cons (.asg 7 (.call 1 (.cons (.bin .mul (.var 0) (.var 4)) (.cons (.bin .mul (.var 0) (.var 5)) .nil)))) (.cons (.iff (.or (.not (.isi (.var 7) .tuple)) (.or (.cmp .ne (.bi .len (.cons (.var 7) .nil)) (.int 2)) (.or (.not (.call 3 (.cons (.ix (.var 7) (.int 0)) .nil))) (.not (.call 3 (.cons (.ix (.var 7) (.int 1)) .nil)))))) (.cons (.ret (.bl false)) .nil) .nil) (.cons (.iff (.cmp .lt (.var 5) (.int 0)) (.cons (.ret (.cmp .eq (.var 7) (.tup (.cons (.bin .sub (.int 0) (.var 4)) (.cons (.bin .sub (.int 0) (.var 5)) .nil))))) .nil) .nil) (.cons (.ret (.cmp .eq (.var 7) (.tup (.cons (.var 4) (.cons (.var 5) .nil))))) .nil)))))))
theorem tail_ok (h0 : Γ 0 = mDivisor) (h1 : Γ 1 = mRatio) (h3 : Γ 3 = mWhole) (h6 : Γ 6 = mRefused01) {s p q : Int} {a b c : Option B} (hs : 0 ≤ s) (hs2 : s < 10000000000) (hg : Int.gcd p q = 1) (hp : p.natAbs < 2 ^ 200) (hq : q.natAbs < 2 ^ 200) :
    exs Γ tail01 [some (.sh (.int s)), a, b, c, some (.sh (.int p)), some (.sh (.int q)), none, none] = some (.rt (.val (.bl true))) := by
  have bs : s.natAbs < 2 ^ 40 := by have p40 : (2 : Nat) ^ 40 = 1099511627776 := by decide
                                    omega
  have m1 : mulOk s p = true := mulOk_of bs hp (by decide) (by decide)
  have m2 : mulOk s q = true := mulOk_of bs hq (by decide) (by decide)
  have d := @mDivisor_i
  have e := gc_scale hs hg
  have ww := @mWhole_i
  unfold tail01
  by_cases z : s * q = 0
  · have r : mRefused01 [.int (s * p), .int 0] = some (.val (.bl true)) := by
      show (if (0 : Int) = 0 then some (W.val (.bl true)) else none) = _
      rw [if_pos rfl]
    rw [z] at e
    clear bs
    walk_at "evh"
  · have hs0 : s ≠ 0 := fun e => z (by rw [e, Int.zero_mul])
    have hq0 : q ≠ 0 := fun e => z (by rw [e, Int.mul_zero])
    have r := mRatio_i (t := s * p) z (by
      rw [Int.natAbs_mul]
      exact Nat.lt_of_lt_of_le (mul_lt bs hq) (pow_mono (by decide)))
    obtain ⟨l1, l2⟩ := low_two hs0 hq0 hg
    rw [l1, l2] at r
    clear bs l1 l2
    by_cases hn : q < 0
    · simp only [if_pos hn] at r
      walk_at "evh"
    · simp only [if_neg hn] at r
      walk_at "evh"
def mRight01 : List D → Option W
  | [.int s, .tup [.int a, .int b], .int _] => if 0 ≤ s ∧ s < 10000000000 ∧ Int.gcd a b = 1 ∧ a.natAbs < 2 ^ 200 ∧ b.natAbs < 2 ^ 200 then some (.val (.bl true)) else none
  | _ => none
theorem ok_law_right_k01 (h0 : Γ 0 = mDivisor) (h1 : Γ 1 = mRatio) (h3 : Γ 3 = mWhole) (h6 : Γ 6 = mRefused01) : ∀ ds w, ds.length = 3 → mRight01 ds = some w → run Γ b_law_right_k01 8 ds = some w := by
  intro ds w _ h
  unfold mRight01 at h
  split at h
  · rename_i s a b cell _
    split at h
    · rename_i z
      obtain ⟨z1, z2, z3, z4, z5⟩ := z
      cases h
      have T := fun (p q : Int) (x y c : Option B) => tail_ok (Γ := Γ) (a := x) (b := y) (c := c) (p := p) (q := q) h0 h1 h3 h6 z1 z2
      have hc := Int.emod_nonneg cell (show (1000003 : Int) ≠ 0 by decide)
      have hc2 := Int.emod_lt_of_pos cell (show (0 : Int) < 1000003 by decide)
      generalize hm1 : cell % 1000003 + 48271 = m1 at *
      have mm : mulOk m1 m1 = true := mulOk_small (by omega) (by omega) (by omega) (by omega)
      generalize hm2 : m1 * m1 % 65537 = m2 at *
      have ma1 : mulOk a 1 = true := mulOk_of z4 (n := 1) (by decide) (by decide) (by decide)
      have ma2 : mulOk a (-1) = true := mulOk_of z4 (n := 1) (by decide) (by decide) (by decide)
      have mb1 : mulOk b 1 = true := mulOk_of z5 (n := 1) (by decide) (by decide) (by decide)
      have mb2 : mulOk b (-1) = true := mulOk_of z5 (n := 1) (by decide) (by decide) (by decide)
      have head : ∃ (p q : Int), (Int.gcd p q = 1 ∧ p.natAbs < 2 ^ 200 ∧ q.natAbs < 2 ^ 200) ∧ run Γ b_law_right_k01 8 [.int s, .tup [.int a, .int b], .int cell] = outO (exs Γ tail01 [some (.sh (.int s)), some (.sh (.tup [.int a, .int b])), some (.sh (.int cell)), some (.sh (.int m2)), some (.sh (.int p)), some (.sh (.int q)), none, none]) := by
        have e2 : m2 % 2 = 0 ∨ m2 % 2 = 1 := by omega
        have e3 : m2 / 2 % 2 = 0 ∨ m2 / 2 % 2 = 1 := by omega
        have e4 : m2 / 4 % 2 = 0 ∨ m2 / 4 % 2 = 1 := by omega
        have g1 : Int.gcd (a * 1) (b * 1) = 1 := by simpa using z3
        have g2 : Int.gcd (a * 1) (b * -1) = 1 := by simpa using z3
        have g3 : Int.gcd (a * -1) (b * 1) = 1 := by simpa using z3
        have g4 : Int.gcd (a * -1) (b * -1) = 1 := by simpa using z3
        have n1 : (a * 1).natAbs < 2 ^ 200 := by simpa using z4
        have n2 : (a * -1).natAbs < 2 ^ 200 := by simpa using z4
        have n3 : (b * 1).natAbs < 2 ^ 200 := by simpa using z5
        have n4 : (b * -1).natAbs < 2 ^ 200 := by simpa using z5
        have go : ∀ (x y : Int), L2.atI [D.int 1, D.int (-1)] (m2 % 2) = some (.int x) → L2.atI [D.int 1, D.int (-1)] (m2 / 2 % 2) = some (.int y) → mulOk a x = true → mulOk b y = true → Int.gcd (a * x) (b * y) = 1 → (a * x).natAbs < 2 ^ 200 → (b * y).natAbs < 2 ^ 200 →
            ∃ (p q : Int), (Int.gcd p q = 1 ∧ p.natAbs < 2 ^ 200 ∧ q.natAbs < 2 ^ 200) ∧ run Γ b_law_right_k01 8 [.int s, .tup [.int a, .int b], .int cell] = outO (exs Γ tail01 [some (.sh (.int s)), some (.sh (.tup [.int a, .int b])), some (.sh (.int cell)), some (.sh (.int m2)), some (.sh (.int p)), some (.sh (.int q)), none, none]) := by
          intro x y i1 i2 o1 o2 gg b1 b2
          rcases e4 with e4 | e4
          · refine ⟨a * x, b * y, ⟨gg, b1, b2⟩, ?_⟩
            unfold b_law_right_k01
            rw [show (.cons (.asg 6 (.call 0 (.cons (.bin .mul (.var 0) (.var 4)) (.cons (.bin .mul (.var 0) (.var 5)) .nil)))) _ : Ss) = tail01 from rfl]
            generalize tail01 = tl
            clear T g1 g2 g3 g4 n1 n2 n3 n4 gg b1 b2 ma1 ma2 mb1 mb2 z3 z4 z5 hc hc2 e2 e3
            walk_at "evh"
          · refine ⟨b * y, a * x, ⟨by rw [Int.gcd_comm]; exact gg, b2, b1⟩, ?_⟩
            unfold b_law_right_k01
            rw [show (.cons (.asg 6 (.call 0 (.cons (.bin .mul (.var 0) (.var 4)) (.cons (.bin .mul (.var 0) (.var 5)) .nil)))) _ : Ss) = tail01 from rfl]
            generalize tail01 = tl
            clear T g1 g2 g3 g4 n1 n2 n3 n4 gg b1 b2 ma1 ma2 mb1 mb2 z3 z4 z5 hc hc2 e2 e3
            walk_at "evh"
        rcases e2 with e2 | e2 <;> rcases e3 with e3 | e3
        · exact go 1 1 (by rw [e2]; rfl) (by rw [e3]; rfl) ma1 mb1 g1 n1 n3
        · exact go 1 (-1) (by rw [e2]; rfl) (by rw [e3]; rfl) ma1 mb2 g2 n1 n4
        · exact go (-1) 1 (by rw [e2]; rfl) (by rw [e3]; rfl) ma2 mb1 g3 n2 n3
        · exact go (-1) (-1) (by rw [e2]; rfl) (by rw [e3]; rfl) ma2 mb2 g4 n2 n4
      obtain ⟨p, q, ⟨a1, a2, a3⟩, e⟩ := head
      rw [e, T p q _ _ _ a1 a2 a3]
      rfl
    · cases h
  · cases h
end
end DL

set_option maxHeartbeats 4000000
namespace DL
local macro_rules | `(tactic| walk_at "ev") => `(tactic| simp only [run_eq, exs_nil, exs_cons, thenS_nx, thenS_rt, ex_asg, asgO_s, ex_unp, unpO_s, ex_par, parO_s, ex_ret, retO_s, ex_retV, retVO_o, retVO_s, ex_iff, iffO_t, iffO_f, ex_whl, ex_frr, forO_s, evI_seq, seqO_nl, seqO_vl, seqO_vt, evI_range1, rng1O_s, evI_range2, rng2O_s, evI_enum, enumO_s, outO_rt, outO_nx, evB_eq,
  ev_var, ev_int, ev_bl, ev_non, ev_bin, ev_neg, ev_cmp, ev_and, ev_or, ev_not, ev_tup, ev_lst, ev_ix, ev_sl, ev_call, ev_bi, ev_isi, isiW_i, isiW_b, isiW_t, isiW_l, isiW_n, ev_isx, isxW_n, ex_tryC, evs_nil, evs_cons, evo_non, evo_som, evd, evb, bin2_s, un1_s, andO_t, andO_f, orO_t, orO_f, appL_s, consO_s, slO_s, cmpW, ixW, negW, notW_s, tupW, lstW,
  varD_0, varD_s, view_nil, view_cons, setR_0, setR_s, bindTg_n, bindTg_t, bindAll, after_i, after_b, after_n, after, lfW, lf, lfL, Wd_v, Wd_n, Wb_v, Wb_n, Bd_s, Bd_o, DL.op_add, DL.op_sub, DL.op_mul, DL.op_fdiv, DL.op_mod, fmod_pos, fdiv_pos, divOk_small, mulOk_small, op_p4, op_p5, op_p6, op_p9, op_p10, op_p18, eqL, eqD, dOkL, dOk, beq_self_eq_true, Bool.and_self, op_p30, op_p60, op_p64, Int.reduceEq, Int.reduceLT, Int.reduceLE, Int.reduceNeg, Int.reduceAdd, Int.reduceSub, Int.reduceMul, Int.reduceToNat, Int.reducePow, Int.reduceMod, Int.reduceDiv, cs0, cs1, cs2, cs3, cs4, cs5, cs6, cs7, cs8, cs9, cs10, cs11, cs12, Nat.reduceSub, cmpD, biW, ixD_t, ixD_l, ixf0, ixf1, lff, slD_l, dBool_s, dInt_s, isTy, isNon,
  List.map_cons, List.map_nil, List.cons_append, List.nil_append, List.append_nil, List.length_cons, List.length_nil, List.getElem?_cons_zero, List.getElem?_cons_succ, List.set_cons_zero, List.set_cons_succ, Option.map_some, Option.map_none, Option.bind_some, Option.bind_none,
  List.replicate, if_true, if_false, Nat.reduceAdd, Nat.reduceSub, Nat.reduceLT, Nat.reduceLeDiff, Bool.false_eq_true, reduceCtorEq, decide_true, decide_false, Bool.not_true, Bool.not_false, Bool.and_true, Bool.true_and, Bool.and_false, Bool.false_and, ne_eq, not_false_eq_true, and_self, and_true, true_and, Nat.reduceEqDiff, Nat.zero_ne_one, Nat.one_ne_zero, sl0, sl1, sl2, sl3, sl4, sl5, sl6, sl7, sl8, sl9, at1_0, at2_0, at2_1, at3_0, at3_1, at3_2, at4_0, at4_1, at4_2, at4_3, at5_0, at5_1, at5_2, at5_3, at5_4, at6_0, at6_1, at6_2, at6_3, at6_4, at6_5])
local macro_rules | `(tactic| walk_at "evh") => `(tactic| simp only [run_eq, exs_nil, exs_cons, thenS_nx, thenS_rt, ex_asg, asgO_s, ex_unp, unpO_s, ex_par, parO_s, ex_ret, retO_s, ex_retV, retVO_o, retVO_s, ex_iff, iffO_t, iffO_f, ex_whl, ex_frr, forO_s, evI_seq, seqO_nl, seqO_vl, seqO_vt, evI_range1, rng1O_s, evI_range2, rng2O_s, evI_enum, enumO_s, outO_rt, outO_nx, evB_eq,
  ev_var, ev_int, ev_bl, ev_non, ev_bin, ev_neg, ev_cmp, ev_and, ev_or, ev_not, ev_tup, ev_lst, ev_ix, ev_sl, ev_call, ev_bi, ev_isi, isiW_i, isiW_b, isiW_t, isiW_l, isiW_n, ev_isx, isxW_n, ex_tryC, evs_nil, evs_cons, evo_non, evo_som, evd, evb, bin2_s, un1_s, andO_t, andO_f, orO_t, orO_f, appL_s, consO_s, slO_s, cmpW, ixW, negW, notW_s, tupW, lstW,
  varD_0, varD_s, view_nil, view_cons, setR_0, setR_s, bindTg_n, bindTg_t, bindAll, after_i, after_b, after_n, after, lfW, lf, lfL, Wd_v, Wd_n, Wb_v, Wb_n, Bd_s, Bd_o, DL.op_add, DL.op_sub, DL.op_mul, DL.op_fdiv, DL.op_mod, fmod_pos, fdiv_pos, divOk_small, mulOk_small, op_p4, op_p5, op_p6, op_p9, op_p10, op_p18, eqL, eqD, dOkL, dOk, beq_self_eq_true, Bool.and_self, op_p30, op_p60, op_p64, Int.reduceEq, Int.reduceLT, Int.reduceLE, Int.reduceNeg, Int.reduceAdd, Int.reduceSub, Int.reduceMul, Int.reduceToNat, Int.reducePow, Int.reduceMod, Int.reduceDiv, cs0, cs1, cs2, cs3, cs4, cs5, cs6, cs7, cs8, cs9, cs10, cs11, cs12, Nat.reduceSub, cmpD, biW, ixD_t, ixD_l, ixf0, ixf1, lff, slD_l, dBool_s, dInt_s, isTy, isNon,
  List.map_cons, List.map_nil, List.cons_append, List.nil_append, List.append_nil, List.length_cons, List.length_nil, List.getElem?_cons_zero, List.getElem?_cons_succ, List.set_cons_zero, List.set_cons_succ, Option.map_some, Option.map_none, Option.bind_some, Option.bind_none,
  List.replicate, if_true, if_false, Nat.reduceAdd, Nat.reduceSub, Nat.reduceLT, Nat.reduceLeDiff, Bool.false_eq_true, reduceCtorEq, decide_true, decide_false, Bool.not_true, Bool.not_false, Bool.and_true, Bool.true_and, Bool.and_false, Bool.false_and, ne_eq, not_false_eq_true, and_self, and_true, true_and, Nat.reduceEqDiff, Nat.zero_ne_one, Nat.one_ne_zero, sl0, sl1, sl2, sl3, sl4, sl5, sl6, sl7, sl8, sl9, at1_0, at2_0, at2_1, at3_0, at3_1, at3_2, at4_0, at4_1, at4_2, at4_3, at5_0, at5_1, at5_2, at5_3, at5_4, at6_0, at6_1, at6_2, at6_3, at6_4, at6_5, *])
open Sf
section
variable {Γ : Nat → List D → Option W}
theorem many_ok {c a b : Int} {k : Nat} (h0 : 1 ≤ a) (h1 : 0 ≤ b) (h2 : b ≤ a) (h3 : a ≤ 1000000000000000000000000000000 * 2 ^ k) (hg : Int.gcd a b = 1) :
    1 ≤ many c a * a + b ∧ 0 ≤ a ∧ a ≤ many c a * a + b ∧ many c a * a + b ≤ 1000000000000000000000000000000 * 2 ^ (k + 1) ∧ Int.gcd (many c a * a + b) a = 1 := by
  have hk : (1 : Int) ≤ 2 ^ k := by
    have := Int.pow_pos (m := k) (show (0 : Int) < 2 by decide)
    omega
  have hk2 : (2 : Int) ^ (k + 1) = 2 * 2 ^ k := by rw [Int.pow_succ, Int.mul_comm]
  have key : 1 ≤ many c a ∧ many c a * a + b ≤ 1000000000000000000000000000000 * 2 ^ (k + 1) := by
    have hm : ∀ d : Int, 0 < d → 1 ≤ 1 + c / 4 % d := fun d hd => by have := Int.emod_nonneg (c / 4) (show d ≠ 0 by omega); omega
    have hm' := hm _ (per_pos c)
    unfold many
    by_cases g : 1000000000000000000000000000000 ≤ (1 + c / 4 % per c) * a
    · rw [if_pos g, hk2]
      omega
    · rw [if_neg g, hk2]
      refine ⟨hm', ?_⟩
      generalize (1 + c / 4 % per c) * a = t at *
      omega
  obtain ⟨k1, k2⟩ := key
  have hma : a ≤ many c a * a := by
    have := Int.mul_le_mul_of_nonneg_right k1 (show 0 ≤ a by omega)
    omega
  refine ⟨by omega, by omega, by omega, k2, ?_⟩
  rw [Int.add_comm, Int.gcd_add_mul_right_left, Int.gcd_comm]
  exact hg
abbrev body01 : Ss := (.cons (.asg 2 (.call 5 (.cons (.var 2) (.cons (.var 3) .nil)))) (.cons (.iff (.not (.call 7 (.cons (.var 1) (.cons (.var 2) (.cons (.var 3) .nil))))) (.cons (.ret (.bl false)) .nil) .nil) .nil))
theorem small_of {k : Nat} {a : Int} (hk : k ≤ 63) (h0 : 0 ≤ a) (h : a ≤ 1000000000000000000000000000000 * 2 ^ k) : a < 2 ^ 200 := by
  have h1 : (2 : Int) ^ k ≤ 2 ^ 63 := by exact_mod_cast (Nat.pow_le_pow_right (by decide) hk : 2 ^ k ≤ 2 ^ 63)
  have e : (2 : Int) ^ 63 = 9223372036854775808 := by decide
  have e2 : (2 : Int) ^ 200 = 1606938044258990275541962092341162602522202993782792835301376 := by decide
  omega
theorem loop01 (h5 : Γ 5 = mLonger) (h7 : Γ 7 = mRight01) (s : Option B) (sh : Int) (hs : 0 ≤ sh) (hs2 : sh < 10000000000) : ∀ (l : List Int) (k : Nat) (a b : Int) (o : Option B), k + l.length ≤ 63 → 1 ≤ a → 0 ≤ b → b ≤ a → a ≤ 1000000000000000000000000000000 * 2 ^ k → Int.gcd a b = 1 →
    ∃ (p o' : Option B), forN (bindTg (.name 3)) (exs Γ body01) (l.map D.int) [s, some (.sh (.int sh)), some (.sh (.tup [.int a, .int b])), o] = some (.nx [s, some (.sh (.int sh)), p, o']) := by
  intro l
  induction l with
  | nil =>
    intro k a b o _ _ _ _ _ _
    exact ⟨some (.sh (.tup [.int a, .int b])), o, by simp only [List.map_nil, forN]⟩
  | cons c l ih =>
    intro k a b o hk h0 h1 h2 h3 hg
    rw [List.length_cons] at hk
    obtain ⟨n1, n2, n3, n4, n5⟩ := many_ok (c := c) h0 h1 h2 h3 hg
    obtain ⟨p, o', hf⟩ := ih (k + 1) (many c a * a + b) a (some (.sh (.int c))) (by omega) n1 n2 n3 n4 n5
    refine ⟨p, o', ?_⟩
    have ba := small_of (by omega) (by omega) h3
    have ba' := small_of (k := k + 1) (by omega) (by omega) n4
    have q5 : mLonger [.tup [.int a, .int b], .int c] = some (.val (.tup [.int (many c a * a + b), .int a])) := if_pos ⟨by omega, ba⟩
    have e2 : (2 : Nat) ^ 200 = 1606938044258990275541962092341162602522202993782792835301376 := by decide
    have e3 : (2 : Int) ^ 200 = 1606938044258990275541962092341162602522202993782792835301376 := by decide
    have q7 : mRight01 [.int sh, .tup [.int (many c a * a + b), .int a], .int c] = some (.val (.bl true)) := if_pos ⟨hs, hs2, n5, by rw [e2]; omega, by rw [e2]; omega⟩
    rw [List.map_cons]
    have ex1 : exs Γ body01 [s, some (.sh (.int sh)), some (.sh (.tup [.int a, .int b])), some (.sh (.int c))] = some (.nx [s, some (.sh (.int sh)), some (.sh (.tup [.int (many c a * a + b), .int a])), some (.sh (.int c))]) := by
      clear hf ih n1 n2 n3 n4 n5 ba ba' hk h0 h1 h2 h3 hg e2 e3
      unfold body01
      walk_at "evh"
    unfold forN
    simp only [bindTg_n, setR_s, setR_0, Option.map_some, Option.bind_some]
    rw [ex1]
    exact hf
theorem law01 (h2 : Γ 2 = mCellAt) (h4 : Γ 4 = mShare) (h5 : Γ 5 = mLonger) (h7 : Γ 7 = mRight01) (ns : List Int) (hn : ns.length ≤ 63) : run Γ b_law_k01 4 [.lst (ns.map D.int)] = some (.val (.bl true)) := by
  obtain ⟨c0, q0⟩ := cell_int (ns := ns) (k := 0)
  obtain ⟨c1, q1⟩ := cell_int (ns := ns) (k := 1)
  rw [show ((0 : Nat) : Int) = 0 from rfl] at q0
  rw [show ((1 : Nat) : Int) = 1 from rfl] at q1
  obtain ⟨s1, s2⟩ := share_nn c0
  have q4 : mShare [.int c0] = some (.val (.int (share c0))) := rfl
  have q7 : mRight01 [.int (share c0), .tup [.int 1, .int 0], .int c1] = some (.val (.bl true)) := if_pos ⟨s1, s2, by decide, by decide, by decide⟩
  obtain ⟨p, o', hf⟩ := loop01 (Γ := Γ) h5 h7 (some (.sh (.lst (ns.map D.int)))) (share c0) s1 s2 ns 0 1 0 none (by omega) (by decide) (by decide) (by decide) (by decide) (by decide)
  have hc : cutD (ns.map D.int) none (some 63) = ns.map D.int := cut63 (by rw [List.length_map]; exact hn)
  have hl : lfL (ns.map D.int) = true := by
    clear hf hc q0 q1 hn
    induction ns with
    | nil => rfl
    | cons n l ih => rw [List.map_cons]; simp only [lfL, lf, ih, Bool.and_self]
  unfold body01 at hf
  clear hn s1 s2
  unfold b_law_k01
  walk_at "evh"
end
end DL

set_option maxHeartbeats 4000000
namespace DL
local macro_rules | `(tactic| walk_at "ev") => `(tactic| simp only [run_eq, exs_nil, exs_cons, thenS_nx, thenS_rt, ex_asg, asgO_s, ex_unp, unpO_s, ex_par, parO_s, ex_ret, retO_s, ex_retV, retVO_o, retVO_s, ex_iff, iffO_t, iffO_f, ex_whl, ex_frr, forO_s, evI_seq, seqO_nl, seqO_vl, seqO_vt, evI_range1, rng1O_s, evI_range2, rng2O_s, evI_enum, enumO_s, outO_rt, outO_nx, evB_eq,
  ev_var, ev_int, ev_bl, ev_non, ev_bin, ev_neg, ev_cmp, ev_and, ev_or, ev_not, ev_tup, ev_lst, ev_ix, ev_sl, ev_call, ev_bi, ev_isi, isiW_i, isiW_b, isiW_t, isiW_l, isiW_n, ev_isx, isxW_n, ex_tryC, evs_nil, evs_cons, evo_non, evo_som, evd, evb, bin2_s, un1_s, andO_t, andO_f, orO_t, orO_f, appL_s, consO_s, slO_s, cmpW, ixW, negW, notW_s, tupW, lstW,
  varD_0, varD_s, view_nil, view_cons, setR_0, setR_s, bindTg_n, bindTg_t, bindAll, after_i, after_b, after_n, after, lfW, lf, lfL, Wd_v, Wd_n, Wb_v, Wb_n, Bd_s, Bd_o, DL.op_add, DL.op_sub, DL.op_mul, DL.op_fdiv, DL.op_mod, fmod_pos, fdiv_pos, divOk_small, mulOk_small, op_p4, op_p5, op_p6, op_p9, op_p10, op_p18, eqL, eqD, dOkL, dOk, beq_self_eq_true, Bool.and_self, op_p30, op_p60, op_p64, Int.reduceEq, Int.reduceLT, Int.reduceLE, Int.reduceNeg, Int.reduceAdd, Int.reduceSub, Int.reduceMul, Int.reduceToNat, Int.reducePow, Int.reduceMod, Int.reduceDiv, cs0, cs1, cs2, cs3, cs4, cs5, cs6, cs7, cs8, cs9, cs10, cs11, cs12, Nat.reduceSub, cmpD, biW, ixD_t, ixD_l, ixf0, ixf1, lff, slD_l, dBool_s, dInt_s, isTy, isNon,
  List.map_cons, List.map_nil, List.cons_append, List.nil_append, List.append_nil, List.length_cons, List.length_nil, List.getElem?_cons_zero, List.getElem?_cons_succ, List.set_cons_zero, List.set_cons_succ, Option.map_some, Option.map_none, Option.bind_some, Option.bind_none,
  List.replicate, if_true, if_false, Nat.reduceAdd, Nat.reduceSub, Nat.reduceLT, Nat.reduceLeDiff, Bool.false_eq_true, reduceCtorEq, decide_true, decide_false, Bool.not_true, Bool.not_false, Bool.and_true, Bool.true_and, Bool.and_false, Bool.false_and, ne_eq, not_false_eq_true, and_self, and_true, true_and, Nat.reduceEqDiff, Nat.zero_ne_one, Nat.one_ne_zero, sl0, sl1, sl2, sl3, sl4, sl5, sl6, sl7, sl8, sl9, at1_0, at2_0, at2_1, at3_0, at3_1, at3_2, at4_0, at4_1, at4_2, at4_3, at5_0, at5_1, at5_2, at5_3, at5_4, at6_0, at6_1, at6_2, at6_3, at6_4, at6_5])
local macro_rules | `(tactic| walk_at "evh") => `(tactic| simp only [run_eq, exs_nil, exs_cons, thenS_nx, thenS_rt, ex_asg, asgO_s, ex_unp, unpO_s, ex_par, parO_s, ex_ret, retO_s, ex_retV, retVO_o, retVO_s, ex_iff, iffO_t, iffO_f, ex_whl, ex_frr, forO_s, evI_seq, seqO_nl, seqO_vl, seqO_vt, evI_range1, rng1O_s, evI_range2, rng2O_s, evI_enum, enumO_s, outO_rt, outO_nx, evB_eq,
  ev_var, ev_int, ev_bl, ev_non, ev_bin, ev_neg, ev_cmp, ev_and, ev_or, ev_not, ev_tup, ev_lst, ev_ix, ev_sl, ev_call, ev_bi, ev_isi, isiW_i, isiW_b, isiW_t, isiW_l, isiW_n, ev_isx, isxW_n, ex_tryC, evs_nil, evs_cons, evo_non, evo_som, evd, evb, bin2_s, un1_s, andO_t, andO_f, orO_t, orO_f, appL_s, consO_s, slO_s, cmpW, ixW, negW, notW_s, tupW, lstW,
  varD_0, varD_s, view_nil, view_cons, setR_0, setR_s, bindTg_n, bindTg_t, bindAll, after_i, after_b, after_n, after, lfW, lf, lfL, Wd_v, Wd_n, Wb_v, Wb_n, Bd_s, Bd_o, DL.op_add, DL.op_sub, DL.op_mul, DL.op_fdiv, DL.op_mod, fmod_pos, fdiv_pos, divOk_small, mulOk_small, op_p4, op_p5, op_p6, op_p9, op_p10, op_p18, eqL, eqD, dOkL, dOk, beq_self_eq_true, Bool.and_self, op_p30, op_p60, op_p64, Int.reduceEq, Int.reduceLT, Int.reduceLE, Int.reduceNeg, Int.reduceAdd, Int.reduceSub, Int.reduceMul, Int.reduceToNat, Int.reducePow, Int.reduceMod, Int.reduceDiv, cs0, cs1, cs2, cs3, cs4, cs5, cs6, cs7, cs8, cs9, cs10, cs11, cs12, Nat.reduceSub, cmpD, biW, ixD_t, ixD_l, ixf0, ixf1, lff, slD_l, dBool_s, dInt_s, isTy, isNon,
  List.map_cons, List.map_nil, List.cons_append, List.nil_append, List.append_nil, List.length_cons, List.length_nil, List.getElem?_cons_zero, List.getElem?_cons_succ, List.set_cons_zero, List.set_cons_succ, Option.map_some, Option.map_none, Option.bind_some, Option.bind_none,
  List.replicate, if_true, if_false, Nat.reduceAdd, Nat.reduceSub, Nat.reduceLT, Nat.reduceLeDiff, Bool.false_eq_true, reduceCtorEq, decide_true, decide_false, Bool.not_true, Bool.not_false, Bool.and_true, Bool.true_and, Bool.and_false, Bool.false_and, ne_eq, not_false_eq_true, and_self, and_true, true_and, Nat.reduceEqDiff, Nat.zero_ne_one, Nat.one_ne_zero, sl0, sl1, sl2, sl3, sl4, sl5, sl6, sl7, sl8, sl9, at1_0, at2_0, at2_1, at3_0, at3_1, at3_2, at4_0, at4_1, at4_2, at4_3, at5_0, at5_1, at5_2, at5_3, at5_4, at6_0, at6_1, at6_2, at6_3, at6_4, at6_5, *])
open Sf
section
variable {Γ : Nat → List D → Option W}
theorem natAbs_den {x : Rat} {n : Nat} (h : Sz n x) : ((x.den : Int)).natAbs < 2 ^ n := by rw [Int.natAbs_natCast]; exact h.b
theorem lt_cross (x y : Rat) : decide (x < y) = decide (x.num * (y.den : Int) < y.num * (x.den : Int)) := by
  rw [Bool.eq_iff_iff]
  simp only [decide_eq_true_eq]
  exact Rat.lt_iff x y
theorem num_zero {y : Rat} : y.num = 0 ↔ y = 0 := Rat.num_eq_zero
theorem ok_over (h1 : Γ 1 = mRatio) : ∀ ds w, ds.length = 2 → mOver ds = some w → run Γ b_over 2 ds = some w := by
  intro ds w _ h
  obtain ⟨x, y, e, hc, hw⟩ := fr2_some h
  subst e; subst hw
  rw [Bool.and_eq_true] at hc
  obtain ⟨sx, sy⟩ := okRR_sz hc.1
  have y0 : y ≠ 0 := of_decide_eq_true hc.2
  have n0 : y.num ≠ 0 := fun z => y0 (num_zero.mp z)
  have m1 : mulOk x.num (y.den : Int) = true := mulOk_of sx.t (natAbs_den sy) (by decide) (by decide)
  have m2 : mulOk (x.den : Int) y.num = true := mulOk_of (natAbs_den sx) sy.t (by decide) (by decide)
  have b0 : (x.den : Int) * y.num ≠ 0 := fun z => by
    rcases Int.mul_eq_zero.mp z with z | z
    · have := den_pos x; omega
    · exact n0 z
  have r : mRatio [.int (x.num * y.den), .int (x.den * y.num)] = some (.val (fr (x / y))) := by
    unfold mRatio
    simp only
    rw [if_pos ⟨b0, by rw [Int.natAbs_mul]; exact Nat.lt_of_lt_of_le (mul_lt (natAbs_den sx) sy.t) (pow_mono (by decide))⟩, div_rat y0]
  clear sx sy hc b0 n0 y0 h
  unfold b_over
  walk_at "evh"
def mOverR : List D → Option W := fr2 (fun x y => okRR x y && decide (y = 0)) fun _ _ => .exc "NoNumber"
theorem okr_over (hr : Γ 1001 = mRatioR) : ∀ ds w, ds.length = 2 → mOverR ds = some w → runP Γ p_over 2 ds = some w := by
  intro ds w _ h
  obtain ⟨x, y, e, hc, hw⟩ := fr2_some h
  subst e; subst hw
  rw [Bool.and_eq_true] at hc
  obtain ⟨sx, sy⟩ := okRR_sz hc.1
  have y0 : y = 0 := of_decide_eq_true hc.2
  have n0 : y.num = 0 := num_zero.mpr y0
  have m1 : mulOk x.num (y.den : Int) = true := mulOk_of sx.t (natAbs_den sy) (by decide) (by decide)
  have m2 : mulOk (x.den : Int) 0 = true := mulOk_of (natAbs_den sx) (n := 1) (by decide) (by decide) (by decide)
  have r : mRatioR [.int (x.num * y.den), .int 0] = some (.val (.exc "NoNumber")) := rfl
  have z0 : (x.den : Int) * 0 = 0 := Int.mul_zero _
  clear sx sy hc y0 h
  unfold runP p_over
  walk_at "evh"
theorem ok_below : ∀ ds w, ds.length = 2 → mBelow ds = some w → run Γ b_below 2 ds = some w := by
  intro ds w _ h
  obtain ⟨x, y, e, hc, hw⟩ := fr2_some h
  subst e; subst hw
  obtain ⟨sx, sy⟩ := okRR_sz hc
  have m1 : mulOk x.num (y.den : Int) = true := mulOk_of sx.t (natAbs_den sy) (by decide) (by decide)
  have m2 : mulOk y.num (x.den : Int) = true := mulOk_of sy.t (natAbs_den sx) (by decide) (by decide)
  rw [lt_cross]
  clear sx sy hc h
  unfold b_below
  walk_at "evh"
def mRefused03 : List D → Option W := fr2 (fun x y => okRR x y && decide (y = 0)) fun _ _ => .bl true
theorem frz4 {a b c d : Option B} : frz [a, b, c, d] = [a.map fun x => .sh x.d, b.map fun x => .sh x.d, c.map fun x => .sh x.d, d.map fun x => .sh x.d] := rfl
theorem ok_law_refused_k03 (hr : Γ 1020 = mOverR) : ∀ ds w, ds.length = 2 → mRefused03 ds = some w → run Γ b_law_refused_k03 4 ds = some w := by
  intro ds w _ h
  obtain ⟨x, y, e, hc, hw⟩ := fr2_some h
  subst e; subst hw
  have q : Γ 1020 [fr x, fr y] = some (.val (.exc "NoNumber")) := by rw [hr]; exact fr2_of hc
  have hx : ("NoNumber" : PySem.Str) ∈ xNames := by decide
  unfold b_law_refused_k03
  walk_at "ev"
  simp only [tryO_x q, hx, frz4, Option.map_some, Option.map_none, Bd_s]
  walk_at "ev"
  simp only [ix1, ix2, ix3]
  walk_at "ev"
  simp only [ix1, ix2, ix3]
  walk_at "ev"
def mRight03 : List D → Option W := fr2 ok2 fun _ _ => .bl true
theorem ok_law_right_k03 (h17 : Γ 17 = mWorth) (h20 : Γ 20 = mOver) (h21 : Γ 21 = mBelow) (h22 : Γ 22 = mRefused03) : ∀ ds w, ds.length = 2 → mRight03 ds = some w → run Γ b_law_right_k03 3 ds = some w := by
  intro ds w _ h
  obtain ⟨x, y, e, hc, hw⟩ := fr2_some h
  subst e; subst hw
  obtain ⟨sx, sy⟩ := ok2_sz hc
  have rr := okRR_of sx sy (by decide) (by decide)
  have q21 : mBelow [fr x, fr y] = some (.val (.bl (decide (x.num * (y.den : Int) < y.num * (x.den : Int))))) := by
    rw [← lt_cross]; exact fr2_of rr
  have m1 : mulOk x.num (y.den : Int) = true := mulOk_of sx.t (natAbs_den sy) (by decide) (by decide)
  have m2 : mulOk y.num (x.den : Int) = true := mulOk_of sy.t (natAbs_den sx) (by decide) (by decide)
  have m3 : mulOk (x.den : Int) y.num = true := mulOk_of (natAbs_den sx) sy.t (by decide) (by decide)
  unfold b_law_right_k03
  by_cases n0 : y.num = 0
  · have q22 : mRefused03 [fr x, fr y] = some (.val (.bl true)) := fr2_of (by rw [Bool.and_eq_true]; exact ⟨rr, decide_eq_true (num_zero.mp n0)⟩)
    clear sx sy hc h rr
    walk_at "ev"
    simp only [h21, q21]
    walk_at "ev"
    simp only [m1, m2]
    walk_at "ev"
    walk_at "evh"
  · have y0 : y ≠ 0 := fun z => n0 (num_zero.mpr z)
    have q20 : mOver [fr x, fr y] = some (.val (fr (x / y))) := fr2_of (by rw [Bool.and_eq_true]; exact ⟨rr, decide_eq_true y0⟩)
    have b0 : (x.den : Int) * y.num ≠ 0 := fun z => by
      rcases Int.mul_eq_zero.mp z with z | z
      · have := den_pos x; omega
      · exact n0 z
    have q17 : mWorth [fr (x / y), .int (x.num * y.den), .int (x.den * y.num)] = some (.val (.bl true)) := by
      rw [mWorth_fr (n := 4000) (okR_of (Sz.div sx sy y0) (by decide)) (nat_mul_lt sx.t (natAbs_den sy)) (nat_mul_lt (natAbs_den sx) sy.t) (by decide), decide_eq_true]
      exact (rat_eq b0).mp (div_rat y0)
    clear sx sy hc h rr b0 y0
    walk_at "ev"
    simp only [h21, q21]
    walk_at "evh"
end
end DL

set_option maxHeartbeats 4000000
namespace DL
local macro_rules | `(tactic| walk_at "ev") => `(tactic| simp only [run_eq, exs_nil, exs_cons, thenS_nx, thenS_rt, ex_asg, asgO_s, ex_unp, unpO_s, ex_par, parO_s, ex_ret, retO_s, ex_retV, retVO_o, retVO_s, ex_iff, iffO_t, iffO_f, ex_whl, ex_frr, forO_s, evI_seq, seqO_nl, seqO_vl, seqO_vt, evI_range1, rng1O_s, evI_range2, rng2O_s, evI_enum, enumO_s, outO_rt, outO_nx, evB_eq,
  ev_var, ev_int, ev_bl, ev_non, ev_bin, ev_neg, ev_cmp, ev_and, ev_or, ev_not, ev_tup, ev_lst, ev_ix, ev_sl, ev_call, ev_bi, ev_isi, isiW_i, isiW_b, isiW_t, isiW_l, isiW_n, ev_isx, isxW_n, ex_tryC, evs_nil, evs_cons, evo_non, evo_som, evd, evb, bin2_s, un1_s, andO_t, andO_f, orO_t, orO_f, appL_s, consO_s, slO_s, cmpW, ixW, negW, notW_s, tupW, lstW,
  varD_0, varD_s, view_nil, view_cons, setR_0, setR_s, bindTg_n, bindTg_t, bindAll, after_i, after_b, after_n, after, lfW, lf, lfL, Wd_v, Wd_n, Wb_v, Wb_n, Bd_s, Bd_o, DL.op_add, DL.op_sub, DL.op_mul, DL.op_fdiv, DL.op_mod, fmod_pos, fdiv_pos, divOk_small, mulOk_small, op_p4, op_p5, op_p6, op_p9, op_p10, op_p18, eqL, eqD, dOkL, dOk, beq_self_eq_true, Bool.and_self, op_p30, op_p60, op_p64, Int.reduceEq, Int.reduceLT, Int.reduceLE, Int.reduceNeg, Int.reduceAdd, Int.reduceSub, Int.reduceMul, Int.reduceToNat, Int.reducePow, Int.reduceMod, Int.reduceDiv, cs0, cs1, cs2, cs3, cs4, cs5, cs6, cs7, cs8, cs9, cs10, cs11, cs12, Nat.reduceSub, cmpD, biW, ixD_t, ixD_l, ixf0, ixf1, lff, slD_l, dBool_s, dInt_s, isTy, isNon,
  List.map_cons, List.map_nil, List.cons_append, List.nil_append, List.append_nil, List.length_cons, List.length_nil, List.getElem?_cons_zero, List.getElem?_cons_succ, List.set_cons_zero, List.set_cons_succ, Option.map_some, Option.map_none, Option.bind_some, Option.bind_none,
  List.replicate, if_true, if_false, Nat.reduceAdd, Nat.reduceSub, Nat.reduceLT, Nat.reduceLeDiff, Bool.false_eq_true, reduceCtorEq, decide_true, decide_false, Bool.not_true, Bool.not_false, Bool.and_true, Bool.true_and, Bool.and_false, Bool.false_and, ne_eq, not_false_eq_true, and_self, and_true, true_and, Nat.reduceEqDiff, Nat.zero_ne_one, Nat.one_ne_zero, sl0, sl1, sl2, sl3, sl4, sl5, sl6, sl7, sl8, sl9, at1_0, at2_0, at2_1, at3_0, at3_1, at3_2, at4_0, at4_1, at4_2, at4_3, at5_0, at5_1, at5_2, at5_3, at5_4, at6_0, at6_1, at6_2, at6_3, at6_4, at6_5])
local macro_rules | `(tactic| walk_at "evh") => `(tactic| simp only [run_eq, exs_nil, exs_cons, thenS_nx, thenS_rt, ex_asg, asgO_s, ex_unp, unpO_s, ex_par, parO_s, ex_ret, retO_s, ex_retV, retVO_o, retVO_s, ex_iff, iffO_t, iffO_f, ex_whl, ex_frr, forO_s, evI_seq, seqO_nl, seqO_vl, seqO_vt, evI_range1, rng1O_s, evI_range2, rng2O_s, evI_enum, enumO_s, outO_rt, outO_nx, evB_eq,
  ev_var, ev_int, ev_bl, ev_non, ev_bin, ev_neg, ev_cmp, ev_and, ev_or, ev_not, ev_tup, ev_lst, ev_ix, ev_sl, ev_call, ev_bi, ev_isi, isiW_i, isiW_b, isiW_t, isiW_l, isiW_n, ev_isx, isxW_n, ex_tryC, evs_nil, evs_cons, evo_non, evo_som, evd, evb, bin2_s, un1_s, andO_t, andO_f, orO_t, orO_f, appL_s, consO_s, slO_s, cmpW, ixW, negW, notW_s, tupW, lstW,
  varD_0, varD_s, view_nil, view_cons, setR_0, setR_s, bindTg_n, bindTg_t, bindAll, after_i, after_b, after_n, after, lfW, lf, lfL, Wd_v, Wd_n, Wb_v, Wb_n, Bd_s, Bd_o, DL.op_add, DL.op_sub, DL.op_mul, DL.op_fdiv, DL.op_mod, fmod_pos, fdiv_pos, divOk_small, mulOk_small, op_p4, op_p5, op_p6, op_p9, op_p10, op_p18, eqL, eqD, dOkL, dOk, beq_self_eq_true, Bool.and_self, op_p30, op_p60, op_p64, Int.reduceEq, Int.reduceLT, Int.reduceLE, Int.reduceNeg, Int.reduceAdd, Int.reduceSub, Int.reduceMul, Int.reduceToNat, Int.reducePow, Int.reduceMod, Int.reduceDiv, cs0, cs1, cs2, cs3, cs4, cs5, cs6, cs7, cs8, cs9, cs10, cs11, cs12, Nat.reduceSub, cmpD, biW, ixD_t, ixD_l, ixf0, ixf1, lff, slD_l, dBool_s, dInt_s, isTy, isNon,
  List.map_cons, List.map_nil, List.cons_append, List.nil_append, List.append_nil, List.length_cons, List.length_nil, List.getElem?_cons_zero, List.getElem?_cons_succ, List.set_cons_zero, List.set_cons_succ, Option.map_some, Option.map_none, Option.bind_some, Option.bind_none,
  List.replicate, if_true, if_false, Nat.reduceAdd, Nat.reduceSub, Nat.reduceLT, Nat.reduceLeDiff, Bool.false_eq_true, reduceCtorEq, decide_true, decide_false, Bool.not_true, Bool.not_false, Bool.and_true, Bool.true_and, Bool.and_false, Bool.false_and, ne_eq, not_false_eq_true, and_self, and_true, true_and, Nat.reduceEqDiff, Nat.zero_ne_one, Nat.one_ne_zero, sl0, sl1, sl2, sl3, sl4, sl5, sl6, sl7, sl8, sl9, at1_0, at2_0, at2_1, at3_0, at3_1, at3_2, at4_0, at4_1, at4_2, at4_3, at5_0, at5_1, at5_2, at5_3, at5_4, at6_0, at6_1, at6_2, at6_3, at6_4, at6_5, *])
open Sf
section
variable {Γ : Nat → List D → Option W}
abbrev body03 : Ss := (.cons (.asg 4 (.call 15 (.cons (.var 3) (.cons (.var 2) .nil)))) (.cons (.iff (.cmp .eq (.bin .mod (.var 3) (.int 7)) (.int 1)) (.cons (.asg 4 (.tup (.cons (.int 0) (.cons (.int 1) .nil)))) .nil) .nil) (.cons (.iff (.or (.not (.call 23 (.cons (.var 1) (.cons (.var 4) .nil)))) (.not (.call 23 (.cons (.var 4) (.cons (.var 1) .nil))))) (.cons (.ret (.bl false)) .nil) .nil) (.cons (.asg 1 (.var 4)) .nil))))
theorem fr0 : D.tup [.int 0, .int 1] = fr 0 := rfl
theorem sz0 : Sz 40 (0 : Rat) := ⟨by decide, by decide⟩
theorem loop03 (h15 : Γ 15 = mFrBy) (h23 : Γ 23 = mRight03) (s o : Option B) : ∀ (l : List Int) (k : Nat) (x : Rat) (a b c : Option B), k + l.length ≤ 63 → Sz 40 x →
    ∃ (x' : Rat) (a' b' c' : Option B), forN (bindTg (.tup [2, 3])) (exs Γ body03) ((l.zipIdx k).map fun p => D.tup [.int (p.2 : Int), .int p.1]) [s, some (.sh (fr x)), a, b, c, o] = some (.nx [s, some (.sh (fr x')), a', b', c', o]) := by
  intro l
  induction l with
  | nil =>
    intro k x a b c _ _
    exact ⟨x, a, b, c, by simp only [List.zipIdx_nil, List.map_nil, forN]⟩
  | cons cell l ih =>
    intro k x a b c hk hx
    rw [List.length_cons] at hk
    have sU : Sz 40 (by02 cell k) := by
      obtain ⟨_, _, _, _, sU⟩ := by02_ok (cell := cell) (k := (k : Int)) (by omega) (by omega)
      exact sU
    have q15 : mFrBy [.int cell, .int (k : Int)] = some (.val (fr (by02 cell k))) := if_pos (by omega)
    by_cases z : cell % 7 = 1
    · obtain ⟨x', a', b', c', hf⟩ := ih (k + 1) 0 (some (.sh (.int (k : Int)))) (some (.sh (.int cell))) (some (.sh (fr 0))) (by omega) sz0
      refine ⟨x', a', b', c', ?_⟩
      have q1 : mRight03 [fr x, fr 0] = some (.val (.bl true)) := fr2_of (ok2_of hx sz0 (by decide) (by decide))
      have q2 : mRight03 [fr 0, fr x] = some (.val (.bl true)) := fr2_of (ok2_of sz0 hx (by decide) (by decide))
      have ex1 : exs Γ body03 [s, some (.sh (fr x)), some (.sh (.int (k : Int))), some (.sh (.int cell)), c, o] = some (.nx [s, some (.sh (fr 0)), some (.sh (.int (k : Int))), some (.sh (.int cell)), some (.sh (fr 0)), o]) := by
        have e0 := fr0
        clear hf ih sU hk hx
        unfold body03
        walk_at "evh"
      rw [List.zipIdx_cons, List.map_cons]
      unfold forN
      simp only [bindTg_t, bindAll, setR_s, setR_0, Option.map_some, Option.bind_some]
      rw [ex1]
      exact hf
    · obtain ⟨x', a', b', c', hf⟩ := ih (k + 1) (by02 cell k) (some (.sh (.int (k : Int)))) (some (.sh (.int cell))) (some (.sh (fr (by02 cell k)))) (by omega) sU
      refine ⟨x', a', b', c', ?_⟩
      have q1 : mRight03 [fr x, fr (by02 cell k)] = some (.val (.bl true)) := fr2_of (ok2_of hx sU (by decide) (by decide))
      have q2 : mRight03 [fr (by02 cell k), fr x] = some (.val (.bl true)) := fr2_of (ok2_of sU hx (by decide) (by decide))
      have ex1 : exs Γ body03 [s, some (.sh (fr x)), some (.sh (.int (k : Int))), some (.sh (.int cell)), c, o] = some (.nx [s, some (.sh (fr (by02 cell k))), some (.sh (.int (k : Int))), some (.sh (.int cell)), some (.sh (fr (by02 cell k))), o]) := by
        clear hf ih sU hk hx
        unfold body03
        walk_at "evh"
      rw [List.zipIdx_cons, List.map_cons]
      unfold forN
      simp only [bindTg_t, bindAll, setR_s, setR_0, Option.map_some, Option.bind_some]
      rw [ex1]
      exact hf
theorem law03 (h2 : Γ 2 = mCellAt) (h13 : Γ 13 = mRatio) (h15 : Γ 15 = mFrBy) (h16 : Γ 16 = mGreat) (h22 : Γ 22 = mRefused03) (h23 : Γ 23 = mRight03) (ns : List Int) (hn : ns.length ≤ 63) : run Γ b_law_k03 6 [.lst (ns.map D.int)] = some (.val (.bl true)) := by
  obtain ⟨c0, q0⟩ := cell_int (ns := ns) (k := 0)
  obtain ⟨c1, q1⟩ := cell_int (ns := ns) (k := 1)
  obtain ⟨c2, q2⟩ := cell_int (ns := ns) (k := 2)
  obtain ⟨c3, q3⟩ := cell_int (ns := ns) (k := 3)
  obtain ⟨c4, q4⟩ := cell_int (ns := ns) (k := 4)
  rw [show ((0 : Nat) : Int) = 0 from rfl] at q0
  rw [show ((1 : Nat) : Int) = 1 from rfl] at q1
  rw [show ((2 : Nat) : Int) = 2 from rfl] at q2
  rw [show ((3 : Nat) : Int) = 3 from rfl] at q3
  rw [show ((4 : Nat) : Int) = 4 from rfl] at q4
  obtain ⟨x, a, b, c, hf⟩ := loop03 (Γ := Γ) h15 h23 (some (.sh (.lst (ns.map D.int)))) none ns 0 0 none none none (by omega) sz0
  have hc : cutD (ns.map D.int) none (some 63) = ns.map D.int := cut63 (by rw [List.length_map]; exact hn)
  have g1 : ∀ a b, mGreat [.int a, .int b] = some (.val (fr (great a b))) := fun _ _ => rfl
  have s1 := great_sz c0 c1
  have e0 := fr0
  have hfz : frz [some (B.sh (.lst (ns.map D.int))), some (B.sh (fr 0)), none, none, none, none] = [some (B.sh (.lst (ns.map D.int))), some (B.sh (fr 0)), none, none, none, none] := rfl
  have hen := enum_ints ns
  have r22 : mRefused03 [fr (great c0 c1), fr 0] = some (.val (.bl true)) := fr2_of (by
    rw [Bool.and_eq_true]; exact ⟨okRR_of s1 sz0 (by decide) (by decide), by decide⟩)
  unfold body03 at hf
  clear hn
  have r : ∀ y, Sz 1000 y → mRight03 [fr (great c0 c1), fr y] = some (.val (.bl true)) ∧ mRight03 [fr y, fr (great c0 c1)] = some (.val (.bl true)) := fun y hy =>
    ⟨fr2_of (ok2_of s1 hy (by decide) (by decide)), fr2_of (ok2_of hy s1 (by decide) (by decide))⟩
  have m3 : c4 % 3 = 0 ∨ c4 % 3 = 1 ∨ c4 % 3 = 2 := by omega
  unfold b_law_k03
  rcases m3 with m3 | m3 | m3
  · obtain ⟨r1, r2⟩ := r (great c2 c3) ((great_sz c2 c3).mono (by decide))
    clear r s1
    walk_at "evh"
  · obtain ⟨r1, r2⟩ := r (great c0 c1) ((great_sz c0 c1).mono (by decide))
    clear r s1
    walk_at "evh"
  · have dp := den_pos (great c0 c1)
    have hd : ((great c0 c1).den : Int) ≠ 0 := by omega
    have q13 : mRatio [.int ((great c0 c1).num + 1), .int ((great c0 c1).den : Int)] = some (.val (fr (Rat.divInt ((great c0 c1).num + 1) ((great c0 c1).den : Int)))) := by
      unfold mRatio
      simp only
      rw [if_pos ⟨hd, Nat.lt_of_lt_of_le (natAbs_den s1) (pow_mono (by decide))⟩]
    have sy : Sz 1000 (Rat.divInt ((great c0 c1).num + 1) ((great c0 c1).den : Int)) := sz_low hd (by
      have t := s1.t
      have p : (2 : Nat) ^ 210 + 1 ≤ 2 ^ 1000 := by decide +kernel
      omega) (Nat.lt_of_lt_of_le (natAbs_den s1) (pow_mono (by decide)))
    obtain ⟨r1, r2⟩ := r _ sy
    clear r s1 sy dp hd
    walk_at "evh"
end
end DL

namespace LW
open DL
noncomputable def Γ : Nat → List D → Option W
  | 0 => mDivisor
  | 1 => mRatio
  | 2 => mCellAt
  | 3 => mWhole
  | 12 => mDivisor
  | 13 => mRatio
  | 14 => mIsFr
  | 15 => mFrBy
  | 16 => mGreat
  | 17 => mWorth
  | 20 => mOver
  | 21 => mBelow
  | 22 => mRefused03
  | 23 => mRight03
  | 1001 => mRatioR
  | 1020 => mOverR
  | _ => fun _ => none
theorem ok_law_divisor : ∀ ds w, ds.length = 2 → Γ 12 ds = some w → run Γ b_law_divisor 2 ds = some w := by apply DL.ok_law_divisor <;> rfl
theorem ok_law_lowest : ∀ ds w, ds.length = 2 → Γ 13 ds = some w → run Γ b_law_lowest 3 ds = some w := by apply DL.ok_law_lowest <;> rfl
theorem ok_law_fraction_by : ∀ ds w, ds.length = 2 → Γ 15 ds = some w → run Γ b_law_fraction_by 4 ds = some w := by apply DL.ok_law_fraction_by <;> rfl
theorem ok_below : ∀ ds w, ds.length = 2 → Γ 21 ds = some w → run Γ b_below 2 ds = some w := by apply DL.ok_below <;> rfl
theorem ok_divisor : ∀ ds w, ds.length = 2 → Γ 0 ds = some w → run Γ b_divisor 5 ds = some w := by apply DL.ok_divisor <;> rfl
theorem ok_ratio : ∀ ds w, ds.length = 2 → Γ 1 ds = some w → run Γ b_ratio 3 ds = some w := by apply DL.ok_ratio <;> rfl
theorem ok_over : ∀ ds w, ds.length = 2 → Γ 20 ds = some w → run Γ b_over 2 ds = some w := by apply DL.ok_over <;> rfl
theorem okr_ratio : ∀ ds w, ds.length = 2 → Γ 1001 ds = some w → runR Γ r_ratio 3 ds = some w := by apply DL.okr_ratio <;> rfl
theorem okr_over : ∀ ds w, ds.length = 2 → Γ 1020 ds = some w → runP Γ p_over 2 ds = some w := by apply DL.okr_over <;> rfl
theorem ok_law_refused_k03 : ∀ ds w, ds.length = 2 → Γ 22 ds = some w → run Γ b_law_refused_k03 4 ds = some w := by apply DL.ok_law_refused_k03 <;> rfl
theorem ok_law_whole : ∀ ds w, ds.length = 1 → Γ 3 ds = some w → run Γ b_law_whole 1 ds = some w := by apply DL.ok_law_whole <;> rfl
theorem ok_law_is_fraction : ∀ ds w, ds.length = 1 → Γ 14 ds = some w → run Γ b_law_is_fraction 1 ds = some w := by apply DL.ok_law_is_fraction <;> rfl
theorem ok_law_worth : ∀ ds w, ds.length = 3 → Γ 17 ds = some w → run Γ b_law_worth 3 ds = some w := by apply DL.ok_law_worth <;> rfl
theorem ok_law_right_k03 : ∀ ds w, ds.length = 2 → Γ 23 ds = some w → run Γ b_law_right_k03 3 ds = some w := by apply DL.ok_law_right_k03 <;> rfl
theorem ok_law_great : ∀ ds w, ds.length = 2 → Γ 16 ds = some w → run Γ b_law_great 3 ds = some w := by apply DL.ok_law_great <;> rfl
theorem ok_law_cell_at : ∀ ds w, ds.length = 2 → Γ 2 ds = some w → run Γ b_law_cell_at 2 ds = some w := by apply DL.ok_law_cell_at <;> rfl
theorem law_true : ∀ ns : List Int, ns.length ≤ 63 → run Γ b_law_k03 6 [.lst (ns.map D.int)] = some (.val (.bl true)) := by
  intro ns hn
  apply DL.law03 <;> first | rfl | exact hn
end LW
namespace LW
open PySem L2 DL
def top (i : Nat) : Stmt := PySem.Challenge.pw_snugfit_k03_quotients_and_order.main.body.getD i (.Pass ⟨0, 0, 0, 0⟩)
theorem sc_law_divisor : FnScope ["_law_one", "_law_other"] ["_law_one", "_law_other"] (defScope (top 13)) := ⟨rfl, rfl, rfl, by decide +kernel, rfl, by decide +kernel, by decide +kernel⟩
theorem bd_law_divisor : Bnd "_law_divisor" (top 13) ["_law_one", "_law_other"] := fun _ _ _ _ _ _ us hl => match us, hl with | [_, _], _ => rfl
theorem sc_law_lowest : FnScope ["_law_top", "_law_bottom", "_law_by"] ["_law_top", "_law_bottom"] (defScope (top 14)) := ⟨rfl, rfl, rfl, by decide +kernel, rfl, by decide +kernel, by decide +kernel⟩
theorem bd_law_lowest : Bnd "_law_lowest" (top 14) ["_law_top", "_law_bottom"] := fun _ _ _ _ _ _ us hl => match us, hl with | [_, _], _ => rfl
theorem sc_law_fraction_by : FnScope ["_law_cell", "_law_k", "_law_number", "_law_top"] ["_law_cell", "_law_k"] (defScope (top 16)) := ⟨rfl, rfl, rfl, by decide +kernel, rfl, by decide +kernel, by decide +kernel⟩
theorem bd_law_fraction_by : Bnd "_law_fraction_by" (top 16) ["_law_cell", "_law_k"] := fun _ _ _ _ _ _ us hl => match us, hl with | [_, _], _ => rfl
theorem sc_below : FnScope ["one", "other"] ["one", "other"] (defScope (top 9)) := ⟨rfl, rfl, rfl, by decide +kernel, rfl, by decide +kernel, by decide +kernel⟩
theorem bd_below : Bnd "below" (top 9) ["one", "other"] := fun _ _ _ _ _ _ us hl => match us, hl with | [_, _], _ => rfl
theorem sc_divisor : FnScope ["one", "other", "great", "small", "rest"] ["one", "other"] (defScope (top 6)) := ⟨rfl, rfl, rfl, by decide +kernel, rfl, by decide +kernel, by decide +kernel⟩
theorem bd_divisor : Bnd "divisor" (top 6) ["one", "other"] := fun _ _ _ _ _ _ us hl => match us, hl with | [_, _], _ => rfl
theorem sc_ratio : FnScope ["top", "bottom", "shared"] ["top", "bottom"] (defScope (top 7)) := ⟨rfl, rfl, rfl, by decide +kernel, rfl, by decide +kernel, by decide +kernel⟩
theorem bd_ratio : Bnd "ratio" (top 7) ["top", "bottom"] := fun _ _ _ _ _ _ us hl => match us, hl with | [_, _], _ => rfl
theorem sc_over : FnScope ["one", "other"] ["one", "other"] (defScope (top 8)) := ⟨rfl, rfl, rfl, by decide +kernel, rfl, by decide +kernel, by decide +kernel⟩
theorem bd_over : Bnd "over" (top 8) ["one", "other"] := fun _ _ _ _ _ _ us hl => match us, hl with | [_, _], _ => rfl
theorem sc_law_refused_k03 : FnScope ["_law_one", "_law_other", "_law_caught", "e"] ["_law_one", "_law_other"] (defScope (top 19)) := ⟨rfl, rfl, rfl, by decide +kernel, rfl, by decide +kernel, by decide +kernel⟩
theorem bd_law_refused_k03 : Bnd "_law_refused" (top 19) ["_law_one", "_law_other"] := fun _ _ _ _ _ _ us hl => match us, hl with | [_, _], _ => rfl
theorem sc_law_whole : FnScope ["_law_found"] ["_law_found"] (defScope (top 12)) := ⟨rfl, rfl, rfl, by decide +kernel, rfl, by decide +kernel, by decide +kernel⟩
theorem bd_law_whole : Bnd "_law_whole" (top 12) ["_law_found"] := fun _ _ _ _ _ _ us hl => match us, hl with | [_], _ => rfl
theorem sc_law_is_fraction : FnScope ["_law_found"] ["_law_found"] (defScope (top 15)) := ⟨rfl, rfl, rfl, by decide +kernel, rfl, by decide +kernel, by decide +kernel⟩
theorem bd_law_is_fraction : Bnd "_law_is_fraction" (top 15) ["_law_found"] := fun _ _ _ _ _ _ us hl => match us, hl with | [_], _ => rfl
theorem sc_law_worth : FnScope ["_law_found", "_law_top", "_law_bottom"] ["_law_found", "_law_top", "_law_bottom"] (defScope (top 18)) := ⟨rfl, rfl, rfl, by decide +kernel, rfl, by decide +kernel, by decide +kernel⟩
theorem bd_law_worth : Bnd "_law_worth" (top 18) ["_law_found", "_law_top", "_law_bottom"] := fun _ _ _ _ _ _ us hl => match us, hl with | [_, _, _], _ => rfl
theorem sc_law_right_k03 : FnScope ["_law_one", "_law_other", "_law_less"] ["_law_one", "_law_other"] (defScope (top 20)) := ⟨rfl, rfl, rfl, by decide +kernel, rfl, by decide +kernel, by decide +kernel⟩
theorem bd_law_right_k03 : Bnd "_law_right" (top 20) ["_law_one", "_law_other"] := fun _ _ _ _ _ _ us hl => match us, hl with | [_, _], _ => rfl
theorem sc_law_great : FnScope ["_law_one", "_law_other", "_law_top"] ["_law_one", "_law_other"] (defScope (top 17)) := ⟨rfl, rfl, rfl, by decide +kernel, rfl, by decide +kernel, by decide +kernel⟩
theorem bd_law_great : Bnd "_law_great" (top 17) ["_law_one", "_law_other"] := fun _ _ _ _ _ _ us hl => match us, hl with | [_, _], _ => rfl
theorem sc_law_cell_at : FnScope ["_law_script", "_law_k"] ["_law_script", "_law_k"] (defScope (top 11)) := ⟨rfl, rfl, rfl, by decide +kernel, rfl, by decide +kernel, by decide +kernel⟩
theorem bd_law_cell_at : Bnd "_law_cell_at" (top 11) ["_law_script", "_law_k"] := fun _ _ _ _ _ _ us hl => match us, hl with | [_, _], _ => rfl
theorem sc_law_k03 : FnScope ["_law_script", "_law_last", "_law_k", "_law_cell", "_law_one", "_law_other"] ["_law_script"] (defScope (top 21)) := ⟨rfl, rfl, rfl, by decide +kernel, rfl, by decide +kernel, by decide +kernel⟩
theorem bd_law_k03 : Bnd "law" (top 21) ["_law_script"] := fun _ _ _ _ _ _ us hl => match us, hl with | [_], _ => rfl
theorem tr_law_divisor : trSs 40 ⟨["_law_one", "_law_other"], defScope (top 13), [], [], false⟩ (defBody (top 13)) = some b_law_divisor := by kernel_rfl
theorem tr_law_lowest : trSs 40 ⟨["_law_top", "_law_bottom", "_law_by"], defScope (top 14), [("_law_divisor", 12, 2)], [], false⟩ (defBody (top 14)) = some b_law_lowest := by kernel_rfl
theorem tr_law_fraction_by : trSs 40 ⟨["_law_cell", "_law_k", "_law_number", "_law_top"], defScope (top 16), [("_law_lowest", 13, 2)], [], false⟩ (defBody (top 16)) = some b_law_fraction_by := by kernel_rfl
theorem tr_below : trSs 40 ⟨["one", "other"], defScope (top 9), [], [], false⟩ (defBody (top 9)) = some b_below := by kernel_rfl
theorem tr_divisor : trSs 40 ⟨["one", "other", "great", "small", "rest"], defScope (top 6), [], [], false⟩ (defBody (top 6)) = some b_divisor := by kernel_rfl
theorem tr_ratio : trSs 40 ⟨["top", "bottom", "shared"], defScope (top 7), [("divisor", 0, 2)], [], false⟩ (defBody (top 7)) = some b_ratio := by kernel_rfl
theorem tr_over : trSs 40 ⟨["one", "other"], defScope (top 8), [("ratio", 1, 2)], [], false⟩ (defBody (top 8)) = some b_over := by kernel_rfl
theorem trr_ratio : trR 40 ⟨["top", "bottom", "shared"], defScope (top 7), [], [], true⟩ (defBody (top 7)) = some r_ratio := by kernel_rfl
theorem trr_over : trP 40 ⟨["one", "other"], defScope (top 8), [], [("ratio", 1001, 2)], false⟩ (defBody (top 8)) = some p_over := by kernel_rfl
theorem tr_law_refused_k03 : trSs 40 ⟨["_law_one", "_law_other", "_law_caught", "e"], defScope (top 19), [("over", 20, 2)], [("over", 1020, 2)], true⟩ (defBody (top 19)) = some b_law_refused_k03 := by kernel_rfl
theorem tr_law_whole : trSs 40 ⟨["_law_found"], defScope (top 12), [], [], false⟩ (defBody (top 12)) = some b_law_whole := by kernel_rfl
theorem tr_law_is_fraction : trSs 40 ⟨["_law_found"], defScope (top 15), [("_law_whole", 3, 1), ("_law_divisor", 12, 2)], [], false⟩ (defBody (top 15)) = some b_law_is_fraction := by kernel_rfl
theorem tr_law_worth : trSs 40 ⟨["_law_found", "_law_top", "_law_bottom"], defScope (top 18), [("_law_is_fraction", 14, 1)], [], false⟩ (defBody (top 18)) = some b_law_worth := by kernel_rfl
theorem tr_law_right_k03 : trSs 40 ⟨["_law_one", "_law_other", "_law_less"], defScope (top 20), [("below", 21, 2), ("_law_refused", 22, 2), ("_law_worth", 17, 3), ("over", 20, 2)], [], false⟩ (defBody (top 20)) = some b_law_right_k03 := by kernel_rfl
theorem tr_law_great : trSs 40 ⟨["_law_one", "_law_other", "_law_top"], defScope (top 17), [("_law_lowest", 13, 2)], [], false⟩ (defBody (top 17)) = some b_law_great := by kernel_rfl
theorem tr_law_cell_at : trSs 40 ⟨["_law_script", "_law_k"], defScope (top 11), [], [], false⟩ (defBody (top 11)) = some b_law_cell_at := by kernel_rfl
theorem tr_law_k03 : trSs 40 ⟨["_law_script", "_law_last", "_law_k", "_law_cell", "_law_one", "_law_other"], defScope (top 21), [("_law_fraction_by", 15, 2), ("_law_right", 23, 2), ("_law_great", 16, 2), ("_law_cell_at", 2, 2), ("_law_lowest", 13, 2), ("_law_refused", 22, 2)], [], false⟩ (defBody (top 21)) = some b_law_k03 := by kernel_rfl
section
variable {P : Program} {w : World} {K : PySem.W.Frag} {h : Heap} {mg : Str → Option Value} {fa : Addr}
theorem all_mk (X : K.In h) (G : h.Ns mainGlobals mg) (hfa : mg "law" = some (.ref fa)) (A_law_divisor : At K "_law_divisor" (top 13)) (A_law_lowest : At K "_law_lowest" (top 14)) (A_law_fraction_by : At K "_law_fraction_by" (top 16)) (A_below : At K "below" (top 9)) (A_divisor : At K "divisor" (top 6)) (A_ratio : At K "ratio" (top 7)) (A_over : At K "over" (top 8)) (A_law_refused_k03 : At K "_law_refused" (top 19)) (A_law_whole : At K "_law_whole" (top 12)) (A_law_is_fraction : At K "_law_is_fraction" (top 15)) (A_law_worth : At K "_law_worth" (top 18)) (A_law_right_k03 : At K "_law_right" (top 20)) (A_law_great : At K "_law_great" (top 17)) (A_law_cell_at : At K "_law_cell_at" (top 11)) (A_law_k03 : At K "law" (top 21)) (XA_ : XAll K) (RF_NoNumber : RFacts K "NoNumber")
    (z_len : PySem.W.nsIn K mainGlobals "len" = some none) (z_abs : PySem.W.nsIn K mainGlobals "abs" = some none) (z_isinstance : PySem.W.nsIn K mainGlobals "isinstance" = some none) (z_int : PySem.W.nsIn K mainGlobals "int" = some none) (z_bool : PySem.W.nsIn K mainGlobals "bool" = some none) (z_tuple : PySem.W.nsIn K mainGlobals "tuple" = some none) (z_list : PySem.W.nsIn K mainGlobals "list" = some none) (z_range : PySem.W.nsIn K mainGlobals "range" = some none) (z_enumerate : PySem.W.nsIn K mainGlobals "enumerate" = some none) :
    ∃ fd : FuncData, (∀ (s : Shared) (v : Value), BindsTo s fd ⟨[v], []⟩ [("_law_script", v)]) ∧ ∀ base : Heap, K.In base → base.Ns mainGlobals mg → FnOk P w K mg base CX0 17 fa fd ["_law_script"] (spD K 1 (run Γ b_law_k03 6)) := by
  have hb : ∀ x ∈ bltNames, mg x = none := blt_none X G (by
    intro x hx
    simp only [bltNames, List.mem_cons, List.not_mem_nil, or_false] at hx
    rcases hx with rfl | rfl | rfl | rfl | rfl | rfl | rfl | rfl | rfl <;> assumption)
  have XF : XFacts K mg := xf_of XA_ X G
  refine law_at A_law_k03 X G hfa sc_law_k03 bd_law_k03 tr_law_k03 (fun base hk hn => ?_)
  have G_law_divisor : GFn P w K mg base 1 "_law_divisor" 2 (Γ 12) := gfn_at (k := 0) A_law_divisor X G sc_law_divisor bd_law_divisor tr_law_divisor rfl ⟨Calls.nil, CallsR.nil, (fun h => nomatch h), hb⟩ ok_law_divisor
  have G_law_lowest : GFn P w K mg base 2 "_law_lowest" 2 (Γ 13) := gfn_at (k := 1) A_law_lowest X G sc_law_lowest bd_law_lowest tr_law_lowest rfl ⟨(Calls.cons G_law_divisor (by decide) Calls.nil), CallsR.nil, (fun h => nomatch h), hb⟩ ok_law_lowest
  have G_law_fraction_by : GFn P w K mg base 3 "_law_fraction_by" 2 (Γ 15) := gfn_at (k := 2) A_law_fraction_by X G sc_law_fraction_by bd_law_fraction_by tr_law_fraction_by rfl ⟨(Calls.cons G_law_lowest (by decide) Calls.nil), CallsR.nil, (fun h => nomatch h), hb⟩ ok_law_fraction_by
  have G_below : GFn P w K mg base 4 "below" 2 (Γ 21) := gfn_at (k := 3) A_below X G sc_below bd_below tr_below rfl ⟨Calls.nil, CallsR.nil, (fun h => nomatch h), hb⟩ ok_below
  have G_divisor : GFn P w K mg base 5 "divisor" 2 (Γ 0) := gfn_at (k := 4) A_divisor X G sc_divisor bd_divisor tr_divisor rfl ⟨Calls.nil, CallsR.nil, (fun h => nomatch h), hb⟩ ok_divisor
  have G_ratio : GFn P w K mg base 6 "ratio" 2 (Γ 1) := gfn_at (k := 5) A_ratio X G sc_ratio bd_ratio tr_ratio rfl ⟨(Calls.cons G_divisor (by decide) Calls.nil), CallsR.nil, (fun h => nomatch h), hb⟩ ok_ratio
  have G_over : GFn P w K mg base 7 "over" 2 (Γ 20) := gfn_at (k := 6) A_over X G sc_over bd_over tr_over rfl ⟨(Calls.cons G_ratio (by decide) Calls.nil), CallsR.nil, (fun h => nomatch h), hb⟩ ok_over
  have R_ratio : GFr P w K mg base 8 "ratio" 2 (Γ 1001) := gfr_at (k := 7) A_ratio X G sc_ratio bd_ratio trr_ratio rfl ⟨Calls.nil, CallsR.nil, (fun _ => XF), hb⟩ (by decide) RF_NoNumber okr_ratio
  have R_over : GFr P w K mg base 9 "over" 2 (Γ 1020) := gfp_at (k := 8) A_over X G sc_over bd_over trr_over rfl ⟨Calls.nil, (CallsR.cons R_ratio (by decide) CallsR.nil), (fun h => nomatch h), hb⟩ okr_over
  have G_law_refused_k03 : GFn P w K mg base 10 "_law_refused" 2 (Γ 22) := gfn_at (k := 9) A_law_refused_k03 X G sc_law_refused_k03 bd_law_refused_k03 tr_law_refused_k03 rfl ⟨(Calls.cons G_over (by decide) Calls.nil), (CallsR.cons R_over (by decide) CallsR.nil), (fun _ => XF), hb⟩ ok_law_refused_k03
  have G_law_whole : GFn P w K mg base 11 "_law_whole" 1 (Γ 3) := gfn_at (k := 10) A_law_whole X G sc_law_whole bd_law_whole tr_law_whole rfl ⟨Calls.nil, CallsR.nil, (fun h => nomatch h), hb⟩ ok_law_whole
  have G_law_is_fraction : GFn P w K mg base 12 "_law_is_fraction" 1 (Γ 14) := gfn_at (k := 11) A_law_is_fraction X G sc_law_is_fraction bd_law_is_fraction tr_law_is_fraction rfl ⟨(Calls.cons G_law_whole (by decide) (Calls.cons G_law_divisor (by decide) Calls.nil)), CallsR.nil, (fun h => nomatch h), hb⟩ ok_law_is_fraction
  have G_law_worth : GFn P w K mg base 13 "_law_worth" 3 (Γ 17) := gfn_at (k := 12) A_law_worth X G sc_law_worth bd_law_worth tr_law_worth rfl ⟨(Calls.cons G_law_is_fraction (by decide) Calls.nil), CallsR.nil, (fun h => nomatch h), hb⟩ ok_law_worth
  have G_law_right_k03 : GFn P w K mg base 14 "_law_right" 2 (Γ 23) := gfn_at (k := 13) A_law_right_k03 X G sc_law_right_k03 bd_law_right_k03 tr_law_right_k03 rfl ⟨(Calls.cons G_below (by decide) (Calls.cons G_law_refused_k03 (by decide) (Calls.cons G_law_worth (by decide) (Calls.cons G_over (by decide) Calls.nil)))), CallsR.nil, (fun h => nomatch h), hb⟩ ok_law_right_k03
  have G_law_great : GFn P w K mg base 15 "_law_great" 2 (Γ 16) := gfn_at (k := 14) A_law_great X G sc_law_great bd_law_great tr_law_great rfl ⟨(Calls.cons G_law_lowest (by decide) Calls.nil), CallsR.nil, (fun h => nomatch h), hb⟩ ok_law_great
  have G_law_cell_at : GFn P w K mg base 16 "_law_cell_at" 2 (Γ 2) := gfn_at (k := 15) A_law_cell_at X G sc_law_cell_at bd_law_cell_at tr_law_cell_at rfl ⟨Calls.nil, CallsR.nil, (fun h => nomatch h), hb⟩ ok_law_cell_at
  exact ⟨(Calls.cons G_law_fraction_by (by decide) (Calls.cons G_law_right_k03 (by decide) (Calls.cons G_law_great (by decide) (Calls.cons G_law_cell_at (by decide) (Calls.cons G_law_lowest (by decide) (Calls.cons G_law_refused_k03 (by decide) Calls.nil)))))), CallsR.nil, (fun h => nomatch h), hb⟩
end
theorem walk {l : PySem.W.OpenLaw} {q : Program} {loose : List Str} {XP : (Str → Option Value) → Heap → Prop} {YP : World → Heap → Prop} {d : DefRec} {K : Params → PySem.W.Frag} (hn : l.most = some 63) (hdf : d.params.defaults = [])
    (hY : ∀ (w : World) (h : Heap), YP w h → (K w.params).In h)
    (F : ∀ (w : World) (mg : Str → Option Value) (fa : Addr) (h : Heap), (K w.params).In h → h.Ns mainGlobals mg → mg d.name = some (.ref fa) →
      ∃ fd : FuncData, (∀ (s : Shared) (u : Value), BindsTo s fd ⟨[u], []⟩ [("_law_script", u)]) ∧ ∀ base : Heap, (K w.params).In base → base.Ns mainGlobals mg → FnOk l.prog w (K w.params) mg base CX0 17 fa fd ["_law_script"] (spD (K w.params) 1 (run Γ b_law_k03 6))) :
    PySem.W.WalkO q loose XP YP l.row.toRowW d [] (fun f vs => PySem.call f vs) :=
  L2.walk_of (n := 63) (k := 17) (x := "_law_script") (CX := fun _ => CX0) (sp := fun w => spD (K w.params) 1 (run Γ b_law_k03 6)) hn (by decide) hdf ⟨rfl, by decide, by decide⟩ hY F (fun _ H a ns hl _ hS => law_spec law_true H a ns hl hS) fun _ _ _ _ _ z => z
end LW
open PySem PySem.W PyProof.Rows
set_option maxRecDepth 100000 in
set_option maxHeartbeats 0 in
theorem PySem.Challenge.cw_snugfit_k03_quotients_and_order_holds : PySem.Challenge.rw_snugfit_k03_quotients_and_order.Holds := by
  w_on; o_law; k_head; (case hw => w_witness2)
  k_fill
  refine LW.walk (l := PySem.Challenge.rw_snugfit_k03_quotients_and_order) rfl rfl (fun w h Y => PySem.W.kIn_of Y) ?F
  case F =>
    intro w mg fa h KX G hmg
    refine' LW.all_mk KX G hmg ?A0 ?A1 ?A2 ?A3 ?A4 ?A5 ?A6 ?A7 ?A8 ?A9 ?A10 ?A11 ?A12 ?A13 ?A14 ?XA_ ?RF_NoNumber ?z_len ?z_abs ?z_isinstance ?z_int ?z_bool ?z_tuple ?z_list ?z_range ?z_enumerate
    (case A0 => (refine' DL.at_mk ?a ?l ?c ?k; (case a => k_is); (case l => k_is); (case c => k_is); (case k => k_is)))
    (case A1 => (refine' DL.at_mk ?a ?l ?c ?k; (case a => k_is); (case l => k_is); (case c => k_is); (case k => k_is)))
    (case A2 => (refine' DL.at_mk ?a ?l ?c ?k; (case a => k_is); (case l => k_is); (case c => k_is); (case k => k_is)))
    (case A3 => (refine' DL.at_mk ?a ?l ?c ?k; (case a => k_is); (case l => k_is); (case c => k_is); (case k => k_is)))
    (case A4 => (refine' DL.at_mk ?a ?l ?c ?k; (case a => k_is); (case l => k_is); (case c => k_is); (case k => k_is)))
    (case A5 => (refine' DL.at_mk ?a ?l ?c ?k; (case a => k_is); (case l => k_is); (case c => k_is); (case k => k_is)))
    (case A6 => (refine' DL.at_mk ?a ?l ?c ?k; (case a => k_is); (case l => k_is); (case c => k_is); (case k => k_is)))
    (case A7 => (refine' DL.at_mk ?a ?l ?c ?k; (case a => k_is); (case l => k_is); (case c => k_is); (case k => k_is)))
    (case A8 => (refine' DL.at_mk ?a ?l ?c ?k; (case a => k_is); (case l => k_is); (case c => k_is); (case k => k_is)))
    (case A9 => (refine' DL.at_mk ?a ?l ?c ?k; (case a => k_is); (case l => k_is); (case c => k_is); (case k => k_is)))
    (case A10 => (refine' DL.at_mk ?a ?l ?c ?k; (case a => k_is); (case l => k_is); (case c => k_is); (case k => k_is)))
    (case A11 => (refine' DL.at_mk ?a ?l ?c ?k; (case a => k_is); (case l => k_is); (case c => k_is); (case k => k_is)))
    (case A12 => (refine' DL.at_mk ?a ?l ?c ?k; (case a => k_is); (case l => k_is); (case c => k_is); (case k => k_is)))
    (case A13 => (refine' DL.at_mk ?a ?l ?c ?k; (case a => k_is); (case l => k_is); (case c => k_is); (case k => k_is)))
    (case A14 => (refine' DL.at_mk ?a ?l ?c ?k; (case a => k_is); (case l => k_is); (case c => k_is); (case k => k_is)))
    (case XA_ => (refine' DL.xall_mk ?ve ?A0 ?A1 ?A2 ?A3 ?s00 ?s01 ?s02 ?s03 ?s10 ?s11 ?s12 ?s13 ?s20 ?s21 ?s22 ?s23 ?s30 ?s31 ?s32 ?s33; (case ve => k_is); (case A0 => (refine' DL.xa_mk ?a ?b1 ?b2 ?b3 ?b4 ?b5 ?b6 ?b7 ?v; (case a => k_is); (case b1 => k_is); (case b2 => k_is); (case b3 => k_is); (case b4 => k_is); (case b5 => k_is); (case b6 => k_is); (case b7 => k_is); (case v => k_is))); (case A1 => (refine' DL.xa_mk ?a ?b1 ?b2 ?b3 ?b4 ?b5 ?b6 ?b7 ?v; (case a => k_is); (case b1 => k_is); (case b2 => k_is); (case b3 => k_is); (case b4 => k_is); (case b5 => k_is); (case b6 => k_is); (case b7 => k_is); (case v => k_is))); (case A2 => (refine' DL.xa_mk ?a ?b1 ?b2 ?b3 ?b4 ?b5 ?b6 ?b7 ?v; (case a => k_is); (case b1 => k_is); (case b2 => k_is); (case b3 => k_is); (case b4 => k_is); (case b5 => k_is); (case b6 => k_is); (case b7 => k_is); (case v => k_is))); (case A3 => (refine' DL.xa_mk ?a ?b1 ?b2 ?b3 ?b4 ?b5 ?b6 ?b7 ?v; (case a => k_is); (case b1 => k_is); (case b2 => k_is); (case b3 => k_is); (case b4 => k_is); (case b5 => k_is); (case b6 => k_is); (case b7 => k_is); (case v => k_is))); (case s00 => k_is); (case s01 => k_is); (case s02 => k_is); (case s03 => k_is); (case s10 => k_is); (case s11 => k_is); (case s12 => k_is); (case s13 => k_is); (case s20 => k_is); (case s21 => k_is); (case s22 => k_is); (case s23 => k_is); (case s30 => k_is); (case s31 => k_is); (case s32 => k_is); (case s33 => k_is)))
    (case RF_NoNumber => (refine' DL.rf_mk ?a1 ?a2 ?a3 ?a4 ?a5 ?a6 ?a7 ?a8 ?a9; (case a1 => k_is); (case a2 => k_is); (case a3 => k_is); (case a4 => rfl); (case a5 => rfl); (case a6 => k_is); (case a7 => k_is); (case a8 => rfl); (case a9 => rfl)))
    (case z_len => k_is)
    (case z_abs => k_is)
    (case z_isinstance => k_is)
    (case z_int => k_is)
    (case z_bool => k_is)
    (case z_tuple => k_is)
    (case z_list => k_is)
    (case z_range => k_is)
    (case z_enumerate => k_is)
#print axioms PySem.Challenge.cw_snugfit_k03_quotients_and_order_holds
