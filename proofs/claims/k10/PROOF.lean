import PyProof.Rows.All
import Wide.All
import OpenK.AllK
import Wide.FinOn
import Lean
import PyProof.EqAt
import PyProof.EqKinds
import PyProof.TupleCall
import PySem.Challenge.RW_slipseen_k10_weighted_schemes
set_option Elab.async false
set_option linter.all false
set_option maxRecDepth 100000
/-! THE HAND LAYER, for ints, bools, texts, own classes, LISTS and tuples (index, slices, in, append, pop ..), calls, loops. Paste it whole ahead of your own text; what your proof does not reach may be deleted. -/
namespace L2
open PySem PySem.Spec PyProof.Rows

/-- a key: an int or a str -/
abbrev Key := Sum Int Str
def keyIs : Key → Value → Bool
  | .inl k, v => Value.isInt k v
  | .inr x, v => Value.isStrOf x v
def keyH (w : World) : Key → Int
  | .inl k => hashInt k
  | .inr x => hashStr w x
theorem keyIs_shape : ∀ {k : Key} {v : Value}, keyIs k v = true → (∃ i t, k = Sum.inl i ∧ v = Value.int i t) ∨ (∃ x t, k = Sum.inr x ∧ v = Value.str x t)
  | .inl i, v, h => by
    obtain ⟨t, e⟩ := Value.isInt_shape (k := i) (v := v) h
    exact .inl ⟨i, t, rfl, e⟩
  | .inr x, v, h => by
    obtain ⟨t, e⟩ := Value.isStrOf_shape (x := x) (v := v) h
    exact .inr ⟨x, t, rfl, e⟩
theorem keyIs_int (i : Int) (t : Tok) : keyIs (.inl i) (.int i t) = true := by simp [keyIs, Value.isInt]
theorem keyIs_str (x : Str) (t : Tok) : keyIs (.inr x) (.str x t) = true := by simp [keyIs, Value.isStrOf]
theorem key_ll (a b : Int) : decide ((Sum.inl a : Key) = Sum.inl b) = (a == b) := by
  by_cases e : a = b
  · subst e; simp
  · have h : ¬ (Sum.inl a : Key) = Sum.inl b := fun q => e (Sum.inl.inj q)
    rw [decide_eq_false h]
    exact (beq_eq_false_iff_ne.mpr e).symm
theorem key_rr (a b : Str) : decide ((Sum.inr a : Key) = Sum.inr b) = decide (a = b) := by
  by_cases e : a = b
  · subst e; simp
  · have h : ¬ (Sum.inr a : Key) = Sum.inr b := fun q => e (Sum.inr.inj q)
    rw [decide_eq_false h, decide_eq_false e]
theorem key_lr (a : Int) (b : Str) : decide ((Sum.inl a : Key) = Sum.inr b) = false := decide_eq_false (fun q => nomatch q)
theorem key_rl (a : Str) (b : Int) : decide ((Sum.inr a : Key) = Sum.inl b) = false := decide_eq_false (fun q => nomatch q)

def mixKind (prog : Program) (w : World) : PySem.KeyKind prog w Key where
  is := keyIs
  hash := keyH w
  inj := fun v a b ha hb => by
    rcases keyIs_shape ha with ⟨i, t, rfl, rfl⟩ | ⟨x, t, rfl, rfl⟩
    · rcases keyIs_shape hb with ⟨j, u, rfl, e⟩ | ⟨y, u, rfl, e⟩
      · injection e with e1 _; rw [e1]
      · exact nomatch e
    · rcases keyIs_shape hb with ⟨j, u, rfl, e⟩ | ⟨y, u, rfl, e⟩
      · exact nomatch e
      · injection e with e1 _; rw [e1]
  byValue := fun k v h => by
    rcases keyIs_shape h with ⟨i, t, rfl, rfl⟩ | ⟨x, t, rfl, rfl⟩ <;> rfl
  pyHash := fun hv h => by
    rcases keyIs_shape hv with ⟨i, t, rfl, rfl⟩ | ⟨x, t, rfl, rfl⟩
    · exact wpAny_pyHash_int h
    · exact wpAny_pyHash_str h
  eqBool := fun hu hv h => by
    rcases keyIs_shape hu with ⟨i, t, rfl, rfl⟩ | ⟨x, t, rfl, rfl⟩
    · rcases keyIs_shape hv with ⟨j, u, rfl, rfl⟩ | ⟨y, u, rfl, rfl⟩
      · rw [key_ll] at h; exact wpAny_eqBool_int h
      · rw [key_lr] at h; exact SeqAt.EqAt.int_str i t y u _ _ _ _ h
    · rcases keyIs_shape hv with ⟨j, u, rfl, rfl⟩ | ⟨y, u, rfl, rfl⟩
      · rw [key_rl] at h; exact SeqAt.EqAt.str_int x t j u _ _ _ _ h
      · rw [key_rr] at h; exact wpAny_eqBool_str h
  «strs» := fun k x t v h => by
    rcases keyIs_shape h with ⟨i, u, rfl, e⟩ | ⟨y, u, rfl, e⟩
    · exact nomatch e
    · injection e with e1 _
      subst e1
      cases v <;> rfl

theorem mixKind_is (prog : Program) (w : World) (k : Key) (v : Value) : (mixKind prog w).is k v = keyIs k v := rfl
theorem mixKind_int (prog : Program) (w : World) (i : Int) (t : Tok) : (mixKind prog w).is (.inl i) (.int i t) = true := keyIs_int i t
theorem mixKind_str (prog : Program) (w : World) (x : Str) (t : Tok) : (mixKind prog w).is (.inr x) (.str x t) = true := keyIs_str x t
end L2

namespace L2
open PySem PySem.Spec PyProof.Rows

/-- a value, without the heap -/
inductive V where
  | non | bl (b : Bool) | int (i : Int) | str (x : Str) | byt (b : Array UInt8) | flt (b : UInt64) | ref (a : Addr) | ty (n : String)
  deriving DecidableEq

def RelV : V → Value → Prop
  | .non, u => u = Value.none
  | .bl b, u => u = Value.bool b
  | .int i, u => ∃ t, u = Value.int i t
  | .str x, u => ∃ t, u = Value.str x t
  | .byt b, u => ∃ t, u = Value.bytes b t
  | .flt b, u => ∃ t, u = Value.float b t
  | .ref a, u => u = Value.ref a
  | .ty n, u => u = Value.type n

abbrev Vals : List V → List Value → Prop := Paired RelV
theorem Vals.length {xs : List V} {us : List Value} (r : Vals xs us) : xs.length = us.length := Paired.length r
theorem Vals.get : ∀ {xs : List V} {us : List Value} {i : Nat} {x : V}, Vals xs us → xs[i]? = some x → ∃ u, us[i]? = some u ∧ RelV x u
  | _, _, _, _, .nil, e => by simp at e
  | _, _, 0, _, .cons r _, e => by simp at e; subst e; exact ⟨_, rfl, r⟩
  | _, _, i + 1, x, .cons _ t, e => by
    obtain ⟨u, h1, h2⟩ := Vals.get (i := i) (x := x) t (by simpa using e)
    exact ⟨u, by simpa using h1, h2⟩
theorem Vals.set {x : V} {u : Value} (r : RelV x u) : ∀ {xs : List V} {us : List Value} (i : Nat), Vals xs us → Vals (xs.set i x) (us.set i u)
  | _, _, _, .nil => .nil
  | _, _, 0, .cons _ t => .cons r t
  | _, _, i + 1, .cons q t => .cons q (Vals.set r i t)
theorem Vals.append : ∀ {xs ys : List V} {us ws : List Value}, Vals xs us → Vals ys ws → Vals (xs ++ ys) (us ++ ws)
  | _, _, _, _, .nil, s => s
  | _, _, _, _, .cons r t, s => .cons r (Vals.append t s)
theorem Vals.take : ∀ {xs : List V} {us : List Value} (n : Nat), Vals xs us → Vals (xs.take n) (us.take n)
  | _, _, 0, _ => .nil
  | _, _, _ + 1, .nil => .nil
  | _, _, n + 1, .cons r t => .cons r (Vals.take n t)
theorem Vals.drop : ∀ {xs : List V} {us : List Value} (n : Nat), Vals xs us → Vals (xs.drop n) (us.drop n)
  | _, _, 0, r => r
  | _, _, _ + 1, .nil => .nil
  | _, _, n + 1, .cons _ t => Vals.drop n t
theorem Vals.none_of : ∀ {xs : List V} {us : List Value} {i : Nat}, Vals xs us → xs[i]? = none → us[i]? = none := fun {xs us i} r e => by
  have h1 := r.length
  have h2 : xs.length ≤ i := List.getElem?_eq_none_iff.mp e
  exact List.getElem?_eq_none_iff.mpr (by omega)

def RelO : Option V → Option Value → Prop
  | some v, some u => RelV v u
  | none, none => True
  | _, _ => False
def KV {κ : Type} : List (κ × V) → List (κ × Value) → Prop := Paired fun (p : κ × V) (q : κ × Value) => p.1 = q.1 ∧ RelV p.2 q.2

/-- a key of a dict (00_mix): an int or a text -/
def kV : Key → V
  | .inl i => .int i
  | .inr x => .str x

/-- what stands at a tracked address -/
inductive HO where
  /-- a list -/
  | lst (xs : List V)
  /-- a tuple (never changes) -/
  | tup (xs : List V)
  /-- a dict whose keys are ints and texts; one whose keys are tuples of ints and texts (the empty one is both) -/
  | dK (kvs : List (Key × V)) | dT (kvs : List (List Key × V))
  /-- a set of ints: its members, its size -/
  | set (S : Int → Bool) (n : Nat)
  /-- an instance of the class at C, its dict at dx, its attributes -/
  | ins (C dx : Addr) (fs : List (Str × V))
  /-- the dict of the instance at x -/
  | own (x : Addr)
  /-- the dict of an exception -/
  | xd (fs : List (Str × V))
  /-- a bound method, f of x -/
  | met (f x : Addr)
  /-- a range object lo, lo + 1, .. below hi -/
  | rng (lo hi : Int)
  /-- a thing that is known to the object (the script; a dict while a loop walks it): read, never written while it is so -/
  | frz (o : Obj) (u : HO)
  /-- a code object's table -/
  | tbl (ps : Array Value)
  /-- any other thing, by what is true of its one object (a def of one's own: SetO a S n := HO.ext fun h => ..) -/
  | ext (φ : Heap → Prop)

abbrev Hp := Addr → Option HO
def upd (H : Hp) (a : Addr) (o : HO) : Hp := fun b => if b = a then some o else H b
theorem upd_same {H : Hp} {a : Addr} {o : HO} : upd H a o a = some o := by unfold upd; rw [if_pos rfl]
theorem upd_ne {H : Hp} {a b : Addr} {o : HO} (h : b ≠ a) : upd H a o b = H b := by unfold upd; rw [if_neg h]
theorem upd_upd {H : Hp} {a : Addr} {o u : HO} : upd (upd H a o) a u = upd H a u := by
  funext b; unfold upd; split <;> rfl
/-- two objects of different content stand apart -/
theorem ne_of {H : Hp} {a b : Addr} {o u : HO} (h : H a = some o) (h' : H b = some u) (d : o ≠ u) : a ≠ b := by
  intro e; subst e; rw [h] at h'; exact d (Option.some.inj h')
theorem ne_of_none {H : Hp} {a b : Addr} {o : HO} (h : H a = some o) (h' : H b = none) : a ≠ b := by
  intro e; subst e; rw [h] at h'; cases h'

/-- a tuple without a dict of its own -/
def TupP (h : Heap) (a : Addr) (its : Array Value) : Prop := ∃ o, h.get? a = some o ∧ (o.cls = .type "tuple" ∧ ∃ n, o.data = .seq its n) ∧ o.dict = none
theorem TupP.tup {h : Heap} {a : Addr} {its : Array Value} (p : TupP h a its) : IsTup h a its := let ⟨o, e, c, _⟩ := p; ⟨o, e, c.1, c.2⟩
theorem TupP.new (h : Heap) (its : Array Value) : TupP (h.push { cls := .type "tuple", data := .seq its }) h.objs.size its := ⟨_, Heap.get?_push_size _ rfl, ⟨rfl, _, rfl⟩, rfl⟩
section
variable (P : Program) (w : World)
def ObjOk (H : Hp) (h : Heap) (a : Addr) : HO → Prop
  | .lst xs => xs.length ≤ sizeLine ∧ ∃ (its : List Value) (n : Nat), Vals xs its ∧ h.get? a = some { cls := .type "list", data := .seq its.toArray n }
  | .tup xs => xs.length ≤ sizeLine ∧ ∃ its : List Value, Vals xs its ∧ TupP h a its.toArray
  | .dK kvs => kvs.length ≤ sizeLine ∧ (a == sysModules) = false ∧ ∃ vs, KV kvs vs ∧ h.DictOf (mixKind P w) a vs
  | .dT kvs => kvs.length ≤ sizeLine ∧ (a == sysModules) = false ∧ ∃ xs : List (List Key × Addr × Value),
      Paired (fun (p : List Key × V) (q : List Key × Addr × Value) => p.1 = q.1 ∧ H q.2.1 = some (.tup (p.1.map kV)) ∧ RelV p.2 q.2.2) kvs xs ∧
      ∃ o es ep, h.get? a = some o ∧ o.ExactDict ∧ o.data = .dict es ep ∧ es.toList = xs.map (entryOfKey (tupleKind (mixKind P w))) ∧ (xs.map (·.1)).Nodup
  | .set S n => h.SetOf (intKind P w) a S n
  | .ins C dx fs => H dx = some (.own a) ∧ fs.length ≤ 1000 ∧ dx ≠ a ∧ h.get? a = some (PySem.W.instObj C dx) ∧
      ∃ mA, h.Ns1 dx mA ∧ (∀ f, RelO (fs.lookup f) (mA f)) ∧ PySem.Within mA (fs.map (·.1))
  | .own _ => ∃ o, h.get? a = some o
  | .xd fs => ∃ mA, h.Ns1 a mA ∧ ∀ f, RelO (fs.lookup f) (mA f)
  | .rng lo hi => ∃ t u v, h.get? a = some { cls := .type "range", data := .fields #[.int lo t, .int hi u, .int 1 v] }
  | .frz o u => h.get? a = some o ∧ ObjOk H h a u
  | .tbl ps => h.get? a = some { cls := .none, data := .fields ps }
  | .met f x => h.get? a = some (PySem.W.methodObj (.ref f) (.ref x))
  | .ext φ => φ h ∧ (∃ o, h.get? a = some o) ∧ ∀ h1 h2 : Heap, φ h1 → (∀ o, h1.get? a = some o → h2.get? a = some o) → φ h2
/-- the abstract heap is held -/
def HOk (H : Hp) (h : Heap) : Prop := ∀ a o, H a = some o → ObjOk P w H h a o
end

section
variable {P : Program} {w : World} {H H' : Hp} {h h' : Heap} {a : Addr} {o : HO}
theorem ObjOk.lt (x : ObjOk P w H h a o) : a < h.objs.size := by
  cases o with
  | lst xs => obtain ⟨_, _, _, _, e⟩ := x; exact Heap.lt_size e
  | tup xs => obtain ⟨_, _, _, p⟩ := x; exact p.tup.lt
  | dK kvs => obtain ⟨_, _, _, _, o, _, _, e, _⟩ := x; exact Heap.lt_size e
  | dT kvs => obtain ⟨_, _, _, _, o, _, _, e, _⟩ := x; exact Heap.lt_size e
  | set S n => obtain ⟨o, _, _, _, e, _⟩ := x; exact Heap.lt_size e
  | ins C dx fs => obtain ⟨_, _, _, e, _⟩ := x; exact Heap.lt_size e
  | own y => obtain ⟨_, e⟩ := x; exact Heap.lt_size e
  | xd fs => obtain ⟨_, ⟨_, _, _, e, _⟩, _⟩ := x; exact Heap.lt_size e
  | rng lo hi => obtain ⟨_, _, _, e⟩ := x; exact Heap.lt_size e
  | frz ob u => obtain ⟨e, _⟩ := x; exact Heap.lt_size e
  | tbl ps => exact Heap.lt_size (show h.get? a = some _ from x)
  | met f y => exact Heap.lt_size (show h.get? a = some _ from x)
  | ext φ => obtain ⟨_, ⟨_, e⟩, _⟩ := x; exact Heap.lt_size e
theorem Paired.mapP {α β : Type} {F G : α → β → Prop} : ∀ {l₁ : List α} {l₂ : List β}, Paired F l₁ l₂ → (∀ a b, F a b → G a b) → Paired G l₁ l₂
  | _, _, .nil, _ => .nil
  | _, _, .cons r t, f => .cons (f _ _ r) (Paired.mapP t f)
theorem Paired.imp' {α β : Type} {F G : α → β → Prop} (f : ∀ a b, F a b → G a b) {l₁ : List α} {l₂ : List β} (r : Paired F l₁ l₂) : Paired G l₁ l₂ := Paired.mapP r f
/-- what an object's description leans on: its own object, its own dict, the tuples -/
theorem ObjOk.stay (x : ObjOk P w H h a o) (k : ∀ b u, (b = a ∨ H b = some (.own a)) → h.get? b = some u → h'.get? b = some u)
    (ho : ∀ b, H b = some (.own a) → H' b = some (.own a)) (ht : ∀ b xs, H b = some (.tup xs) → H' b = some (.tup xs)) : ObjOk P w H' h' a o := by
  induction o with
  | lst xs => obtain ⟨z, its, n, r, e⟩ := x; exact ⟨z, its, n, r, k _ _ (.inl rfl) e⟩
  | tup xs => obtain ⟨z, its, r, ob, e, c⟩ := x; exact ⟨z, its, r, ob, k _ _ (.inl rfl) e, c⟩
  | dK kvs => obtain ⟨z, y, vs, r, ob, es, ep, e, c⟩ := x; exact ⟨z, y, vs, r, ob, es, ep, k _ _ (.inl rfl) e, c⟩
  | dT kvs =>
    obtain ⟨z, y, xs, r, ob, es, ep, e, c⟩ := x
    exact ⟨z, y, xs, Paired.mapP r fun p q z => ⟨z.1, ht _ _ z.2.1, z.2.2⟩, ob, es, ep, k _ _ (.inl rfl) e, c⟩
  | set S n => obtain ⟨ob, es, ep, t, e, c⟩ := x; exact ⟨ob, es, ep, t, k _ _ (.inl rfl) e, c⟩
  | ins C dx fs =>
    obtain ⟨d, z, ne, e, mA, ⟨od, es, ep, e2, c⟩, r⟩ := x
    exact ⟨ho _ d, z, ne, k _ _ (.inl rfl) e, mA, ⟨od, es, ep, k _ _ (.inr d) e2, c⟩, r⟩
  | own y => obtain ⟨ob, e⟩ := x; exact ⟨ob, k _ _ (.inl rfl) e⟩
  | xd fs => obtain ⟨mA, ⟨od, es, ep, e, c⟩, r⟩ := x; exact ⟨mA, ⟨od, es, ep, k _ _ (.inl rfl) e, c⟩, r⟩
  | rng lo hi => obtain ⟨t, u, v, e⟩ := x; exact ⟨t, u, v, k _ _ (.inl rfl) e⟩
  | frz ob u ih => obtain ⟨e, q⟩ := x; exact ⟨k _ _ (.inl rfl) e, ih q⟩
  | tbl ps =>
    have e : h.get? a = some { cls := .none, data := .fields ps } := x
    show h'.get? a = some { cls := .none, data := .fields ps }
    exact k a _ (.inl rfl) e
  | met f y =>
    have e : h.get? a = some (PySem.W.methodObj (.ref f) (.ref y)) := x
    show h'.get? a = some (PySem.W.methodObj (.ref f) (.ref y))
    exact k a _ (.inl rfl) e
  | ext φ => obtain ⟨p, ⟨o, e⟩, st⟩ := x; exact ⟨st _ _ p fun o q => k _ _ (.inl rfl) q, ⟨o, k _ _ (.inl rfl) e⟩, st⟩
theorem HOk.lt (x : HOk P w H h) (e : H a = some o) : a < h.objs.size := (x a o e).lt
theorem HOk.fresh (x : HOk P w H h) (e : h.objs.size ≤ a) : H a = none := by
  cases q : H a with
  | none => rfl
  | some u => exact absurd (Nat.lt_of_lt_of_le (x.lt q) e) (Nat.lt_irrefl _)
/-- every object of the heap is kept -/
theorem HOk.kept (x : HOk P w H h) (k : ∀ b u, h.get? b = some u → h'.get? b = some u) : HOk P w H h' := fun a o e =>
  (x a o e).stay (fun b u _ q => k b u q) (fun _ q => q) fun _ _ q => q
/-- a new object is laid and tracked -/
theorem HOk.laid (x : HOk P w H h) (k : ∀ b u, h.get? b = some u → h'.get? b = some u) (hp : h.objs.size ≤ a) (new : ObjOk P w (upd H a o) h' a o) : HOk P w (upd H a o) h' := fun b u e => by
  have hn := x.fresh hp
  by_cases hb : b = a
  · subst hb; rw [upd_same] at e; cases e; exact new
  · rw [upd_ne hb] at e
    exact (x b u e).stay (fun c v _ q => k c v q) (fun c q => by rw [upd_ne (ne_of_none q hn)]; exact q) fun c xs q => by rw [upd_ne (ne_of_none q hn)]; exact q
end

/-- what may be read as u: it is u, or a known u -/
def Rd (H : Hp) (a : Addr) (u : HO) : Prop := H a = some u ∨ ∃ o, H a = some (.frz o u)
theorem Rd.of {H : Hp} {a : Addr} {u : HO} (h : H a = some u) : Rd H a u := .inl h
theorem Rd.ok {P : Program} {w : World} {H : Hp} {h : Heap} {a : Addr} {u : HO} (r : Rd H a u) (x : HOk P w H h) : ObjOk P w H h a u := by
  rcases r with r | ⟨o, r⟩
  · exact x a u r
  · obtain ⟨_, q⟩ := x a _ r
    exact q
/-- what may be written -/
def Mut : Option HO → Prop
  | some (.lst _) => True
  | some (.dK _) => True
  | some (.dT _) => True
  | some (.set _ _) => True
  | some (.ins _ _ _) => True
  | some (.ext _) => True
  | _ => False
section
variable {P : Program} {w : World} {H : Hp} {h h' : Heap} {x e : Addr} {o' : HO}
/-- the object at e is changed: x itself, or the dict of the instance x -/
theorem HOk.write (ok : HOk P w H h) (mu : Mut (H x)) (he : e = x ∨ H e = some (.own x)) (k : ∀ b u, b ≠ e → h.get? b = some u → h'.get? b = some u) (heo : ∃ u, h'.get? e = some u)
    (new : ObjOk P w (upd H x o') h' x o') : HOk P w (upd H x o') h' := fun b u q => by
  have nown : ∀ c y, H c = some (.own y) → c ≠ x := fun c y r z => by subst z; rw [r] at mu; exact mu
  have ntup : ∀ c xs, H c = some (.tup xs) → c ≠ x := fun c xs r z => by subst z; rw [r] at mu; exact mu
  by_cases hb : b = x
  · subst hb; rw [upd_same] at q; cases q; exact new
  · rw [upd_ne hb] at q
    by_cases hbe : b = e
    · have q' : H b = some (.own x) := by
        rcases he with z | z
        · exact absurd (hbe.trans z) hb
        · rw [hbe]; exact z
      rw [q] at q'; cases q'
      obtain ⟨v, hv⟩ := heo
      exact ⟨v, by rw [hbe]; exact hv⟩
    · refine (ok b u q).stay (fun c v hc r => k c v ?_ r) (fun c r => by rw [upd_ne (nown c b r)]; exact r) fun c xs r => by rw [upd_ne (ntup c xs r)]; exact r
      rcases hc with rfl | hc
      · exact hbe
      · rintro rfl
        rcases he with z | z
        · exact nown c b hc z
        · rw [hc] at z; cases z; exact hb rfl
end

/-! ### kept unless tracked; of the frames at fs (the callers') the slots may change (an exception that passes writes there); of the records at ex (iterators) nothing is said -/
structure Un (fs ex : List Addr) (H H' : Hp) (h h' : Heap) : Prop where
  keep : ∀ b o, h.get? b = some o → H b = none → b ∉ fs → b ∉ ex → h'.get? b = some o
  slot : ∀ b o, h.get? b = some o → H b = none → b ∈ fs → b ∉ ex → ∃ sl, h'.get? b = some { o with slots := sl }
  free : ∀ b o, h.get? b = some o → H b = none → b ∉ ex → H' b = none
  there : ∀ b o, h.get? b = some o → b ∉ ex → ∃ o', h'.get? b = some o'
  tups : ∀ b xs, H b = some (.tup xs) → H' b = some (.tup xs)
  frzs : ∀ b o u, H b = some (.frz o u) → H' b = some (.frz o u)
  tbls : ∀ b ps, H b = some (.tbl ps) → ∃ more, H' b = some (.tbl (ps ++ more))
section
variable {fs fs' ex ex' : List Addr} {H H1 H2 : Hp} {h h1 h2 h' : Heap} {a x e : Addr} {o : HO}
theorem Un.any (u : Un fs ex H H1 h h1) {b : Addr} {ob : Obj} (q : h.get? b = some ob) (n : H b = none) (hx : b ∉ ex) : ∃ sl, h1.get? b = some { ob with slots := sl } := by
  by_cases hb : b ∈ fs
  · exact u.slot b ob q n hb hx
  · exact ⟨ob.slots, u.keep b ob q n hb hx⟩
theorem Un.trans (a : Un fs ex H H1 h h1) (b : Un fs ex H1 H2 h1 h2) : Un fs ex H H2 h h2 where
  keep := fun c ob q n hc hx => b.keep c ob (a.keep c ob q n hc hx) (a.free c ob q n hx) hc hx
  slot := fun c ob q n hc hx => by
    obtain ⟨sl, e1⟩ := a.slot c ob q n hc hx
    obtain ⟨sl', e2⟩ := b.slot c _ e1 (a.free c ob q n hx) hc hx
    exact ⟨sl', e2⟩
  free := fun c ob q n hx => by
    obtain ⟨o', e1⟩ := a.there c ob q hx
    exact b.free c o' e1 (a.free c ob q n hx) hx
  there := fun c ob q hx => by
    obtain ⟨o', e1⟩ := a.there c ob q hx
    exact b.there c o' e1 hx
  tups := fun c xs q => b.tups c xs (a.tups c xs q)
  frzs := fun c ob xs q => b.frzs c ob xs (a.frzs c ob xs q)
  tbls := fun c ps q => by
    obtain ⟨m1, e1⟩ := a.tbls c ps q
    obtain ⟨m2, e2⟩ := b.tbls c _ e1
    exact ⟨m1 ++ m2, by rw [e2, Array.append_assoc]⟩
theorem Un.kept (k : ∀ b u, h.get? b = some u → h'.get? b = some u) : Un fs ex H H h h' :=
  ⟨fun b ob q _ _ _ => k b ob q, fun b ob q _ _ _ => ⟨ob.slots, k b ob q⟩, fun _ _ _ n _ => n, fun b ob q _ => ⟨ob, k b ob q⟩, fun _ _ q => q, fun _ _ _ q => q, fun _ ps q => ⟨#[], by rw [q]; simp⟩⟩
theorem Un.refl : Un fs ex H H h h := Un.kept fun _ _ q => q
theorem Un.laid (k : ∀ b u, h.get? b = some u → h'.get? b = some u) (hp : h.objs.size ≤ a) (hn : H a = none) : Un fs ex H (upd H a o) h h' where
  keep := fun b u q _ _ _ => k b u q
  slot := fun b u q _ _ _ => ⟨u.slots, k b u q⟩
  free := fun b u q n _ => by rw [upd_ne (Nat.ne_of_lt (Nat.lt_of_lt_of_le (Heap.lt_size q) hp))]; exact n
  there := fun b u q _ => ⟨u, k b u q⟩
  tups := fun b xs q => by rw [upd_ne (ne_of_none q hn)]; exact q
  frzs := fun b u xs q => by rw [upd_ne (ne_of_none q hn)]; exact q
  tbls := fun b ps q => ⟨#[], by rw [upd_ne (ne_of_none q hn), q]; simp⟩
theorem Un.write (mu : Mut (H x)) (he : e = x ∨ H e = some (.own x)) (k : ∀ b u, b ≠ e → h.get? b = some u → h'.get? b = some u) (heo : ∃ u, h'.get? e = some u) : Un fs ex H (upd H x o) h h' := by
  have hx : ∀ b, H b = none → b ≠ x := fun b n z => by subst z; rw [n] at mu; exact mu
  have hb : ∀ b, H b = none → b ≠ e := fun b n z => by
    subst z
    rcases he with r | r
    · exact hx b n r
    · rw [n] at r; cases r
  have hm : ∀ b u, H b = some u → ¬ Mut (some u) → b ≠ x := fun b u q nm z => by subst z; rw [q] at mu; exact nm mu
  refine ⟨fun b u q n _ _ => k b u (hb b n) q, fun b u q n _ _ => ⟨u.slots, k b u (hb b n) q⟩, fun b u q n _ => by rw [upd_ne (hx b n)]; exact n, fun b u q _ => ?_,
    fun b xs q => by rw [upd_ne (hm b _ q fun z => z)]; exact q, fun b u xs q => by rw [upd_ne (hm b _ q fun z => z)]; exact q, fun b ps q => ⟨#[], by rw [upd_ne (hm b _ q fun z => z), q]; simp⟩⟩
  by_cases hbe : b = e
  · subst hbe; exact heo
  · exact ⟨u, k b u hbe q⟩
theorem Un.mono (u : Un fs ex H H1 h h1) (hs : ∀ b ∈ fs, b ∈ fs') (hx : ∀ b ∈ ex, b ∈ ex') : Un fs' ex' H H1 h h1 :=
  ⟨fun b ob q n hb he => u.keep b ob q n (fun z => hb (hs b z)) fun z => he (hx b z), fun _ _ q n _ he => u.any q n fun z => he (hx _ z), fun b ob q n he => u.free b ob q n fun z => he (hx b z), fun b ob q he => u.there b ob q fun z => he (hx b z), u.tups, u.frzs, u.tbls⟩
end

/-! ### the heap without what is tracked -/
def trk (h : Heap) (H : Hp) : List Addr := (List.range h.objs.size).filter fun a => (H a).isSome
def hidT (h : Heap) (H : Hp) : Heap := PySem.W.hideAll h (trk h H)
theorem hidT_size (h : Heap) (H : Hp) : (hidT h H).objs.size = h.objs.size := PySem.W.hideAll_size _ _
theorem hidT_get {h : Heap} {H : Hp} {b : Addr} {o : Obj} (e : h.get? b = some o) (n : H b = none) : (hidT h H).get? b = some o :=
  PySem.W.hideAll_get _ e fun hm => by
    have q : (H b).isSome = true := (List.mem_filter.mp hm).2
    rw [n] at q; simp at q
theorem of_hidT {h : Heap} {H : Hp} {b : Addr} {o : Obj} (e : (hidT h H).get? b = some o) : h.get? b = some o ∧ H b = none := by
  have e' : h.get? b = some o := PySem.W.of_hideAll (trk h H) e
  refine ⟨e', ?_⟩
  cases q : H b with
  | none => rfl
  | some x =>
    have hm : b ∈ trk h H := List.mem_filter.mpr ⟨List.mem_range.mpr (Heap.lt_size e'), by simp [q]⟩
    have z : (hidT h H).get? b = none := PySem.W.hideAll_none (trk h H) hm
    rw [z] at e; cases e

/-! ### OpenK's ledger, filled with every new object but one -/
def allNews (g h : Heap) (L : Addr) : List (Addr × Obj) := (List.range h.objs.size).filterMap fun a => if a = L ∨ (g.get? a).isSome = true then none else (h.get? a).map fun o => (a, o)
theorem mem_allNews {g h : Heap} {L a : Addr} {o : Obj} (h1 : a ≠ L) (h2 : g.get? a = none) (h3 : h.get? a = some o) : (a, o) ∈ allNews g h L :=
  List.mem_filterMap.mpr ⟨a, List.mem_range.mpr (Heap.lt_size h3), by simp [h1, h2, h3]⟩
theorem of_mem_allNews {g h : Heap} {L : Addr} {p : Addr × Obj} (hp : p ∈ allNews g h L) : p.1 ≠ L ∧ g.get? p.1 = none ∧ h.get? p.1 = some p.2 := by
  obtain ⟨b, _, e⟩ := List.mem_filterMap.mp hp
  split at e
  · cases e
  · rename_i hn
    cases q : h.get? b with
    | none => rw [q] at e; simp at e
    | some u =>
      rw [q] at e
      simp only [Option.map_some, Option.some.injEq] at e
      subst e
      refine ⟨fun z => hn (.inl z), ?_, q⟩
      show g.get? b = none
      cases r : g.get? b with
      | none => rfl
      | some v => exact (hn (.inr (by simp [r]))).elim
def rest (g h : Heap) (L d : Addr) : List (Addr × Obj) := (allNews g h L).filter fun p => decide (p.1 ≠ d)
theorem rest_ne {g h : Heap} {L d : Addr} : ∀ p ∈ rest g h L d, p.1 ≠ d := fun p hp => of_decide_eq_true (List.mem_filter.mp hp).2
theorem mem_rest {g h : Heap} {L d a : Addr} {o : Obj} (h1 : a ≠ L) (h2 : g.get? a = none) (h3 : h.get? a = some o) (h4 : a ≠ d) : (a, o) ∈ rest g h L d :=
  List.mem_filter.mpr ⟨mem_allNews h1 h2 h3, decide_eq_true h4⟩
theorem news_all {g h : Heap} {L : Addr} : News g L h (allNews g h L) := fun p hp => let ⟨a, b, c⟩ := of_mem_allNews hp; ⟨c, a, b⟩
theorem news_at {g h : Heap} {L d : Addr} {o : Obj} (h1 : d ≠ L) (h2 : g.get? d = none) (h3 : h.get? d = some o) : News g L h ((d, o) :: rest g h L d) := fun p hp => by
  rcases List.mem_cons.mp hp with rfl | hp
  · exact ⟨h3, h1, h2⟩
  · exact news_all p (List.mem_filter.mp hp).1
/-- behind a rule that changed d alone: all else but the frame is kept -/
theorem kept_of_news {g h h' : Heap} {L d : Addr} {m : Str → Option Value} (k : ∀ b o, g.get? b = some o → h.get? b = some o) (F : Fr g L h' m) (N : News g L h' (rest g h L d)) :
    ∀ b o, b ≠ L → b ≠ d → h.get? b = some o → h'.get? b = some o := fun b o h1 h2 e => by
  cases q : g.get? b with
  | some u =>
    have := k b u q
    rw [e] at this; cases this
    exact F.keep b _ q
  | none => exact (N (b, o) (mem_rest h1 q e h2)).1
end L2

namespace L2
open PySem PySem.Spec PyProof.Rows

/-- the module's facts, over the base: the heap at the law's entry without what is tracked there -/
structure Mod (K : PySem.W.Frag) (mg : Str → Option Value) (base : Heap) : Prop where
  kin : K.In base
  glob : base.Ns mainGlobals mg
  blt : ∃ mb, base.Ns builtinsNs mb ∧ ∀ x : Str, x ≠ "__name__" → mb x = bootBuiltins x
  nolimit : base.NoLimit

/-- the context: a def's body (or a comprehension's block) running. base: fixed through the whole law; s₀, H₀: the entry; outer: the frames whose slots others may change (a def's callers); stack: all frames that run;
   ex: iterators that were made ahead of the entry and are walked here (a comprehension's); fn: the names whose cells were made at the entry (a def: all; a comprehension's block: its own); calm: not within an except suite; pn: pins that every state bears; xe: what is wanted of an exception that leaves the code -/
structure Cx where
  prog : Program
  w : World
  K : PySem.W.Frag
  mg : Str → Option Value
  base : Heap
  A : Around
  N : List Str
  s₀ : Shared
  H₀ : Hp
  env : Env
  outer : List Env
  stack : List Env
  ex : List Addr
  fn : Str → Bool
  calm : Bool
  pn : List (Addr × Obj)
  xe : Value → Shared → Prop
/-- the callers' frames -/
def frs (l : List Env) : List Addr := l.filterMap (·.frame)
abbrev Cx.fs (X : Cx) : List Addr := frs X.outer

def Vis (sc : Scope) (x : Str) : Prop := sc.names.lookup x = some .local ∨ sc.names.lookup x = some .cell ∨ sc.names.lookup x = some .free
def Loc (sc : Scope) (x : Str) : Prop := sc.names.lookup x = some .local ∨ sc.names.lookup x = some .cell
def Look (env : Env) (h : Heap) (m : Str → Option Value) (x : Str) (u : Value) : Prop :=
  (env.kindOf x = some .local ∧ m x = some u) ∨ ((env.kindOf x = some .cell ∨ env.kindOf x = some .free) ∧ ∃ c, env.cells.lookup x = some c ∧ h.IsCell c (some u))

structure Cx.Ok (X : Cx) : Prop where
  mod : Mod X.K X.mg X.base
  kind : X.env.scope.kind = .function
  glob : X.env.globals = mainGlobals
  blt : X.env.builtins = builtinsNs
  above : X.s₀.heap.objs.size ≤ X.env.locals
  inj : ∀ x y c, X.env.cells.lookup x = some c → X.env.cells.lookup y = some c → x = y
  has : ∀ x, (X.env.kindOf x = some .cell ∨ X.env.kindOf x = some .free) → ∃ c, X.env.cells.lookup x = some c
  cab : ∀ x c, X.fn x = true → X.env.cells.lookup x = some c → X.s₀.heap.objs.size ≤ c
  hd : X.calm = true → X.A.handled = none
  frames : X.A.frames = some X.stack
  stk : X.stack = X.outer ∨ (X.stack = X.env :: X.outer ∧ X.env.frame = some X.env.locals)
  exf : ∀ b ∈ X.ex, b ≠ X.env.locals ∧ ∀ x c, X.env.cells.lookup x = some c → c ≠ b
  bs : ∀ b o, X.base.get? b = some o → X.s₀.heap.get? b = some o ∧ X.H₀ b = none
  bsz : X.base.objs.size ≤ X.s₀.heap.objs.size
  noex : ∀ b o, X.base.get? b = some o → b ∉ X.ex
  exfs : ∀ b ∈ X.ex, b ∉ X.fs
  funs : X.s₀.heap.FunFrames X.base X.outer
  frf : ∀ b ∈ X.fs, X.H₀ b = none

structure Inv (X : Cx) (pins : List (Addr × Obj)) (σ : List (Option V)) (H : Hp) (s : Shared) : Prop where
  ok : X.Ok
  os : s.os = X.s₀.os
  bare : AllBare s.gens
  base : Un X.fs X.ex X.H₀ H X.s₀.heap s.heap
  loc : ∃ m, s.heap.Ns X.env.locals m ∧ ∀ (i : Nat) (x : Str) (v : V), X.N[i]? = some x → σ[i]? = some (some v) → Vis X.env.scope x → ∃ u, RelV v u ∧ Look X.env s.heap m x u
  cell : ∀ x c, X.env.cells.lookup x = some c → ∃ v, s.heap.IsCell c v
  free : H X.env.locals = none
  freeC : ∀ x c, X.env.cells.lookup x = some c → H c = none
  pin : ∀ p ∈ X.pn ++ pins, s.heap.get? p.1 = some p.2 ∧ H p.1 = none ∧ p.1 ≠ X.env.locals ∧ p.1 ∉ X.fs ∧ ∀ v, p.2.data ≠ .cell v
  hok : HOk X.prog X.w H s.heap
  len : σ.length = X.N.length

section
variable {X : Cx} {pins : List (Addr × Obj)} {σ : List (Option V)} {H H' : Hp} {s : Shared} {h' : Heap}

theorem Cx.Ok.nofr (ok : X.Ok) {b : Addr} {o : Obj} (e : X.base.get? b = some o) : b ∉ X.fs := fun hb => by
  have := (ok.funs.mem hb).1
  rw [e] at this; cases this
theorem Inv.bs (I : Inv X pins σ H s) : ∀ b o, X.base.get? b = some o → s.heap.get? b = some o ∧ H b = none := fun b o e =>
  ⟨I.base.keep b o (I.ok.bs b o e).1 (I.ok.bs b o e).2 (I.ok.nofr e) (I.ok.noex b o e), I.base.free b o (I.ok.bs b o e).1 (I.ok.bs b o e).2 (I.ok.noex b o e)⟩
theorem Inv.bk (I : Inv X pins σ H s) : ∀ b o, X.base.get? b = some o → s.heap.get? b = some o := fun b o e => (I.bs b o e).1
theorem Inv.mod (I : Inv X pins σ H s) : Mod X.K X.mg X.base := I.ok.mod
theorem Inv.kIn (I : Inv X pins σ H s) : X.K.In s.heap := I.ok.mod.kin.keeps I.bk
theorem Inv.nolimit (I : Inv X pins σ H s) : s.heap.NoLimit := I.ok.mod.nolimit.keeps I.bk
/-- the frame over the base: for OpenK's rules (K.In X.base is I.mod.kin) -/
theorem Inv.fr (I : Inv X pins σ H s) : ∃ m, Fr X.base X.env.locals s.heap m :=
  let ⟨m, hn, _⟩ := I.loc
  ⟨m, hn, I.bk, Nat.le_trans I.ok.bsz I.ok.above⟩
theorem Inv.lt (I : Inv X pins σ H s) : X.env.locals < s.heap.objs.size := let ⟨_, hn, _⟩ := I.loc; hn.lt
theorem Inv.sz (I : Inv X pins σ H s) : X.s₀.heap.objs.size ≤ s.heap.objs.size := Nat.le_trans I.ok.above (Nat.le_of_lt I.lt)
theorem Inv.nofs (I : Inv X pins σ H s) {a : Addr} (h : s.heap.objs.size ≤ a) : a ∉ X.fs := fun hb => by
  obtain ⟨_, o, ho, _⟩ := I.ok.funs.mem hb
  exact absurd (Nat.lt_of_lt_of_le (Heap.lt_size ho) (Nat.le_trans I.sz h)) (Nat.lt_irrefl _)
theorem Inv.cne (I : Inv X pins σ H s) : ∀ x c, X.env.cells.lookup x = some c → c ≠ X.env.locals := fun x c e z => by
  obtain ⟨v, o, ho, hd⟩ := I.cell x c e
  obtain ⟨m, ⟨o', es, ep, ho', hd', _⟩, _⟩ := I.loc
  rw [z, ho'] at ho; cases ho; rw [hd'] at hd; cases hd
theorem Inv.funs (I : Inv X pins σ H s) : s.heap.FunFrames X.base X.outer := by
  have all : ∀ (l : List Env), (∀ b ∈ frs l, b ∈ X.fs) → X.s₀.heap.FunFrames X.base l → s.heap.FunFrames X.base l := by
    intro l
    induction l with
    | nil => intro _ _; trivial
    | cons env r ih =>
      intro hs hl
      obtain ⟨hk, ⟨L, o, hf, hn, ho, hd⟩, hr⟩ := hl
      have hL : L ∈ X.fs := hs L (by unfold frs; rw [List.filterMap_cons, hf]; exact List.mem_cons_self)
      obtain ⟨sl, e⟩ := I.base.slot L o ho (I.ok.frf L hL) hL fun z => I.ok.exfs L z hL
      exact ⟨hk, ⟨L, _, hf, hn, e, hd⟩, ih (fun b hb => hs b (by unfold frs; rw [List.filterMap_cons, hf]; exact List.mem_cons_of_mem _ hb)) hr⟩
  exact all X.outer (fun _ hb => hb) I.ok.funs

/-- the frames that run, for a call -/
theorem Inv.stack (I : Inv X pins σ H s) : s.heap.FunFrames X.base X.stack := by
  rcases I.ok.stk with e | ⟨e, hf⟩
  · rw [e]; exact I.funs
  · rw [e]
    obtain ⟨m, hn, _⟩ := I.loc
    refine .cons (by rw [I.ok.kind]; decide) hf hn ?_ I.funs
    exact Heap.get?_none_of_le (Nat.le_trans I.ok.bsz I.ok.above)
theorem Inv.stkSub (I : Inv X pins σ H s) : ∀ b ∈ frs X.stack, b ∈ X.env.locals :: X.fs := fun b hb => by
  rcases I.ok.stk with e | ⟨e, hf⟩
  · rw [e] at hb; exact List.mem_cons_of_mem _ hb
  · rw [e] at hb
    unfold frs at hb
    rw [List.filterMap_cons, hf] at hb
    exact hb
theorem Inv.stkFree (I : Inv X pins σ H s) : ∀ b ∈ frs X.stack, H b = none := fun b hb => by
  rcases List.mem_cons.mp (I.stkSub b hb) with e | hb
  · rw [e]; exact I.free
  · obtain ⟨_, o, ho, _⟩ := I.ok.funs.mem hb
    exact I.base.free b o ho (I.ok.frf b hb) fun z => I.ok.exfs b z hb

/-- THE STEP: the untracked objects but the frame and the records at ch are kept (the callers' frames up to slots), the frame's map is kept, the new abstract heap is held -/
theorem Inv.step {g' : Array GenState} {t' : Nat} {d' : Drawn} {ch : List Addr} (I : Inv X pins σ H s)
    (hch : ∀ b ∈ ch, (b ∈ X.ex ∨ X.s₀.heap.objs.size ≤ b) ∧ b ≠ X.env.locals ∧ (∀ x c, X.env.cells.lookup x = some c → c ≠ b) ∧ ∀ p ∈ X.pn ++ pins, p.1 ≠ b)
    (keep : ∀ b o, b ≠ X.env.locals → b ∉ X.fs → b ∉ ch → s.heap.get? b = some o → H b = none → h'.get? b = some o)
    (slot : ∀ b o, b ≠ X.env.locals → b ∈ X.fs → b ∉ ch → s.heap.get? b = some o → H b = none → ∃ sl, h'.get? b = some { o with slots := sl }) (free : ∀ b o, b ∉ ch → s.heap.get? b = some o → H b = none → H' b = none)
    (there : ∀ b o, b ∉ ch → s.heap.get? b = some o → ∃ o', h'.get? b = some o')
    (tups : ∀ b xs, H b = some (.tup xs) → H' b = some (.tup xs)) (frzs : ∀ b o u, H b = some (.frz o u) → H' b = some (.frz o u)) (tbls : ∀ b ps, H b = some (.tbl ps) → ∃ more, H' b = some (.tbl (ps ++ more)))
    (ns : ∀ m, s.heap.Ns X.env.locals m → h'.Ns X.env.locals m) (hok : HOk X.prog X.w H' h') (hg : AllBare g') :
    Inv X pins σ H' { s with heap := h', gens := g', drawn := d', toks := t' } := by
  have neL : ∀ b o, X.s₀.heap.get? b = some o → b ≠ X.env.locals := fun b o e => Nat.ne_of_lt (Nat.lt_of_lt_of_le (Heap.lt_size e) I.ok.above)
  have neC : ∀ b o, X.s₀.heap.get? b = some o → b ∉ X.ex → b ∉ ch := fun b o e hx hb => by
    rcases (hch b hb).1 with z | z
    · exact hx z
    · exact absurd (Nat.lt_of_lt_of_le (Heap.lt_size e) z) (Nat.lt_irrefl _)
  have cellK : ∀ x c, X.env.cells.lookup x = some c → ∀ v, s.heap.IsCell c v → h'.IsCell c v := fun x c e v ⟨o, ho, hd⟩ => by
    have nch : c ∉ ch := fun z => (hch c z).2.2.1 x c e rfl
    by_cases hc : c ∈ X.fs
    · obtain ⟨sl, q⟩ := slot c o (I.cne x c e) hc nch ho (I.freeC x c e)
      exact ⟨_, q, hd⟩
    · exact ⟨o, keep c o (I.cne x c e) hc nch ho (I.freeC x c e), hd⟩
  refine ⟨I.ok, I.os, hg, ⟨fun b o e n hb hx => ?_, fun b o e n hb hx => ?_, fun b o e n hx => ?_, fun b o e hx => ?_, fun b xs e => tups b xs (I.base.tups b xs e), fun b o xs e => frzs b o xs (I.base.frzs b o xs e), fun b ps e => ?_⟩, ?_, fun x c e => ?_, ?_, fun x c e => ?_, fun p hp => ?_, hok, I.len⟩
  · exact keep b o (neL b o e) hb (neC b o e hx) (I.base.keep b o e n hb hx) (I.base.free b o e n hx)
  · obtain ⟨sl, e1⟩ := I.base.slot b o e n hb hx
    obtain ⟨sl', e2⟩ := slot b _ (neL b o e) hb (neC b o e hx) e1 (I.base.free b o e n hx)
    exact ⟨sl', e2⟩
  · obtain ⟨o', e1⟩ := I.base.there b o e hx
    exact free b o' (neC b o e hx) e1 (I.base.free b o e n hx)
  · obtain ⟨o', e1⟩ := I.base.there b o e hx
    exact there b o' (neC b o e hx) e1
  · obtain ⟨m1, e1⟩ := I.base.tbls b ps e
    obtain ⟨m2, e2⟩ := tbls b _ e1
    exact ⟨m1 ++ m2, by rw [e2, Array.append_assoc]⟩
  · obtain ⟨m, hn, hl⟩ := I.loc
    refine ⟨m, ns m hn, fun i x v e1 e2 e3 => ?_⟩
    obtain ⟨u, r, l⟩ := hl i x v e1 e2 e3
    refine ⟨u, r, ?_⟩
    rcases l with l | ⟨k, c, e, z⟩
    · exact .inl l
    · exact .inr ⟨k, c, e, cellK x c e _ z⟩
  · obtain ⟨v, z⟩ := I.cell x c e
    exact ⟨v, cellK x c e v z⟩
  · obtain ⟨m, ⟨o, _, _, ho, _⟩, _⟩ := I.loc
    exact free _ o (fun z => (hch _ z).2.1 rfl) ho I.free
  · obtain ⟨v, o, ho, hd⟩ := I.cell x c e
    exact free c o (fun z => (hch c z).2.2.1 x c e rfl) ho (I.freeC x c e)
  · obtain ⟨e, n, ne, nf, d⟩ := I.pin p hp
    have nch : p.1 ∉ ch := fun z => (hch p.1 z).2.2.2 p hp rfl
    exact ⟨keep p.1 p.2 ne nf nch e n, free p.1 p.2 nch e n, ne, nf, d⟩
/-- .. where the frame's own object is kept too -/
theorem Inv.un {t' : Nat} (I : Inv X pins σ H s) (u : Un X.fs [] H H' s.heap h') (hok : HOk X.prog X.w H' h') : Inv X pins σ H' { s with heap := h', toks := t' } := by
  obtain ⟨m, ⟨o, es, ep, ho, r⟩, _⟩ := id I.loc
  obtain ⟨sl, hL⟩ := u.any ho I.free (by simp)
  exact I.step (g' := s.gens) (d' := s.drawn) (ch := []) (fun _ z => nomatch z) (fun b o _ hb _ e n => u.keep b o e n hb (by simp)) (fun b o _ hb _ e n => u.slot b o e n hb (by simp)) (fun b o _ e n => u.free b o e n (by simp)) (fun b o _ e => u.there b o e (by simp)) u.tups u.frzs u.tbls (fun m' hm => by
    obtain ⟨o', es', ep', ho', r'⟩ := hm
    rw [ho] at ho'; cases ho'
    exact ⟨_, es', ep', hL, r'⟩) hok I.bare
/-- behind a call (or a comprehension's block): the slots of this frame may have changed too, the records at ch may have turned -/
theorem Inv.call {g' : Array GenState} {t' : Nat} {d' : Drawn} {ch : List Addr} (I : Inv X pins σ H s) (u : Un (frs X.stack) ch H H' s.heap h') (hok : HOk X.prog X.w H' h') (hg : AllBare g')
    (hch : ∀ b ∈ ch, (b ∈ X.ex ∨ X.s₀.heap.objs.size ≤ b) ∧ b ≠ X.env.locals ∧ (∀ x c, X.env.cells.lookup x = some c → c ≠ b) ∧ ∀ p ∈ X.pn ++ pins, p.1 ≠ b) :
    Inv X pins σ H' { s with heap := h', gens := g', drawn := d', toks := t' } := by
  obtain ⟨m, ⟨o, es, ep, ho, r⟩, _⟩ := id I.loc
  obtain ⟨sl, hL⟩ := u.any ho I.free fun z => (hch _ z).2.1 rfl
  exact I.step (ch := ch) hch (fun b o hL hb hc e n => u.keep b o e n (fun z => (List.mem_cons.mp (I.stkSub b z)).elim hL hb) hc) (fun b o _ _ hc e n => u.any e n hc) (fun b o hc e n => u.free b o e n hc) (fun b o hc e => u.there b o e hc) u.tups u.frzs u.tbls (fun m' hm => by
    obtain ⟨o', es', ep', ho', r'⟩ := hm
    rw [ho] at ho'; cases ho'
    exact ⟨_, es', ep', hL, r'⟩) hok hg
/-- an untracked record of ours (an iterator) has turned -/
theorem Inv.turned {t' : Nat} {it : Addr} (I : Inv X pins σ H s) (k : ∀ b o, b ≠ it → s.heap.get? b = some o → h'.get? b = some o) (hn : H it = none) (hL : it ≠ X.env.locals)
    (h1 : it ∈ X.ex ∨ X.s₀.heap.objs.size ≤ it) (h2 : ∀ x c, X.env.cells.lookup x = some c → c ≠ it) (h3 : ∀ p ∈ X.pn ++ pins, p.1 ≠ it) : Inv X pins σ H { s with heap := h', toks := t' } := by
  have nit : ∀ b u, H b = some u → b ≠ it := fun b u e z => by rw [z, hn] at e; cases e
  refine I.step (g' := s.gens) (d' := s.drawn) (ch := [it]) (fun b hb => ?_) (fun b o _ _ hc e _ => k b o (fun z => hc (by simp [z])) e) (fun b o _ _ hc e _ => ⟨o.slots, k b o (fun z => hc (by simp [z])) e⟩) (fun _ _ _ _ n => n)
    (fun b o hc e => ⟨o, k b o (fun z => hc (by simp [z])) e⟩) (fun _ _ e => e) (fun _ _ _ e => e) (fun b ps e => ⟨#[], by rw [e]; simp⟩) (fun m hm => ?_) (fun b u e => ?_) I.bare
  · have e : b = it := by simpa using hb
    subst e
    exact ⟨h1, hL, h2, h3⟩
  · obtain ⟨o, es, ep, ho, r⟩ := hm
    exact ⟨o, es, ep, k _ o (Ne.symm hL) ho, r⟩
  · refine (I.hok b u e).stay (fun c v hc q => k c v ?_ q) (fun _ q => q) fun _ _ q => q
    rcases hc with z | z
    · rw [z]; exact nit b u e
    · exact nit c _ z
theorem Inv.tok (I : Inv X pins σ H s) (t : Nat) : Inv X pins σ H { s with toks := t } := I.un (h' := s.heap) (t' := t) Un.refl I.hok
/-- all objects kept -/
theorem Inv.kept {t' : Nat} (I : Inv X pins σ H s) (k : ∀ b u, s.heap.get? b = some u → h'.get? b = some u) : Inv X pins σ H { s with heap := h', toks := t' } := I.un (Un.kept k) (I.hok.kept k)
/-- a new object laid and tracked -/
theorem Inv.laid {a : Addr} {o : HO} {t' : Nat} (I : Inv X pins σ H s) (k : ∀ b u, s.heap.get? b = some u → h'.get? b = some u) (hp : s.heap.objs.size ≤ a) (new : ObjOk X.prog X.w (upd H a o) h' a o) :
    Inv X pins σ (upd H a o) { s with heap := h', toks := t' } := I.un (Un.laid k hp (I.hok.fresh hp)) (I.hok.laid k hp new)
/-- an object written -/
theorem Inv.write {x e : Addr} {o : HO} {t' : Nat} (I : Inv X pins σ H s) (mu : Mut (H x)) (he : e = x ∨ H e = some (.own x)) (k : ∀ b u, b ≠ e → s.heap.get? b = some u → h'.get? b = some u) (heo : ∃ u, h'.get? e = some u)
    (new : ObjOk X.prog X.w (upd H x o) h' x o) : Inv X pins σ (upd H x o) { s with heap := h', toks := t' } := I.un (Un.write mu he k heo) (I.hok.write mu he k heo new)
/-- forgetting slots, pins -/
theorem Inv.weak {σ' : List (Option V)} (I : Inv X pins σ H s) (hl : σ'.length = σ.length) (w : ∀ (i : Nat) v, σ'[i]? = some (some v) → σ[i]? = some (some v)) : Inv X pins σ' H s :=
  ⟨I.ok, I.os, I.bare, I.base, let ⟨m, hn, hl'⟩ := I.loc; ⟨m, hn, fun i x v e1 e2 e3 => hl' i x v e1 (w i v e2) e3⟩, I.cell, I.free, I.freeC, I.pin, I.hok, hl.trans I.len⟩
theorem Inv.pins_of {pins' : List (Addr × Obj)} (I : Inv X pins σ H s) (h : ∀ p ∈ pins', s.heap.get? p.1 = some p.2 ∧ H p.1 = none ∧ p.1 ≠ X.env.locals ∧ p.1 ∉ X.fs ∧ ∀ v, p.2.data ≠ .cell v) : Inv X pins' σ H s :=
  ⟨I.ok, I.os, I.bare, I.base, I.loc, I.cell, I.free, I.freeC, fun p hp => (List.mem_append.mp hp).elim (fun z => I.pin p (List.mem_append_left _ z)) (h p), I.hok, I.len⟩

theorem nodup_ix {N : List Str} (hN : N.Nodup) {i j : Nat} {x : Str} (a : N[i]? = some x) (b : N[j]? = some x) : i = j := by
  obtain ⟨h1, e1⟩ := List.getElem?_eq_some_iff.mp a
  obtain ⟨h2, e2⟩ := List.getElem?_eq_some_iff.mp b
  exact (List.getElem_inj hN).mp (e1.trans e2.symm)

/-- a name is stored; what changed -/
theorem store_ok2 {M : Model} {A : Around} {E : Value → Shared → Prop} {i : Nat} {x : Str} {v : V} {u : Value} {Q : Unit → Shared → Prop} (I : Inv X pins σ H s) (hN : X.N.Nodup) (hi : X.N[i]? = some x) (hx : Loc X.env.scope x) (r : RelV v u)
    (h : ∀ s', Inv X pins (σ.set i (some v)) H s' → (∃ a, Heap.SameBut a s.heap s'.heap ∧ (a = X.env.locals ∨ X.env.cells.lookup x = some a)) → Q () s') (hf : X.fn x = true ∨ X.env.scope.names.lookup x = some .local := by first | exact .inl rfl | exact .inr rfl | assumption) : wpAny M A (storeName X.env x u) Q E s := by
  obtain ⟨m, hn, hl⟩ := id I.loc
  have hcls : (X.env.scope.kind == .class || (X.env.scope.kind == .module && X.env.locals != X.env.globals)) = false := by rw [I.ok.kind]; rfl
  have hiσ : i < σ.length := by rw [I.len]; exact (List.getElem?_eq_some_iff.mp hi).1
  have cne := I.cne
  have tracked : ∀ {a : Addr} {h' : Heap}, (∃ o, s.heap.get? a = some o ∧ H a = none) → Heap.SameBut a s.heap h' → HOk X.prog X.w H h' := fun {a h'} ha hs b ob e => by
    obtain ⟨_, _, hfree⟩ := ha
    refine (I.hok b ob e).stay (fun c w' hc q => (hs.2 c ?_).trans q) (fun _ q => q) fun _ _ q => q
    rintro rfl
    rcases hc with rfl | hc
    · rw [hfree] at e; cases e
    · rw [hfree] at hc; cases hc
  rcases hx with hk | hk
  · refine wpAny_storeName_local hk hn (fun h' hn' hs => ?_) hcls
    obtain ⟨oL, _, _, hoL, _⟩ := id hn
    refine h _ ⟨I.ok, I.os, I.bare, ⟨fun b o e n hb hx => ?_, fun b o e n hb hx => ?_, I.base.free, fun b o e hx => ?_, I.base.tups, I.base.frzs, I.base.tbls⟩, ⟨_, hn', fun j y v' e1 e2 e3 => ?_⟩, fun y c e => ?_, I.free, I.freeC, fun p hp => ?_, tracked ⟨oL, hoL, I.free⟩ hs, by simpa using I.len⟩ ⟨_, hs, .inl rfl⟩
    · exact (hs.2 b (Nat.ne_of_lt (Nat.lt_of_lt_of_le (Heap.lt_size e) I.ok.above))).trans (I.base.keep b o e n hb hx)
    · obtain ⟨sl, e1⟩ := I.base.slot b o e n hb hx
      exact ⟨sl, (hs.2 b (Nat.ne_of_lt (Nat.lt_of_lt_of_le (Heap.lt_size e) I.ok.above))).trans e1⟩
    · obtain ⟨o', e1⟩ := I.base.there b o e hx
      exact ⟨o', (hs.2 b (Nat.ne_of_lt (Nat.lt_of_lt_of_le (Heap.lt_size e) I.ok.above))).trans e1⟩
    · by_cases hj : j = i
      · subst hj
        rw [hi] at e1; cases e1
        rw [List.getElem?_set_self hiσ] at e2
        cases e2
        exact ⟨u, r, .inl ⟨hk, by simp⟩⟩
      · rw [List.getElem?_set_ne (Ne.symm hj)] at e2
        obtain ⟨u', r', q⟩ := hl j y v' e1 e2 e3
        refine ⟨u', r', ?_⟩
        rcases q with ⟨k, e⟩ | ⟨k, c, e, z⟩
        · refine .inl ⟨k, ?_⟩
          have : y ≠ x := fun e => hj (nodup_ix hN e1 (e ▸ hi))
          simp [this, e]
        · exact .inr ⟨k, c, e, z.sameBut hs (cne y c e)⟩
    · obtain ⟨w', z⟩ := I.cell y c e
      exact ⟨w', z.sameBut hs (cne y c e)⟩
    · obtain ⟨e, n, ne, nf, d⟩ := I.pin p hp
      exact ⟨(hs.2 p.1 ne).trans e, n, ne, nf, d⟩
  · have hfn : X.fn x = true := by
      rcases hf with z | z
      · exact z
      · rw [z] at hk; cases hk
    obtain ⟨c, hc⟩ := I.ok.has x (.inl hk)
    obtain ⟨w', z⟩ := I.cell x c hc
    refine wpAny_storeName_cell I.ok.kind hk hc z (fun h' hc' hs => ?_)
    obtain ⟨oc, hoc, hocd⟩ := id z
    refine h { s with heap := h' } ⟨I.ok, I.os, I.bare, ⟨fun b o e n hb hx => ?_, fun b o e n hb hx => ?_, I.base.free, fun b o e hx => ?_, I.base.tups, I.base.frzs, I.base.tbls⟩, ⟨m, hn.sameBut hs (Ne.symm (cne x c hc)), fun j y v' e1 e2 e3 => ?_⟩, fun y c' e => ?_, I.free, I.freeC, fun p hp => ?_, tracked ⟨oc, hoc, I.freeC x c hc⟩ hs, by simpa using I.len⟩ ⟨c, hs, .inr hc⟩
    · exact (hs.2 b (Nat.ne_of_lt (Nat.lt_of_lt_of_le (Heap.lt_size e) (I.ok.cab x c hfn hc)))).trans (I.base.keep b o e n hb hx)
    · obtain ⟨sl, e1⟩ := I.base.slot b o e n hb hx
      exact ⟨sl, (hs.2 b (Nat.ne_of_lt (Nat.lt_of_lt_of_le (Heap.lt_size e) (I.ok.cab x c hfn hc)))).trans e1⟩
    · obtain ⟨o', e1⟩ := I.base.there b o e hx
      exact ⟨o', (hs.2 b (Nat.ne_of_lt (Nat.lt_of_lt_of_le (Heap.lt_size e) (I.ok.cab x c hfn hc)))).trans e1⟩
    · by_cases hj : j = i
      · subst hj
        rw [hi] at e1; cases e1
        rw [List.getElem?_set_self hiσ] at e2
        cases e2
        exact ⟨u, r, .inr ⟨.inl hk, c, hc, hc'⟩⟩
      · rw [List.getElem?_set_ne (Ne.symm hj)] at e2
        obtain ⟨u', r', q⟩ := hl j y v' e1 e2 e3
        refine ⟨u', r', ?_⟩
        rcases q with q | ⟨k, c', e, z'⟩
        · exact .inl q
        · refine .inr ⟨k, c', e, z'.sameBut hs ?_⟩
          rintro rfl
          exact hj (nodup_ix hN e1 (I.ok.inj _ _ _ e hc ▸ hi))
    · by_cases hcc : c' = c
      · subst hcc; exact ⟨_, hc'⟩
      · obtain ⟨w2, z2⟩ := I.cell y c' e
        exact ⟨w2, z2.sameBut hs hcc⟩
    · obtain ⟨e, n, ne, nf, d⟩ := I.pin p hp
      refine ⟨(hs.2 p.1 ?_).trans e, n, ne, nf, d⟩
      intro q
      rw [q, hoc] at e
      have q' : oc = p.2 := Option.some.inj e
      exact d w' (by rw [← q']; exact hocd)
theorem store_ok {M : Model} {A : Around} {E : Value → Shared → Prop} {i : Nat} {x : Str} {v : V} {u : Value} {Q : Unit → Shared → Prop} (I : Inv X pins σ H s) (hN : X.N.Nodup) (hi : X.N[i]? = some x) (hx : Loc X.env.scope x) (r : RelV v u)
    (h : ∀ s', Inv X pins (σ.set i (some v)) H s' → Q () s') (hf : X.fn x = true ∨ X.env.scope.names.lookup x = some .local := by first | exact .inl rfl | exact .inr rfl | assumption) : wpAny M A (storeName X.env x u) Q E s :=
  store_ok2 I hN hi hx r (fun s' I' _ => h s' I') hf
/-- behind a call or a block, the state as it is -/
theorem Inv.call' {s' : Shared} {ch : List Addr} (I : Inv X pins σ H s) (ho : s'.os = s.os) (u : Un (frs X.stack) ch H H' s.heap s'.heap) (hok : HOk X.prog X.w H' s'.heap) (hg : AllBare s'.gens)
    (hch : ∀ b ∈ ch, (b ∈ X.ex ∨ X.s₀.heap.objs.size ≤ b) ∧ b ≠ X.env.locals ∧ (∀ x c, X.env.cells.lookup x = some c → c ≠ b) ∧ ∀ p ∈ X.pn ++ pins, p.1 ≠ b) : Inv X pins σ H' s' := by
  obtain ⟨h', g', d', t', o'⟩ := s'
  have e : o' = s.os := ho
  subst e
  exact I.call (g' := g') (t' := t') (d' := d') u hok hg hch
end

/-! ### the judgements -/
/-- an exception: its class, its own dict's address (where it has one), the abstract heap behind it -/
abbrev XK := Value → Option Addr → Hp → Prop
abbrev St := List (Option V)
abbrev VK := V → Hp → Prop
/-- an expression's reading; a test's; an argument list's -/
abbrev TE := St → Hp → VK → Prop
abbrev TT := St → Hp → (Bool → Hp → Prop) → Prop
abbrev TA := St → Hp → (List V → Hp → Prop) → Prop
/-- what is wanted behind a statement -/
structure Ends where
  nx : St → Hp → Prop
  rt : VK
  bk : St → Hp → Prop := fun _ _ => False
  ct : St → Hp → Prop := fun _ _ => False
abbrev TS := Ends → St → Hp → Prop

def EP (X : Cx) (pins : List (Addr × Obj)) (σ : St) (Q : VK) (u : Value) (s' : Shared) : Prop := ∃ v H', Inv X pins σ H' s' ∧ RelV v u ∧ Q v H'
def TP (X : Cx) (pins : List (Addr × Obj)) (σ : St) (Q : Bool → Hp → Prop) (b : Bool) (s' : Shared) : Prop := ∃ H', Inv X pins σ H' s' ∧ Q b H'
def AP (X : Cx) (pins : List (Addr × Obj)) (σ : St) (Q : List V → Hp → Prop) (us : List Value) (s' : Shared) : Prop := ∃ vs H', Inv X pins σ H' s' ∧ Vals vs us ∧ Q vs H'
def SP (X : Cx) (pins : List (Addr × Obj)) (D : Ends) (f : Flow) (s' : Shared) : Prop :=
  match f with
  | .next => ∃ σ' H', Inv X pins σ' H' s' ∧ D.nx σ' H'
  | .brk => ∃ σ' H', Inv X pins σ' H' s' ∧ D.bk σ' H'
  | .cont => ∃ σ' H', Inv X pins σ' H' s' ∧ D.ct σ' H'
  | .ret u => ∃ v σ' H', Inv X pins σ' H' s' ∧ RelV v u ∧ D.rt v H'

def PE (X : Cx) (e : Expr) (t : TE) : Prop :=
  ∀ (pins : List (Addr × Obj)) (s : Shared) (σ : St) (H : Hp) (Q : VK), Inv X pins σ H s → t σ H Q → wpAny (model X.prog X.w) X.A (eval e X.env) (EP X pins σ Q) X.xe s
def PT (X : Cx) (e : Expr) (t : TT) : Prop :=
  ∀ (pins : List (Addr × Obj)) (s : Shared) (σ : St) (H : Hp) (Q : Bool → Hp → Prop), Inv X pins σ H s → t σ H Q → wpAny (model X.prog X.w) X.A (isTrue e X.env (eval e X.env)) (TP X pins σ Q) X.xe s
/-- a test whatever its 'whole' is (and, or) -/
def PW (X : Cx) (e : Expr) (t : TT) : Prop :=
  ∀ (whole : Sem Value) (pins : List (Addr × Obj)) (s : Shared) (σ : St) (H : Hp) (Q : Bool → Hp → Prop), Inv X pins σ H s → t σ H Q → wpAny (model X.prog X.w) X.A (isTrue e X.env whole) (TP X pins σ Q) X.xe s
theorem PW.pt {X : Cx} {e : Expr} {t : TT} (h : PW X e t) : PT X e t := h _
/-- an argument list (no star), from the left -/
def PA (X : Cx) (es : List Expr) (t : TA) : Prop :=
  ∀ (pos : Pos) (pins : List (Addr × Obj)) (s : Shared) (σ : St) (H : Hp) (Q : List V → Hp → Prop), Inv X pins σ H s → t σ H Q → wpAny (model X.prog X.w) X.A (spliced (backTo pos (starEach es X.env))) (AP X pins σ Q) X.xe s
def PS (X : Cx) (st : Stmt) (t : TS) : Prop :=
  ∀ (pins : List (Addr × Obj)) (s : Shared) (σ : St) (H : Hp) (D : Ends), Inv X pins σ H s → t D σ H → wpAny (model X.prog X.w) X.A (exec st X.env) (SP X pins D) X.xe s
def PSs (X : Cx) (st : List Stmt) (t : TS) : Prop :=
  ∀ (pins : List (Addr × Obj)) (s : Shared) (σ : St) (H : Hp) (D : Ends), Inv X pins σ H s → t D σ H → wpAny (model X.prog X.w) X.A (execs st X.env) (SP X pins D) X.xe s
/-- weaken the end -/
theorem thn {α : Type} {t : Sem α} {Q Q' : α → Shared → Prop} {M : Model} {A : Around} {E : Value → Shared → Prop} {s : Shared} (h : wpAny M A t Q E s) (hQ : ∀ a s, Q a s → Q' a s) : wpAny M A t Q' E s := wpAny_mono h hQ fun _ _ x => x
end L2

namespace L2
open PySem PySem.Spec PyProof.Rows
section
variable {X : Cx}

/-- two expressions in a row -/
theorem bin {a b : Expr} {ta tb : TE} (ha : PE X a ta) (hb : PE X b tb) {pins : List (Addr × Obj)} {s : Shared} {σ : St} {H : Hp} {R : V → V → Hp → Prop} (I : Inv X pins σ H s) (h : ta σ H fun x H1 => tb σ H1 fun y H2 => R x y H2)
    {α : Type} {Q : α → Shared → Prop} {f : Value → Value → Sem α}
    (hf : ∀ v u s2 x y H2, Inv X pins σ H2 s2 → RelV x v → RelV y u → R x y H2 → wpAny (model X.prog X.w) X.A (f v u) Q X.xe s2) :
    wpAny (model X.prog X.w) X.A (eval a X.env) (fun v s₁ => wpAny (model X.prog X.w) X.A (eval b X.env) (fun u s₂ => wpAny (model X.prog X.w) X.A (f v u) Q X.xe s₂) X.xe s₁) X.xe s := by
  refine thn (ha pins s σ H _ I h) fun v s1 ⟨x, H1, I1, r1, q1⟩ => ?_
  refine thn (hb pins s1 σ H1 _ I1 q1) fun u s2 ⟨y, H2, I2, r2, q2⟩ => ?_
  exact hf v u s2 x y H2 I2 r1 r2 q2

/-! ### names and constants -/
def tVar (i : Nat) : TE := fun σ H Q => ∃ v, σ[i]? = some (some v) ∧ Q v H
def tC (v : V) : TE := fun _ H Q => Q v H
theorem pe_var {i : Nat} {x : Str} {pos : Pos} (hN : X.N[i]? = some x) (hv : Vis X.env.scope x) (hd : (x == ("__debug__" : Str)) = false := by decide) (hcd : (x == ("__classdict__" : Str)) = false := by decide) : PE X (.Name x pos) (tVar i) := by
  intro pins s σ H Q I h
  obtain ⟨v, e, h⟩ := h
  obtain ⟨m, hn, hl⟩ := I.loc
  obtain ⟨u, r, l⟩ := hl i x v hN e hv
  have fin : EP X pins σ Q u s := ⟨v, H, I, r, h⟩
  rcases l with ⟨hk, hm⟩ | ⟨hk, c, hc, hcell⟩
  · exact wpAny_Name (wpAny_loadName_local I.ok.kind hk hn hm fin) hd
  · rcases hk with hk | hk
    · exact wpAny_Name (wpAny_loadName_cell I.ok.kind hk hc hcell fin) hd
    · exact wpAny_Name (wpAny_loadName_free I.ok.kind hk hc hcell fin hcd) hd
theorem pe_int {i j pos} : PE X (.Constant (.int i) j pos) (tC (.int i)) := fun _ _ _ H _ I h => wpAny_Constant_int ⟨.int i, H, I.tok _, ⟨_, rfl⟩, h⟩
theorem pe_bl {b j pos} : PE X (.Constant (.bool b) j pos) (tC (.bl b)) := fun _ _ _ H _ I h => Constant_bool ⟨.bl b, H, I, rfl, h⟩
theorem pe_non {j pos} : PE X (.Constant .none j pos) (tC .non) := fun _ _ _ H _ I h => Constant_none ⟨.non, H, I, rfl, h⟩
theorem pe_str {x j pos} : PE X (.Constant (.str x) j pos) (tC (.str x)) := fun _ _ _ H _ I h => Calls.Constant_str ⟨.str x, H, I.tok _, ⟨_, rfl⟩, h⟩

/-- a global name of the def -/
def Gl (X : Cx) (x : Str) : Prop := X.env.kindOf x = some .globalImplicit
theorem ld_glob {E : Value → Shared → Prop} {pins : List (Addr × Obj)} {s : Shared} {σ : St} {H : Hp} {x : Str} {u : Value} {pos : Pos} {Q : Value → Shared → Prop} (I : Inv X pins σ H s) (hg : Gl X x) (hm : X.mg x = some u) (h : Q u s)
    (hd : (x == ("__debug__" : Str)) = false := by decide) : wpAny (model X.prog X.w) X.A (eval (.Name x pos) X.env) Q E s :=
  Calls.Name_function_global I.ok.kind hg (Calls.loadGlobal_global (by rw [I.ok.glob]; exact I.mod.glob.keeps I.bk) hm h) hd
theorem ld_blt {E : Value → Shared → Prop} {pins : List (Addr × Obj)} {s : Shared} {σ : St} {H : Hp} {x : Str} {u : Value} {pos : Pos} {Q : Value → Shared → Prop} (I : Inv X pins σ H s) (hg : Gl X x) (hm : X.mg x = none) (hv : bootBuiltins x = some u) (h : Q u s)
    (hn : x ≠ "__name__" := by decide) (hd : (x == ("__debug__" : Str)) = false := by decide) : wpAny (model X.prog X.w) X.A (eval (.Name x pos) X.env) Q E s := by
  obtain ⟨mb, h1, h2⟩ := I.mod.blt
  exact Calls.Name_function_global I.ok.kind hg (Calls.loadGlobal_builtin (by rw [I.ok.glob]; exact I.mod.glob.keeps I.bk) hm (by rw [I.ok.blt]; exact h1.keeps I.bk) ((h2 x hn).trans hv) h) hd
/-- a module's constant, a class, a function, as a value -/
theorem pe_glob {x : Str} {v : V} {u : Value} {pos : Pos} (hg : Gl X x) (hm : X.mg x = some u) (r : RelV v u) (hd : (x == ("__debug__" : Str)) = false := by decide) : PE X (.Name x pos) (tC v) :=
  fun _ _ _ H _ I h => ld_glob I hg hm ⟨v, H, I, r, h⟩ hd
theorem pe_bltn {x : Str} {v : V} {u : Value} {pos : Pos} (hg : Gl X x) (hm : X.mg x = none) (hv : bootBuiltins x = some u) (r : RelV v u) (hn : x ≠ "__name__" := by decide) (hd : (x == ("__debug__" : Str)) = false := by decide) : PE X (.Name x pos) (tC v) :=
  fun _ _ _ H _ I h => ld_blt I hg hm hv ⟨v, H, I, r, h⟩ hn hd

/-! ### arithmetic -/
/-- two ints -/
def t2I (ta tb : TE) (k : Int → Int → Hp → Prop) : St → Hp → Prop := fun σ H => ta σ H fun x H1 => tb σ H1 fun y H2 => ∃ i j, x = .int i ∧ y = .int j ∧ k i j H2
def tAdd (ta tb : TE) : TE := fun σ H Q => t2I ta tb (fun i j H2 => Q (.int (i + j)) H2) σ H
def tSub (ta tb : TE) : TE := fun σ H Q => t2I ta tb (fun i j H2 => Q (.int (i - j)) H2) σ H
/-- the left factor below 2^64 -/
def tMul (ta tb : TE) : TE := fun σ H Q => t2I ta tb (fun i j H2 => (-(2 ^ 64) < i ∧ i < 2 ^ 64) ∧ Q (.int (i * j)) H2) σ H
variable {a b : Expr} {ta tb : TE} {pos : Pos}
theorem pe_add (ha : PE X a ta) (hb : PE X b tb) : PE X (.BinOp a .Add b pos) (tAdd ta tb) := by
  intro pins s σ H Q I h
  refine wpAny_BinOp (bin ha hb I h fun v u s2 x y H2 I2 rx ry q => ?_)
  obtain ⟨i, j, rfl, rfl, q⟩ := q
  obtain ⟨t, rfl⟩ := rx
  obtain ⟨t', rfl⟩ := ry
  exact add_int ⟨.int _, H2, I2.tok _, ⟨_, rfl⟩, q⟩
theorem pe_sub (ha : PE X a ta) (hb : PE X b tb) : PE X (.BinOp a .Sub b pos) (tSub ta tb) := by
  intro pins s σ H Q I h
  refine wpAny_BinOp (bin ha hb I h fun v u s2 x y H2 I2 rx ry q => ?_)
  obtain ⟨i, j, rfl, rfl, q⟩ := q
  obtain ⟨t, rfl⟩ := rx
  obtain ⟨t', rfl⟩ := ry
  exact sub_int ⟨.int _, H2, I2.tok _, ⟨_, rfl⟩, q⟩
theorem pe_mul (ha : PE X a ta) (hb : PE X b tb) : PE X (.BinOp a .Mult b pos) (tMul ta tb) := by
  intro pins s σ H Q I h
  refine wpAny_BinOp (bin ha hb I h fun v u s2 x y H2 I2 rx ry q => ?_)
  obtain ⟨i, j, rfl, rfl, ⟨q1, q2⟩, q⟩ := q
  obtain ⟨t, rfl⟩ := rx
  obtain ⟨t', rfl⟩ := ry
  exact mul_int ⟨.int _, H2, I2.tok _, ⟨_, rfl⟩, q⟩ (.of_left (intBits_le_64 q1 q2))

/-! ### comparisons -/
def PC (X : Cx) (op : CmpOp) (a b : Expr) (t : TE) : Prop :=
  ∀ (pins : List (Addr × Obj)) (s : Shared) (σ : St) (H : Hp) (Q : VK), Inv X pins σ H s → t σ H Q →
    wpAny (model X.prog X.w) X.A (eval a X.env) (fun v s₁ => wpAny (model X.prog X.w) X.A (eval b X.env) (fun u s₂ => wpAny (model X.prog X.w) X.A (compareOp op v u) (EP X pins σ Q) X.xe s₂) X.xe s₁) X.xe s
theorem nobehind (b : Expr) {op : CmpOp} (h : op ≠ .In) (h2 : op ≠ .NotIn) : behindInMarks op b = false := by
  have e1 : (op == CmpOp.In) = false := by cases op <;> first | rfl | exact absurd rfl h
  have e2 : (op == CmpOp.NotIn) = false := by cases op <;> first | rfl | exact absurd rfl h2
  cases b <;> simp [behindInMarks, e1, e2]
def tCmp (p : Int → Int → Bool) (ta tb : TE) : TE := fun σ H Q => t2I ta tb (fun i j H2 => Q (.bl (p i j)) H2) σ H
abbrev tLt : TE → TE → TE := tCmp fun i j => decide (i < j)
abbrev tLe : TE → TE → TE := tCmp fun i j => decide (i ≤ j)
abbrev tGt : TE → TE → TE := tCmp fun i j => decide (j < i)
abbrev tGe : TE → TE → TE := tCmp fun i j => decide (j ≤ i)
abbrev tEqI : TE → TE → TE := tCmp fun i j => decide (i = j)
abbrev tNeI : TE → TE → TE := tCmp fun i j => !decide (i = j)
/-- a comparison of two ints, by its rule -/
theorem pc_int {op : CmpOp} {p : Int → Int → Bool} (ha : PE X a ta) (hb : PE X b tb)
    (rule : ∀ (i j : Int) (t u : Tok) (Q : Value → Shared → Prop) (s : Shared), Q (.bool (p i j)) s → wpAny (model X.prog X.w) X.A (compareOp op (.int i t) (.int j u)) Q X.xe s) : PC X op a b (tCmp p ta tb) := by
  intro pins s σ H Q I h
  refine bin ha hb I h fun v u s2 x y H2 I2 rx ry q => ?_
  obtain ⟨i, j, rfl, rfl, q⟩ := q
  obtain ⟨t, rfl⟩ := rx
  obtain ⟨t', rfl⟩ := ry
  exact rule i j t t' _ s2 ⟨.bl _, H2, I2, rfl, q⟩
theorem pc_lt (ha : PE X a ta) (hb : PE X b tb) : PC X .Lt a b (tLt ta tb) := pc_int ha hb fun _ _ _ _ _ _ h => lt_int h
theorem pc_le (ha : PE X a ta) (hb : PE X b tb) : PC X .LtE a b (tLe ta tb) := pc_int ha hb fun _ _ _ _ _ _ h => le_int h
theorem pc_gt (ha : PE X a ta) (hb : PE X b tb) : PC X .Gt a b (tGt ta tb) := pc_int ha hb fun _ _ _ _ _ _ h => gt_int h
theorem pc_ge (ha : PE X a ta) (hb : PE X b tb) : PC X .GtE a b (tGe ta tb) := pc_int ha hb fun _ _ _ _ _ _ h => ge_int h
theorem pc_eqI (ha : PE X a ta) (hb : PE X b tb) : PC X .Eq a b (tEqI ta tb) := pc_int ha hb fun _ _ _ _ _ _ h => eq_int (by rw [Bool.beq_eq_decide_eq]; exact h)
theorem pc_neI (ha : PE X a ta) (hb : PE X b tb) : PC X .NotEq a b (tNeI ta tb) := pc_int ha hb fun _ _ _ _ _ _ h => ne_int (by rw [bne, Bool.beq_eq_decide_eq]; exact h)
/-- is None -/
def tIsN (ta : TE) : TE := fun σ H Q => ta σ H fun x H1 => Q (.bl (decide (x = .non))) H1
def tNotN (ta : TE) : TE := fun σ H Q => ta σ H fun x H1 => Q (.bl (!decide (x = .non))) H1
theorem RelV.none_iff {x : V} {v : Value} (r : RelV x v) : (v == Value.none) = decide (x = .non) := by
  cases x with
  | non => cases r; rfl
  | bl _ => cases r; rfl
  | int _ => obtain ⟨t, rfl⟩ := r; rfl
  | str _ => obtain ⟨t, rfl⟩ := r; rfl
  | byt _ => obtain ⟨t, rfl⟩ := r; rfl
  | flt _ => obtain ⟨t, rfl⟩ := r; rfl
  | ref _ => cases r; rfl
  | ty _ => cases r; rfl
theorem pc_isN {j pos'} (ha : PE X a ta) : PC X .Is a (.Constant .none j pos') (tIsN ta) := by
  intro pins s σ H Q I h
  refine thn (ha pins s σ H _ I h) fun v s1 ⟨x, H1, I1, r1, q1⟩ => ?_
  exact Constant_none (is_none_gen ⟨.bl _, H1, I1, by rw [r1.none_iff]; rfl, q1⟩)
theorem pc_notN {j pos'} (ha : PE X a ta) : PC X .IsNot a (.Constant .none j pos') (tNotN ta) := by
  intro pins s σ H Q I h
  refine thn (ha pins s σ H _ I h) fun v s1 ⟨x, H1, I1, r1, q1⟩ => ?_
  exact Constant_none (isnot_none_gen ⟨.bl _, H1, I1, by rw [r1.none_iff]; rfl, q1⟩)
/-- a comparison as a value, as a test -/
def tB (t : TE) : TT := fun σ H Q => t σ H fun x H1 => ∃ c, x = .bl c ∧ Q c H1
theorem pe_cmp {op : CmpOp} {t : TE} (h : PC X op a b t) (h1 : behindInMarks op b = false := by first | exact nobehind _ (by decide) (by decide) | rfl) : PE X (.Compare a [op] [b] pos) t := fun pins s σ H Q I hw => wpAny_Compare1 (h pins s σ H Q I hw) h1
theorem pt_cmp {op : CmpOp} {t : TE} (h : PC X op a b t) (h1 : behindInMarks op b = false := by first | exact nobehind _ (by decide) (by decide) | rfl) : PT X (.Compare a [op] [b] pos) (tB t) := by
  intro pins s σ H Q I hw
  refine wpAny_isTrue_Compare1 (thn (h pins s σ H _ I hw) fun v s1 h1 => thn h1 fun u s2 h2 => thn h2 fun c s3 ⟨x, H1, I1, r1, q1⟩ => ?_) h1
  obtain ⟨d, rfl, q⟩ := q1
  cases r1
  exact wpAny_truthy_bool ⟨H1, I1, q⟩
/-- an expression whose value is a bool, as a test -/
theorem pt_val {e : Expr} {t : TE} (h : PE X e t) (he : ∀ whole, isTrue e X.env whole = (do let v ← whole; standAt e.pos; holding [v] (truthy v)) := by intro _; rfl) : PT X e (tB t) := by
  intro pins s σ H Q I hw
  refine isTrue_plain (thn (h pins s σ H _ I hw) fun v s1 ⟨x, H1, I1, r1, q1⟩ => ?_) (he _)
  obtain ⟨d, rfl, q⟩ := q1
  cases r1
  exact wpAny_truthy_bool ⟨H1, I1, q⟩

/-! ### and, or, not -/
variable {tA tB' : TT} {rest : List Expr}
def tAnd (t u : TT) : TT := fun σ H Q => t σ H fun c H1 => if c = true then u σ H1 Q else Q false H1
def tOr (t u : TT) : TT := fun σ H Q => t σ H fun c H1 => if c = true then Q true H1 else u σ H1 Q
def tNot (t : TT) : TT := fun σ H Q => t σ H fun c H1 => Q (!c) H1
theorem pw_and1 (ha : PT X a tA) : PW X (.BoolOp .And [a] pos) tA := by
  intro wh pins s σ H Q I h
  refine isTrue_and (thn (ha pins s σ H Q I h) fun c s1 e => ?_)
  cases c with
  | true => exact isTrue_and_nil e
  | false => exact e
theorem pw_or1 (ha : PT X a tA) : PW X (.BoolOp .Or [a] pos) tA := by
  intro wh pins s σ H Q I h
  refine isTrue_or (thn (ha pins s σ H Q I h) fun c s1 e => ?_)
  cases c with
  | false => exact isTrue_or_nil e
  | true => exact e
theorem pw_and (ha : PT X a tA) (hb : PW X (.BoolOp .And (b :: rest) pos) tB') : PW X (.BoolOp .And (a :: b :: rest) pos) (tAnd tA tB') := by
  intro wh pins s σ H Q I h
  refine isTrue_and (thn (ha pins s σ H _ I h) fun c s1 ⟨H1, I1, q1⟩ => ?_)
  cases c with
  | true => exact hb wh pins s1 σ H1 Q I1 q1
  | false => exact ⟨H1, I1, q1⟩
theorem pw_or (ha : PT X a tA) (hb : PW X (.BoolOp .Or (b :: rest) pos) tB') : PW X (.BoolOp .Or (a :: b :: rest) pos) (tOr tA tB') := by
  intro wh pins s σ H Q I h
  refine isTrue_or (thn (ha pins s σ H _ I h) fun c s1 ⟨H1, I1, q1⟩ => ?_)
  cases c with
  | true => exact ⟨H1, I1, q1⟩
  | false => exact hb wh pins s1 σ H1 Q I1 q1
theorem pt_not (ha : PT X a tA) : PT X (.UnaryOp .Not a pos) (tNot tA) := by
  intro pins s σ H Q I h
  exact isTrue_not (ha pins s σ H (fun c H1 => Q (!c) H1) I h)
/-- .. as values (bools) -/
def tAndV (ta tb : TE) : TE := fun σ H Q => ta σ H fun x H1 => ∃ c, x = .bl c ∧ if c = true then tb σ H1 Q else Q (.bl false) H1
def tOrV (ta tb : TE) : TE := fun σ H Q => ta σ H fun x H1 => ∃ c, x = .bl c ∧ if c = true then Q (.bl true) H1 else tb σ H1 Q
def tNotV (ta : TE) : TE := fun σ H Q => ta σ H fun x H1 => ∃ c, x = .bl c ∧ Q (.bl (!c)) H1
theorem pe_one {op} {t : TE} (h : PE X a t) : PE X (.BoolOp op [a] pos) t := fun pins s σ H Q I hw => BoolOp_one (h pins s σ H Q I hw)
theorem pe_and (ha : PE X a ta) (hb : PE X (.BoolOp .And (b :: rest) pos) tb) : PE X (.BoolOp .And (a :: b :: rest) pos) (tAndV ta tb) := by
  intro pins s σ H Q I h
  refine BoolOp_and (thn (ha pins s σ H _ I h) fun v s1 ⟨x, H1, I1, r1, q1⟩ => ?_)
  obtain ⟨c, rfl, q1⟩ := q1
  cases r1
  refine wpAny_truthy_bool ?_
  cases c with
  | true => exact hb pins s1 σ H1 Q I1 q1
  | false => exact ⟨.bl false, H1, I1, rfl, q1⟩
theorem pe_or (ha : PE X a ta) (hb : PE X (.BoolOp .Or (b :: rest) pos) tb) : PE X (.BoolOp .Or (a :: b :: rest) pos) (tOrV ta tb) := by
  intro pins s σ H Q I h
  refine BoolOp_or (thn (ha pins s σ H _ I h) fun v s1 ⟨x, H1, I1, r1, q1⟩ => ?_)
  obtain ⟨c, rfl, q1⟩ := q1
  cases r1
  refine wpAny_truthy_bool ?_
  cases c with
  | false => exact hb pins s1 σ H1 Q I1 q1
  | true => exact ⟨.bl true, H1, I1, rfl, q1⟩
theorem pe_not (ha : PE X a ta) : PE X (.UnaryOp .Not a pos) (tNotV ta) := by
  intro pins s σ H Q I h
  refine UnaryOp_ (thn (ha pins s σ H _ I h) fun v s1 ⟨x, H1, I1, r1, q1⟩ => ?_)
  obtain ⟨c, rfl, q1⟩ := q1
  cases r1
  exact not_of (wpAny_truthy_bool ⟨.bl (!c), H1, I1, rfl, q1⟩)
/-- a if t else b -/
def tIf (t : TT) (ta tb : TE) : TE := fun σ H Q => t σ H fun c H1 => if c = true then ta σ H1 Q else tb σ H1 Q
theorem pe_ifExp {c : Expr} (hc : PT X c tA) (ha : PE X a ta) (hb : PE X b tb) : PE X (.IfExp c a b pos) (tIf tA ta tb) := by
  intro pins s σ H Q I h
  refine wpAny_IfExp (thn (hc pins s σ H _ I h) fun d s1 ⟨H1, I1, q1⟩ => ?_)
  cases d with
  | true => exact ha pins s1 σ H1 Q I1 q1
  | false => exact hb pins s1 σ H1 Q I1 q1
end
end L2

namespace L2
open PySem PySem.Spec PyProof.Rows

/-! ### a list, a tuple that is read: tracked, frozen, or an object of the module -/
def SqL (K : PySem.W.Frag) (H : Hp) (a : Addr) (xs : List V) : Prop :=
  Rd H a (.lst xs) ∨
    ∃ (o : Obj) (its : Array Value) (n : Nat), K.lookup a = some o ∧ o.cls = .type "list" ∧ o.dict = none ∧ o.data = .seq its n ∧ its.size ≤ sizeLine ∧ Vals xs its.toList
def SqT (K : PySem.W.Frag) (H : Hp) (a : Addr) (xs : List V) : Prop :=
  Rd H a (.tup xs) ∨
    ∃ (o : Obj) (its : Array Value) (n : Nat), K.lookup a = some o ∧ o.cls = .type "tuple" ∧ o.data = .seq its n ∧ its.size ≤ sizeLine ∧ Vals xs its.toList
def absV : Value → Option V
  | .none => some .non
  | .bool b => some (.bl b)
  | .int i _ => some (.int i)
  | .str x _ => some (.str x)
  | .bytes b _ => some (.byt b)
  | .float b _ => some (.flt b)
  | .ref a => some (.ref a)
  | .type n => some (.ty n)
  | _ => none
theorem RelV.abs {x : V} {u : Value} (r : RelV x u) : absV u = some x := by
  cases x with
  | non => cases r; rfl
  | bl _ => cases r; rfl
  | int _ => obtain ⟨t, rfl⟩ := r; rfl
  | str _ => obtain ⟨t, rfl⟩ := r; rfl
  | byt _ => obtain ⟨t, rfl⟩ := r; rfl
  | flt _ => obtain ⟨t, rfl⟩ := r; rfl
  | ref _ => cases r; rfl
  | ty _ => cases r; rfl
theorem RelV.inj {x y : V} {u : Value} (r : RelV x u) (q : RelV y u) : x = y := Option.some.inj (r.abs.symm.trans q.abs)
theorem Vals.inj : ∀ {xs ys : List V} {us : List Value}, Vals xs us → Vals ys us → xs = ys
  | _, _, _, .nil, .nil => rfl
  | _, _, _, .cons r t, .cons r' t' => by rw [r.inj r', Vals.inj t t']
section
variable {X : Cx} {pins : List (Addr × Obj)} {σ : St} {H : Hp} {s : Shared} {a : Addr} {xs ys : List V}
theorem SqL.of {K : PySem.W.Frag} (h : H a = some (.lst xs)) : SqL K H a xs := .inl (.inl h)
theorem SqT.of {K : PySem.W.Frag} (h : H a = some (.tup xs)) : SqT K H a xs := .inl (.inl h)
theorem Inv.list (I : Inv X pins σ H s) (h : SqL X.K H a xs) : ∃ its : List Value, Vals xs its ∧ PlainL s.heap a its.toArray ∧ xs.length ≤ sizeLine := by
  rcases h with h | ⟨o, its, n, hk, hc, hd, hs, hz, r⟩
  · obtain ⟨z, its, n, r, e⟩ := h.ok I.hok
    exact ⟨its, r, ⟨_, n, e, rfl, rfl, rfl⟩, z⟩
  · refine ⟨its.toList, r, ⟨o, n, I.kIn a o hk, hc, hd, by simpa using hs⟩, ?_⟩
    have e := r.length
    simp only [Array.length_toList] at e
    omega
theorem Inv.tuple (I : Inv X pins σ H s) (h : SqT X.K H a xs) : ∃ its : List Value, Vals xs its ∧ IsTup s.heap a its.toArray ∧ xs.length ≤ sizeLine := by
  rcases h with h | ⟨o, its, n, hk, hc, hs, hz, r⟩
  · obtain ⟨z, its, r, p⟩ := h.ok I.hok
    exact ⟨its, r, p.tup, z⟩
  · refine ⟨its.toList, r, ⟨o, I.kIn a o hk, hc, n, by simpa using hs⟩, ?_⟩
    have e := r.length
    simp only [Array.length_toList] at e
    omega
theorem Inv.list_inj (I : Inv X pins σ H s) (h : SqL X.K H a xs) (h' : SqL X.K H a ys) : xs = ys := by
  obtain ⟨its, r, ⟨o, n, e, _, _, d⟩, _⟩ := I.list h
  obtain ⟨its', r', ⟨o', n', e', _, _, d'⟩, _⟩ := I.list h'
  rw [e] at e'; cases e'
  rw [d] at d'
  injection d' with d1 _
  have : its = its' := by simpa using congrArg Array.toList d1
  subst this
  exact r.inj r'
theorem Inv.tuple_inj (I : Inv X pins σ H s) (h : SqT X.K H a xs) (h' : SqT X.K H a ys) : xs = ys := by
  obtain ⟨its, r, ⟨o, e, _, n, d⟩, _⟩ := I.tuple h
  obtain ⟨its', r', ⟨o', e', _, n', d'⟩, _⟩ := I.tuple h'
  rw [e] at e'; cases e'
  rw [d] at d'
  injection d' with d1 _
  have : its = its' := by simpa using congrArg Array.toList d1
  subst this
  exact r.inj r'
end

/-! ### another wish about exceptions -/
abbrev Cx.wish (X : Cx) (E : Value → Shared → Prop) : Cx := { X with xe := E }
/-- no exception leaves -/
abbrev Cx.nox (X : Cx) : Cx := X.wish fun _ _ => False
theorem Cx.Ok.wish {X : Cx} (ok : X.Ok) (E : Value → Shared → Prop) : (X.wish E).Ok :=
  ⟨ok.mod, ok.kind, ok.glob, ok.blt, ok.above, ok.inj, ok.has, ok.cab, ok.hd, ok.frames, ok.stk, ok.exf, ok.bs, ok.bsz, ok.noex, ok.exfs, ok.funs, ok.frf⟩
theorem Cx.Ok.unwish {X : Cx} {E : Value → Shared → Prop} (ok : (X.wish E).Ok) : X.Ok :=
  ⟨ok.mod, ok.kind, ok.glob, ok.blt, ok.above, ok.inj, ok.has, ok.cab, ok.hd, ok.frames, ok.stk, ok.exf, ok.bs, ok.bsz, ok.noex, ok.exfs, ok.funs, ok.frf⟩
section
variable {X : Cx} {pins : List (Addr × Obj)} {σ : St} {H : Hp} {s : Shared} {E : Value → Shared → Prop}
theorem Inv.wish (I : Inv X pins σ H s) (E : Value → Shared → Prop) : Inv (X.wish E) pins σ H s := ⟨I.ok.wish E, I.os, I.bare, I.base, I.loc, I.cell, I.free, I.freeC, I.pin, I.hok, I.len⟩
theorem Inv.unwish (I : Inv (X.wish E) pins σ H s) : Inv X pins σ H s := ⟨I.ok.unwish, I.os, I.bare, I.base, I.loc, I.cell, I.free, I.freeC, I.pin, I.hok, I.len⟩
theorem SP.unwish {D : Ends} {f : Flow} {s' : Shared} (h : SP (X.wish E) pins D f s') : SP X pins D f s' := by
  cases f with
  | next => obtain ⟨σ', H', I, q⟩ := h; exact ⟨σ', H', I.unwish, q⟩
  | brk => obtain ⟨σ', H', I, q⟩ := h; exact ⟨σ', H', I.unwish, q⟩
  | cont => obtain ⟨σ', H', I, q⟩ := h; exact ⟨σ', H', I.unwish, q⟩
  | ret u => obtain ⟨v, σ', H', I, r, q⟩ := h; exact ⟨v, σ', H', I.unwish, r, q⟩
theorem PE.nox {e : Expr} {t : TE} (h : PE X.nox e t) : PE X e t := fun pins s σ H Q I hw =>
  wpAny_mono (h pins s σ H Q (I.wish _) hw) (fun _ _ ⟨v, H', I', r, q⟩ => ⟨v, H', I'.unwish, r, q⟩) fun _ _ z => False.elim z
theorem PT.nox {e : Expr} {t : TT} (h : PT X.nox e t) : PT X e t := fun pins s σ H Q I hw =>
  wpAny_mono (h pins s σ H Q (I.wish _) hw) (fun _ _ ⟨H', I', q⟩ => ⟨H', I'.unwish, q⟩) fun _ _ z => False.elim z
theorem PSs.nox {st : List Stmt} {t : TS} (h : PSs X.nox st t) : PSs X st t := fun pins s σ H D I hw =>
  wpAny_mono (h pins s σ H D (I.wish _) hw) (fun _ _ q => q.unwish) fun _ _ z => False.elim z
end

/-! ### blocks and small statements -/
section
variable {X : Cx} {st : Stmt} {rest : List Stmt} {t u : TS} {e : Expr} {te : TE} {pos : Pos}
def tNext : TS := fun D σ H => D.nx σ H
def tSeq (t u : TS) : TS := fun D σ H => t { D with nx := u D } σ H
theorem pss_nil : PSs X [] tNext := fun _ _ σ H _ I h => wpAny_execs_nil ⟨σ, H, I, h⟩
theorem pss_cons (h1 : PS X st t) (h2 : PSs X rest u) : PSs X (st :: rest) (tSeq t u) := by
  intro pins s σ H D I h
  refine wpAny_execs_cons (thn (h1 pins s σ H { D with nx := u D } I h) fun f s1 q => ?_)
  cases f with
  | next =>
    obtain ⟨σ', H', I', q⟩ := q
    exact h2 pins s1 σ' H' D I' q
  | ret v => exact q
  | brk => exact q
  | cont => exact q
theorem pss_one (h1 : PS X st t) : PSs X [st] t := by
  intro pins s σ H D I h
  refine wpAny_execs_cons (thn (h1 pins s σ H D I h) fun f s1 q => ?_)
  cases f with
  | next => exact wpAny_execs_nil q
  | ret v => exact q
  | brk => exact q
  | cont => exact q
def tBreak : TS := fun D σ H => D.bk σ H
def tCont : TS := fun D σ H => D.ct σ H
theorem ps_pass : PS X (.Pass pos) tNext := fun _ _ σ H _ I h => wpAny_Pass ⟨σ, H, I, h⟩
theorem ps_break : PS X (.Break pos) tBreak := fun _ _ σ H _ I h => wpAny_Break ⟨σ, H, I, h⟩
theorem ps_continue : PS X (.Continue pos) tCont := fun _ _ σ H _ I h => wpAny_Continue ⟨σ, H, I, h⟩
/-- in a def's body nothing is shown -/
theorem Inv.quiet {pins : List (Addr × Obj)} {σ : St} {H : Hp} {s : Shared} (I : Inv X pins σ H s) : interactive X.env = false := by simp [interactive, I.ok.kind]
/-- a docstring -/
theorem ps_doc {x j pos pos'} : PS X (.Expr (.Constant (.str x) j pos) pos') tNext := fun _ s σ H _ I h => wpAny_Expr (Calls.Constant_str (show SP X _ _ .next { s with toks := s.toks + 1 } from ⟨σ, H, I.tok _, h⟩)) I.quiet
/-- an expression whose value is dropped -/
def tDrop (te : TE) : TS := fun D σ H => te σ H fun _ H1 => D.nx σ H1
theorem ps_expr (he : PE X e te) (hs : swapsWith e none pos.line X.env = pure false := by rfl) : PS X (.Expr e pos) (tDrop te) := by
  intro pins s σ H D I h
  exact wpAny_Expr_any (thn (he pins s σ H _ I h) fun v s1 ⟨x, H1, I1, r1, q1⟩ => ⟨σ, H1, I1, q1⟩) I.quiet hs
def tRet (te : TE) : TS := fun D σ H => te σ H D.rt
theorem ps_ret (he : PE X e te) : PS X (.Return (some e) pos) (tRet te) := by
  intro pins s σ H D I h
  exact wpAny_Return_some (thn (he pins s σ H _ I h) fun v s1 ⟨x, H1, I1, r1, q1⟩ => ⟨x, σ, H1, I1, r1, q1⟩)
def tRetN : TS := fun D _ H => D.rt .non H
theorem ps_retN : PS X (.Return none pos) tRetN := fun _ _ σ H _ I h => wpAny_Return_none ⟨.non, σ, H, I, rfl, h⟩
def tIfS (c : TT) (t u : TS) : TS := fun D σ H => c σ H fun b H1 => if b = true then t D σ H1 else u D σ H1
theorem ps_if {c : Expr} {a b : List Stmt} {tc : TT} (hc : PT X c tc) (ha : PSs X a t) (hb : PSs X b u) : PS X (.If c a b pos) (tIfS tc t u) := by
  intro pins s σ H D I h
  refine wpAny_If (thn (hc pins s σ H _ I h) fun d s1 ⟨H1, I1, q1⟩ => ?_)
  cases d with
  | true => exact ha pins s1 σ H1 D I1 q1
  | false => exact hb pins s1 σ H1 D I1 q1
/-- code that the proof never comes to -/
def tNever : TS := fun _ _ _ => False
theorem ps_never : PS X st tNever := fun _ _ _ _ _ _ h => h.elim
theorem pss_never {sts : List Stmt} : PSs X sts tNever := fun _ _ _ _ _ _ h => h.elim
end

/-! ### targets -/
abbrev TG := V → St → Hp → (St → Hp → Prop) → Prop
abbrev TGs := List V → St → Hp → (St → Hp → Prop) → Prop
def PG (X : Cx) (target : Expr) (t : TG) : Prop :=
  ∀ (pins : List (Addr × Obj)) (s : Shared) (σ : St) (H : Hp) (v : V) (u : Value) (Q : St → Hp → Prop), Inv X pins σ H s → RelV v u → t v σ H Q →
    wpAny (model X.prog X.w) X.A (assign target X.env u) (fun _ s' => ∃ σ' H', Inv X pins σ' H' s' ∧ Q σ' H') X.xe s
/-- several targets, one after another -/
def PGs (X : Cx) (ts : List Expr) (t : TGs) : Prop :=
  ∀ (pins : List (Addr × Obj)) (s : Shared) (σ : St) (H : Hp) (vs : List V) (us : List Value) (Q : St → Hp → Prop), Inv X pins σ H s → Vals vs us → t vs σ H Q →
    wpAny (model X.prog X.w) X.A (assignInOrder ((assignEach ts X.env).map (·.2)) us) (fun _ s' => ∃ σ' H', Inv X pins σ' H' s' ∧ Q σ' H') X.xe s
/-- o[i] = v, by values -/
abbrev TSet := V → V → V → Hp → (Hp → Prop) → Prop
def PSet (X : Cx) (t : TSet) : Prop :=
  ∀ (pins : List (Addr × Obj)) (s : Shared) (σ : St) (H : Hp) (o i v : V) (ov iv u : Value) (Q : Hp → Prop), Inv X pins σ H s → RelV o ov → RelV i iv → RelV v u → t o i v H Q →
    wpAny (model X.prog X.w) X.A (setItem ov iv u) (fun _ s' => ∃ H', Inv X pins σ H' s' ∧ Q H') X.xe s
/-- a op= b, by values -/
abbrev TIp := V → V → Hp → VK → Prop
def PIp (X : Cx) (op : Operator) (t : TIp) : Prop :=
  ∀ (pins : List (Addr × Obj)) (s : Shared) (σ : St) (H : Hp) (x y : V) (v u : Value) (Q : VK), Inv X pins σ H s → RelV x v → RelV y u → t x y H Q →
    wpAny (model X.prog X.w) X.A (inplaceOp op v u) (EP X pins σ Q) X.xe s
section
variable {X : Cx} {pos : Pos}
def gName (i : Nat) : TG := fun v σ H Q => Q (σ.set i (some v)) H
theorem pg_name {i : Nat} {x : Str} (hN : X.N.Nodup) (hi : X.N[i]? = some x) (hx : Loc X.env.scope x) (hf : X.fn x = true ∨ X.env.scope.names.lookup x = some .local := by first | exact .inl rfl | exact .inr rfl | assumption) : PG X (.Name x pos) (gName i) := by
  intro pins s σ H v u Q I r h
  exact wpAny_assign_Name (store_ok I hN hi hx r (fun s' I' => ⟨_, H, I', h⟩) hf)
def gNil : TGs := fun vs σ H Q => vs = [] ∧ Q σ H
def gCons (t : TG) (u : TGs) : TGs := fun vs σ H Q => ∃ v r, vs = v :: r ∧ t v σ H fun σ' H' => u r σ' H' Q
theorem pgs_nil : PGs X [] gNil := by
  intro pins s σ H vs us Q I r h
  obtain ⟨e, h⟩ := h
  subst e
  cases r
  exact assignInOrder_nil ⟨σ, H, I, h⟩
theorem pgs_cons {e : Expr} {es : List Expr} {t : TG} {u : TGs} (h1 : PG X e t) (h2 : PGs X es u)
    (hs : (assignEach (e :: es) X.env).map (·.2) = assign e X.env :: (assignEach es X.env).map (·.2) := by rfl) : PGs X (e :: es) (gCons t u) := by
  intro pins s σ H vs us Q I r h
  obtain ⟨v, vr, e1, h⟩ := h
  subst e1
  cases r with
  | cons r rr =>
    rw [hs]
    refine assignInOrder_cons (thn (h1 pins s σ H _ _ _ I r h) fun _ s1 ⟨σ1, H1, I1, q1⟩ => ?_)
    exact h2 pins s1 σ1 H1 _ _ Q I1 rr q1
/-- (a, b, ..) = a tuple of that length -/
def gTup (K : PySem.W.Frag) (n : Nat) (t : TGs) : TG := fun v σ H Q => ∃ a xs, v = .ref a ∧ SqT K H a xs ∧ xs.length = n ∧ t xs σ H Q
theorem pg_tup {es : List Expr} {k : Nat} {t : TGs} {n : Nat} (hc : X.calm = true) (h : PGs X es t)
    (hn : (assignEach es X.env).length = n := by rfl) (hst : (assignEach es X.env).findIdx? (·.1) = none := by rfl) : PG X (.Tuple es k pos) (gTup X.K n t) := by
  intro pins s σ H v u Q I r hw
  obtain ⟨a, xs, e1, hq, hl, hw⟩ := hw
  subst e1
  cases r
  obtain ⟨its, rv, ht, hz⟩ := I.tuple hq
  refine assign_Tuple_tuple (I.ok.hd hc) ht (by simp [hn, ← hl, rv.length]) hst fun h' hx => ?_
  have I1 : Inv X pins σ H { s with heap := h' } := I.kept (t' := s.toks) fun b o e => hx b o (Nat.ne_of_lt (Heap.lt_size e)) e
  exact h pins _ σ H xs _ Q I1 (by simpa using rv) hw
/-- o[i] = .. -/
def gSub (to ti : TE) (t : TSet) : TG := fun v σ H Q => to σ H fun o H1 => ti σ H1 fun i H2 => t o i v H2 fun H3 => Q σ H3
theorem pg_sub {o i : Expr} {to ti : TE} {t : TSet} (ho : PE X o to) (hi : PE X i ti) (hs : PSet X t)
    (ha : ∀ v, assign (.Subscript o i pos) X.env v = (do
      let ov ← holding [v] (eval o X.env)
      let iv ← holding [v, ov] (eval i X.env)
      standAt pos
      holding [v, ov, iv] (setItem ov iv v)
      release [v, ov, iv] []) := by intro _; rfl) : PG X (.Subscript o i pos) (gSub to ti t) := by
  intro pins s σ H v u Q I r h
  rw [ha]
  refine wpAny_bind (wpAny_holding (thn (ho pins s σ H _ I h) fun ov s1 ⟨x, H1, I1, r1, q1⟩ => ?_))
  refine wpAny_bind (wpAny_holding (thn (hi pins s1 σ H1 _ I1 q1) fun iv s2 ⟨y, H2, I2, r2, q2⟩ => ?_))
  refine wpAny_bind (wpAny_standAt (wpAny_bind (wpAny_holding (thn (hs pins s2 σ H2 x y v ov iv u _ I2 r1 r2 r q2) fun _ s3 ⟨H3, I3, q3⟩ => ?_))))
  exact wpAny_release ⟨σ, H3, I3, q3⟩
/-- target = value -/
def tAsg (te : TE) (g : TG) : TS := fun D σ H => te σ H fun x H1 => g x σ H1 D.nx
theorem ps_asg {tg e : Expr} {te : TE} {g : TG} (he : PE X e te) (hg : PG X tg g) (hs : swapsWithSole [tg] e pos.line X.env = pure false := by rfl) (hw : swappedStores [tg] e X.env = pure none := by rfl)
    (h1 : (assignEach [tg] X.env).map (·.2) = [assign tg X.env] := by rfl) : PS X (.Assign [tg] e pos) (tAsg te g) := by
  intro pins s σ H D I h
  refine wpAny_Assign_stores (thn (he pins s σ H _ I h) fun v s1 ⟨x, H1, I1, r1, q1⟩ => ?_) hs hw
  rw [h1]
  exact thn (hg pins s1 σ H1 x v _ I1 r1 q1) fun _ s2 q => q
/-- name = value -/
theorem ps_set {i : Nat} {x : Str} {e : Expr} {te : TE} {pos' : Pos} (hN : X.N.Nodup) (hi : X.N[i]? = some x) (hx : Loc X.env.scope x) (he : PE X e te) (hs : swapsWith e (some (.Name x pos')) pos.line X.env = pure false := by rfl) (hf : X.fn x = true ∨ X.env.scope.names.lookup x = some .local := by first | exact .inl rfl | exact .inr rfl | assumption) :
    PS X (.Assign [.Name x pos'] e pos) (tAsg te (gName i)) := by
  intro pins s σ H D I h
  refine wpAny_Assign_Name (thn (he pins s σ H _ I h) fun v s1 ⟨y, H1, I1, r1, q1⟩ => ?_) hs
  exact store_ok I1 hN hi hx r1 (fun s2 I2 => ⟨_, H1, I2, q1⟩) hf
/-- a, b = x, y with plain local names: stored from the right; the pair itself is not tracked (the opening rows as in PyProof/Rows/TupAssign.lean:23) -/
def tPar (i j : Nat) (ta : TA) : TS := fun D σ H => ta σ H fun vs H1 => ∃ v w, vs = [v, w] ∧ D.nx ((σ.set i (some v)).set j (some w)) H1
theorem ps_par {i j : Nat} {x y : Str} {a b : Expr} {ta : TA} {px py pt : Pos} {kt k2 pt2} (hc : X.calm = true) (hN : X.N.Nodup) (hi : X.N[i]? = some x) (hj : X.N[j]? = some y) (hij : i ≠ j)
    (hx : X.env.scope.names.lookup x = some .local) (hy : X.env.scope.names.lookup y = some .local) (ha : PA X [a, b] ta)
    (hw : swappedStores [.Tuple [.Name x px, .Name y py] kt pt] (.Tuple [a, b] k2 pt2) X.env = pure (some [x, y]))
    (hs : swapsWithSole [.Tuple [.Name x px, .Name y py] kt pt] (.Tuple [a, b] k2 pt2) pos.line X.env = pure false := by rfl) :
    PS X (.Assign [.Tuple [.Name x px, .Name y py] kt pt] (.Tuple [a, b] k2 pt2) pos) (tPar i j ta) := by
  intro pins s σ H D I h
  rw [exec_Assign_arm]
  refine wpAny_bind (wpAny_standAt ?_)
  rw [hs]
  refine wpAny_bind (wpAny_pure ?_)
  rw [if_neg (by decide)]
  refine wpAny_bind (Tuple_ (thn (ha _ pins s σ H _ I h) fun us s1 ⟨vs, H1, I1, r1, q1⟩ => ?_))
  obtain ⟨v, w, e1, q1⟩ := q1
  subst e1
  obtain ⟨u1, u2, rfl, rv, rw'⟩ : ∃ u1 u2, us = [u1, u2] ∧ RelV v u1 ∧ RelV w u2 := by
    cases r1 with
    | cons p q =>
      cases q with
      | cons p' q' =>
        cases q'
        exact ⟨_, _, rfl, p, p'⟩
  refine wpAny_newObj_type ?_ (by show 2 ≤ sizeLine; decide)
  have I2 : Inv X pins σ H1 { s1 with heap := s1.heap.push { cls := .type "tuple", data := .seq [u1, u2].toArray } } := I1.kept (t' := s1.toks) fun b o e => Heap.get?_push_of_some _ e
  rw [hw]
  refine wpAny_bind (wpAny_pure ?_)
  show wpAny (model X.prog X.w) X.A (do rule "assign.swapped-stores"; let items ← unpackItems (.ref s1.heap.objs.size) 2 none; assignInOrder [fun v => bindName X.env y v, fun v => bindName X.env x v] items.reverse; pure Flow.next) _ _ _
  refine wpAny_bind (wpAny_rule (wpAny_bind (unpackItems_tuple (items := #[u1, u2]) (I.ok.hd hc) (IsTup.new s1.heap _) fun h' hx' => ?_)))
  have I3 := I2.kept (h' := h') (t' := s1.toks) fun b o e => hx' b o (Nat.ne_of_lt (Heap.lt_size e)) e
  show wpAny _ _ (assignInOrder [fun v => bindName X.env y v, fun v => bindName X.env x v] [u2, u1] >>= fun _ => pure Flow.next) _ _ _
  refine wpAny_bind (assignInOrder_cons (wpAny_bindName (store_ok I3 hN hj (.inl hy) rw' (fun s2 I4 => ?_) (.inr hy))))
  refine assignInOrder_cons (wpAny_bindName (store_ok I4 hN hi (.inl hx) rv (fun s3 I5 => assignInOrder_nil (wpAny_pure ?_)) (.inr hx)))
  rw [List.set_comm _ _ (Ne.symm hij)] at I5
  exact ⟨_, H1, I5, q1⟩
/-- name op= e -/
def tAug (i : Nat) (te : TE) (ti : TIp) : TS := fun D σ H => ∃ x, σ[i]? = some (some x) ∧ te σ H fun y H1 => ti x y H1 fun z H2 => D.nx (σ.set i (some z)) H2
theorem ps_aug {i : Nat} {x : Str} {e : Expr} {te : TE} {op : Operator} {ti : TIp} {pos' : Pos} (hN : X.N.Nodup) (hi : X.N[i]? = some x) (hx : Loc X.env.scope x) (he : PE X e te) (ho : PIp X op ti) (hf : X.fn x = true ∨ X.env.scope.names.lookup x = some .local := by first | exact .inl rfl | exact .inr rfl | assumption) :
    PS X (.AugAssign (.Name x pos') op e pos) (tAug i te ti) := by
  intro pins s σ H D I h
  obtain ⟨v, e1, h⟩ := h
  obtain ⟨m, hn, hl⟩ := I.loc
  have vis : Vis X.env.scope x := by rcases hx with k | k; exact .inl k; exact .inr (.inl k)
  obtain ⟨u, r, l⟩ := hl i x v hi e1 vis
  refine wpAny_AugAssign_Name ?_
  have go : wpAny (model X.prog X.w) X.A (eval e X.env) (fun w s₂ => wpAny (model X.prog X.w) X.A (inplaceOp op u w) (fun r s₃ => wpAny (model X.prog X.w) X.A (storeName X.env x r) (fun _ => SP X pins D .next) X.xe s₃) X.xe s₂) X.xe s := by
    refine thn (he pins s σ H _ I h) fun w s1 ⟨y, H1, I1, r1, q1⟩ => ?_
    refine thn (ho pins s1 σ H1 v y u w _ I1 r r1 q1) fun z s2 ⟨zv, H2, I2, r2, q2⟩ => ?_
    exact store_ok I2 hN hi hx r2 (fun s3 I3 => ⟨_, H2, I3, q2⟩) hf
  rcases l with ⟨hk, hm⟩ | ⟨hk, c, hc, hcell⟩
  · exact wpAny_loadName_local I.ok.kind hk hn hm go
  · rcases hk with hk | hk
    · exact wpAny_loadName_cell I.ok.kind hk hc hcell go
    · rcases hx with k | k
      · have : X.env.scope.names.lookup x = some .free := hk
        rw [k] at this; cases this
      · have : X.env.scope.names.lookup x = some .free := hk
        rw [k] at this; cases this
/-- o[i] op= e -/
def tAugS (to ti te : TE) (tget : V → V → Hp → VK → Prop) (tip : TIp) (tset : TSet) : TS := fun D σ H => to σ H fun o H1 => ti σ H1 fun i H2 => tget o i H2 fun x H3 => te σ H3 fun y H4 => tip x y H4 fun z H5 => tset o i z H5 fun H6 => D.nx σ H6
/-- o[i], by values -/
def PGet (X : Cx) (t : V → V → Hp → VK → Prop) : Prop :=
  ∀ (pins : List (Addr × Obj)) (s : Shared) (σ : St) (H : Hp) (o i : V) (ov iv : Value) (Q : VK), Inv X pins σ H s → RelV o ov → RelV i iv → t o i H Q →
    wpAny (model X.prog X.w) X.A (getItem ov iv) (EP X pins σ Q) X.xe s
theorem ps_augS {o i e : Expr} {to ti te : TE} {tget : V → V → Hp → VK → Prop} {tip : TIp} {tset : TSet} {op : Operator} {tpos : Pos} (ho : PE X o to) (hi : PE X i ti) (hg : PGet X tget) (he : PE X e te) (hp : PIp X op tip) (hs : PSet X tset)
    (ha : ∀ ov iv new, augStore i ov iv new = (do holding [new, ov, iv] (setItem ov iv new); release [new, ov, iv] []; pure .next) := by intros; rfl) : PS X (.AugAssign (.Subscript o i tpos) op e pos) (tAugS to ti te tget tip tset) := by
  intro pins s σ H D I h
  refine wpAny_AugAssign_SubscriptAny (thn (ho pins s σ H _ I h) fun ov s1 ⟨x1, H1, I1, r1, q1⟩ => ?_) ha
  refine thn (hi pins s1 σ H1 _ I1 q1) fun iv s2 ⟨x2, H2, I2, r2, q2⟩ => ?_
  refine thn (hg pins s2 σ H2 x1 x2 ov iv _ I2 r1 r2 q2) fun old s3 ⟨x3, H3, I3, r3, q3⟩ => ?_
  refine thn (he pins s3 σ H3 _ I3 q3) fun v s4 ⟨x4, H4, I4, r4, q4⟩ => ?_
  refine thn (hp pins s4 σ H4 x3 x4 old v _ I4 r3 r4 q4) fun new s5 ⟨x5, H5, I5, r5, q5⟩ => ?_
  exact thn (hs pins s5 σ H5 x1 x2 x5 ov iv new _ I5 r1 r2 r5 q5) fun _ s6 ⟨H6, I6, q6⟩ => ⟨σ, H6, I6, q6⟩
/-- ints -/
def ipI (f : Int → Int → Int) : TIp := fun x y H Q => ∃ i j, x = .int i ∧ y = .int j ∧ Q (.int (f i j)) H
theorem ip_add : PIp X .Add (ipI fun i j => i + j) := by
  intro pins s σ H x y v u Q I r1 r2 h
  obtain ⟨i, j, e1, e2, q⟩ := h
  subst e1; subst e2
  obtain ⟨t, rfl⟩ := r1
  obtain ⟨t', rfl⟩ := r2
  exact iadd_int ⟨.int _, H, I.tok _, ⟨_, rfl⟩, q⟩
theorem ip_sub : PIp X .Sub (ipI fun i j => i - j) := by
  intro pins s σ H x y v u Q I r1 r2 h
  obtain ⟨i, j, e1, e2, q⟩ := h
  subst e1; subst e2
  obtain ⟨t, rfl⟩ := r1
  obtain ⟨t', rfl⟩ := r2
  exact isub_int ⟨.int _, H, I.tok _, ⟨_, rfl⟩, q⟩
end

/-! ### while -/
section
variable {X : Cx} {pos : Pos}
/-- the invariant W with its measure -/
def tWhile (c : TT) (tb : TS) : TS := fun D σ H => ∃ W : Nat → St → Hp → Prop, (∃ m, W m σ H) ∧ ∀ m σ H, W m σ H →
  c σ H fun b H1 => if b = true then ∃ N : St → Hp → Prop, (∀ σ' H', N σ' H' → ∃ m', m' < m ∧ W m' σ' H') ∧ tb { D with nx := N, ct := N, bk := D.nx } σ H1 else D.nx σ H1
theorem ps_while {c : Expr} {body : List Stmt} {tc : TT} {tb : TS} (hp : PassesOwn (model X.prog X.w) X.A X.env X.xe) (hc : PT X c tc) (hb : PSs X body tb) : PS X (.While c body [] pos) (tWhile tc tb) := by
  intro pins s σ H D I h
  obtain ⟨W, ⟨m0, w0⟩, turn⟩ := h
  refine wpAny_While (codeAny_whileLoop (fun n s' => ∃ σ' H', Inv X pins σ' H' s' ∧ W n σ' H') ?_ m0 ⟨σ, H, I, w0⟩)
  rintro n s1 ⟨σ1, H1, I1, w1⟩
  refine wpAny_passesOwn hp (thn (hc pins s1 σ1 H1 _ I1 (turn n σ1 H1 w1)) fun b s2 ⟨H2, I2, q2⟩ => ?_)
  cases b with
  | true =>
    obtain ⟨N, hN, q2⟩ := q2
    rw [if_pos rfl]
    refine wpAny_passesOwn hp (thn (hb pins s2 σ1 H2 _ I2 q2) fun f s3 q3 => ?_)
    cases f with
    | next =>
      obtain ⟨σ3, H3, I3, n3⟩ := q3
      obtain ⟨m', hm, w3⟩ := hN σ3 H3 n3
      exact ⟨m', hm, σ3, H3, I3, w3⟩
    | cont =>
      obtain ⟨σ3, H3, I3, n3⟩ := q3
      obtain ⟨m', hm, w3⟩ := hN σ3 H3 n3
      exact ⟨m', hm, σ3, H3, I3, w3⟩
    | brk => exact q3
    | ret v => exact q3
  | false =>
    rw [if_neg Bool.false_ne_true]
    exact wpAny_execs_nil ⟨σ1, H2, I2, q2⟩
end

/-! ### what a loop or a comprehension walks -/
/-- at turn i: it yields x (the heap may grow), or it stops -/
structure It where
  go : Nat → Hp → Prop
  yld : Nat → Hp → V → Hp → Prop
  stop : Nat → Hp → Prop
/-- the iterator's own objects may turn: they are not the frame's, not pinned, younger than the entry (or a comprehension's own) -/
def FpOk (X : Cx) (pins : List (Addr × Obj)) (H : Hp) (b : Addr) : Prop :=
  H b = none ∧ b ≠ X.env.locals ∧ b ∉ X.fs ∧ (b ∈ X.ex ∨ X.s₀.heap.objs.size ≤ b) ∧ (∀ x c, X.env.cells.lookup x = some c → c ≠ b) ∧ ∀ p ∈ X.pn ++ pins, p.1 ≠ b
theorem Inv.fpOk {X : Cx} {pins : List (Addr × Obj)} {σ : St} {H H' : Hp} {s : Shared} {b : Addr} (I : Inv X pins σ H s) (hb : s.heap.objs.size ≤ b) (hn : H' b = none) : FpOk X pins H' b := by
  refine ⟨hn, Nat.ne_of_gt (Nat.lt_of_lt_of_le I.lt hb), I.nofs hb, .inr (Nat.le_trans I.sz hb), fun x c e z => ?_, fun p hp z => ?_⟩
  · obtain ⟨v, q⟩ := I.cell x c e
    exact absurd (Nat.lt_of_lt_of_le q.lt (by rw [z]; exact hb)) (Nat.lt_irrefl _)
  · exact absurd (Nat.lt_of_lt_of_le (Heap.lt_size (I.pin p hp).1) (by rw [z]; exact hb)) (Nat.lt_irrefl _)
structure Turn (P : Program) (w : World) (K : PySem.W.Frag) (tg : Expr) (J : It) (fp : List Addr) (it : Addr) (tn : Nat → Heap → Prop) : Prop where
  mem : it ∈ fp
  obj : ∀ i h, tn i h → ∀ b ∈ fp, ∃ o, h.get? b = some o ∧ ∀ v, o.data ≠ .cell v
  keep : ∀ i h h', tn i h → (∀ b ∈ fp, ∀ o, h.get? b = some o → h'.get? b = some o) → tn i h'
  item : ∀ (X : Cx), X.prog = P → X.w = w → X.K = K → X.calm = true → ∀ (i : Nat) (pins : List (Addr × Obj)) (s : Shared) (σ : St) (H : Hp) (E : Value → Shared → Prop), Inv X pins σ H s → (∀ b ∈ fp, FpOk X pins H b) → tn i s.heap → J.go i H →
    wpAny (model P w) X.A (pyNext (.ref it)) (fun r s1 => ∃ u, r = some u ∧
      wpAny (model P w) X.A (letOwnedTupleGo tg (.ref it) u) (fun _ s2 => ∃ x H', Inv X pins σ H' s2 ∧ RelV x u ∧ J.yld i H x H' ∧ tn (i + 1) s2.heap ∧ ∀ b ∈ fp, H' b = none) E s1) E s
  done : ∀ (X : Cx), X.prog = P → X.w = w → X.K = K → X.calm = true → ∀ (i : Nat) (pins : List (Addr × Obj)) (s : Shared) (σ : St) (H : Hp) (E : Value → Shared → Prop), Inv X pins σ H s → (∀ b ∈ fp, FpOk X pins H b) → tn i s.heap → J.stop i H →
    wpAny (model P w) X.A (pyNext (.ref it)) (fun r s1 => r = none ∧ Inv X pins σ H s1) E s
  self : ∀ (A : Around) (i : Nat) (s : Shared) (Q : Value → Shared → Prop) (E : Value → Shared → Prop), tn i s.heap → Q (.ref it) s → wpAny (model P w) A (pyIter (.ref it)) Q E s
abbrev TI := St → Hp → (It → Hp → Prop) → Prop
/-- an iterator has come -/
def PIE (X : Cx) (pins : List (Addr × Obj)) (σ : St) (tg : Expr) (R : It → Hp → Prop) (itv : Value) (s2 : Shared) : Prop :=
  ∃ (it : Addr) (fp : List Addr) (tn : Nat → Heap → Prop) (J : It) (H' : Hp), itv = .ref it ∧ Inv X pins σ H' s2 ∧ Turn X.prog X.w X.K tg J fp it tn ∧ tn 0 s2.heap ∧ (∀ b ∈ fp, FpOk X pins H' b) ∧ R J H'
def PI (X : Cx) (tg iter : Expr) (wi : TI) : Prop :=
  ∀ (pins : List (Addr × Obj)) (s : Shared) (σ : St) (H : Hp) (R : It → Hp → Prop), Inv X pins σ H s → wi σ H R →
    wpAny (model X.prog X.w) X.A (eval iter X.env) (fun v s1 => wpAny (model X.prog X.w) X.A (pyIter v) (PIE X pins σ tg R) X.xe s1) X.xe s

/-- the step ahead of the store is nothing for an iterator that keeps no tuple -/
theorem go_of {M : Model} {A : Around} {E : Value → Shared → Prop} {s : Shared} {tg : Expr} {it : Addr} {u : Value} {o : Obj} {n : String} {vs : Array Value} {Q : Unit → Shared → Prop} (ho : s.heap.get? it = some o) (hc : o.cls = .type n) (hd : o.data = .fields vs)
    (hn : ["enumerate", "zip", "dict_itemiterator", "dict_reverseitemiterator", "odict_iterator", "itertools.zip_longest", "itertools.pairwise"].contains n = false) (hQ : Q () s) : wpAny M A (letOwnedTupleGo tg (.ref it) u) Q E s := by
  unfold letOwnedTupleGo
  cases tg <;> first
    | exact wpAny_pure hQ
    | (cases u <;> first
        | exact wpAny_pure hQ
        | (refine wpAny_bind (wpAny_load ho ?_)
           rw [hc, hd]
           show wpAny M A (if (["enumerate", "zip", "dict_itemiterator", "dict_reverseitemiterator", "odict_iterator", "itertools.zip_longest", "itertools.pairwise"].contains n && vs[0]? == some (rawInt _)) = true then _ else _) Q E s
           rw [if_neg (by intro h; rw [hn, Bool.false_and] at h; cases h)]
           exact wpAny_pure hQ))

/-- the list at a, as it stands at each turn (a loop may append to it) -/
def Itl (K : PySem.W.Frag) (a : Addr) : It :=
  ⟨fun i H => ∃ xs x, SqL K H a xs ∧ xs[i]? = some x, fun i H x H' => H' = H ∧ ∀ xs, SqL K H a xs → xs[i]? = some x, fun i H => ∃ xs, SqL K H a xs ∧ xs.length ≤ i⟩
def Itt (K : PySem.W.Frag) (a : Addr) : It :=
  ⟨fun i H => ∃ xs x, SqT K H a xs ∧ xs[i]? = some x, fun i H x H' => H' = H ∧ ∀ xs, SqT K H a xs → xs[i]? = some x, fun i H => ∃ xs, SqT K H a xs ∧ xs.length ≤ i⟩
/-- lo, lo + 1, .. (n of them) -/
def Itr (lo : Int) (n : Nat) : It := ⟨fun i _ => i < n, fun i H x H' => H' = H ∧ x = .int (lo + i), fun i _ => n ≤ i⟩
theorem turn_list {P : Program} {w : World} {K : PySem.W.Frag} {tg : Expr} (a it : Addr) : Turn P w K tg (Itl K a) [it] it (fun i h => h.IsListIter it a i) where
  mem := by simp
  obj := fun i h st b hb => by
    have e : b = it := by simpa using hb
    subst e
    obtain ⟨o, e, c, d⟩ := st
    exact ⟨o, e, fun v z => by rw [d] at z; cases z⟩
  keep := fun i h h' st k => st.at fun o e => k it (by simp) o e
  item := by
    intro X hP hw hK hc i pins s σ H E I hf st hg
    subst hP hw hK
    obtain ⟨xs, x, hq, hx⟩ := hg
    obtain ⟨its, rv, p, hz⟩ := I.list hq
    obtain ⟨u, hu, ru⟩ := rv.get hx
    obtain ⟨f0, f1, f2, f3, f4, f5⟩ := hf it (by simp)
    refine wpAny_pyNext_list_item st p.isList (x := u) (by simpa using hu) fun h' st' sb => ?_
    have I1 : Inv X pins σ H { s with heap := h' } := I.turned (t' := s.toks) (fun b o hb e => (sb.2 b hb).trans e) f0 f1 f3 f4 f5
    obtain ⟨o, e, c, d⟩ := id st'
    exact ⟨u, rfl, go_of (s := { s with heap := h' }) e c d (by decide) ⟨x, H, I1, ru, ⟨rfl, fun ys hy => by rw [I.list_inj hy hq]; exact hx⟩, st', fun b hb => (hf b hb).1⟩⟩
  done := by
    intro X hP hw hK hc i pins s σ H E I hf st hg
    subst hP hw hK
    obtain ⟨xs, hq, hx⟩ := hg
    obtain ⟨its, rv, p, hz⟩ := I.list hq
    obtain ⟨f0, f1, f2, f3, f4, f5⟩ := hf it (by simp)
    have hl := rv.length
    exact wpAny_pyNext_list_end (I.ok.hd hc) st p.isList (by simp; omega) fun h' eb => ⟨rfl, I.turned (t' := s.toks) (fun b o hb e => eb b o hb e) f0 f1 f3 f4 f5⟩
  self := fun _ _ _ _ _ st h => wpAny_pyIter_listiter st h
theorem turn_tuple {P : Program} {w : World} {K : PySem.W.Frag} {tg : Expr} (a it : Addr) : Turn P w K tg (Itt K a) [it] it (fun i h => h.IsTupleIter it a i) where
  mem := by simp
  obj := fun i h st b hb => by
    have e : b = it := by simpa using hb
    subst e
    obtain ⟨o, e, c, d⟩ := st
    exact ⟨o, e, fun v z => by rw [d] at z; cases z⟩
  keep := fun i h h' st k => st.at fun o e => k it (by simp) o e
  item := by
    intro X hP hw hK hc i pins s σ H E I hf st hg
    subst hP hw hK
    obtain ⟨xs, x, hq, hx⟩ := hg
    obtain ⟨its, rv, p, hz⟩ := I.tuple hq
    obtain ⟨u, hu, ru⟩ := rv.get hx
    obtain ⟨f0, f1, f2, f3, f4, f5⟩ := hf it (by simp)
    refine wpAny_pyNext_tuple_item st (show s.heap.IsTuple a its.toArray from p) (x := u) (by simpa using hu) fun h' st' sb => ?_
    have I1 : Inv X pins σ H { s with heap := h' } := I.turned (t' := s.toks) (fun b o hb e => (sb.2 b hb).trans e) f0 f1 f3 f4 f5
    obtain ⟨o, e, c, d⟩ := id st'
    exact ⟨u, rfl, go_of (s := { s with heap := h' }) e c d (by decide) ⟨x, H, I1, ru, ⟨rfl, fun ys hy => by rw [I.tuple_inj hy hq]; exact hx⟩, st', fun b hb => (hf b hb).1⟩⟩
  done := by
    intro X hP hw hK hc i pins s σ H E I hf st hg
    subst hP hw hK
    obtain ⟨xs, hq, hx⟩ := hg
    obtain ⟨its, rv, p, hz⟩ := I.tuple hq
    obtain ⟨f0, f1, f2, f3, f4, f5⟩ := hf it (by simp)
    have hl := rv.length
    exact wpAny_pyNext_tuple_end (I.ok.hd hc) st (show s.heap.IsTuple a its.toArray from p) (by simp; omega) fun h' eb => ⟨rfl, I.turned (t' := s.toks) (fun b o hb e => eb b o hb e) f0 f1 f3 f4 f5⟩
  self := fun _ _ _ _ _ st h => wpAny_pyIter_tupleiter st h
theorem turn_range {P : Program} {w : World} {K : PySem.W.Frag} {tg : Expr} (it : Addr) (lo : Int) (n : Nat) : Turn P w K tg (Itr lo n) [it] it (fun i h => IsRangeIter h it (lo + (i : Nat) * 1) ((n : Int) - (i : Nat)) 1) where
  mem := by simp
  obj := fun i h st b hb => by
    have e : b = it := by simpa using hb
    subst e
    exact ⟨_, st, fun v z => by
      have z' : Data.fields _ = Data.cell v := z
      cases z'⟩
  keep := fun i h h' st k => k it (by simp) _ st
  item := by
    intro X hP hw hK hc i pins s σ H E I hf st hg
    subst hP hw hK
    obtain ⟨f0, f1, f2, f3, f4, f5⟩ := hf it (by simp)
    have W := Walks.range (prog := X.prog) (w := X.w) (I.ok.hd hc) it lo 1 n
    refine W.item i s _ _ hg st fun v h' tk hv st' kk => ?_
    obtain ⟨t, rfl⟩ := hv
    have I1 : Inv X pins σ H { s with heap := h', toks := tk } := I.turned (fun b o hb e => kk b o (by simpa using hb) e) f0 f1 f3 f4 f5
    refine ⟨_, rfl, go_of (s := { s with heap := h', toks := tk }) (n := "range_iterator") st' rfl rfl (by decide) ⟨.int (lo + i), H, I1, ⟨t, ?_⟩, ⟨rfl, rfl⟩, st', fun b hb => (hf b hb).1⟩⟩
    rw [Int.mul_one]
  done := by
    intro X hP hw hK hc i pins s σ H E I hf st hg
    subst hP hw hK
    obtain ⟨f0, f1, f2, f3, f4, f5⟩ := hf it (by simp)
    exact wpAny_pyNext_range_end (I.ok.hd hc) st (by have : n ≤ i := hg; omega) fun h' eb => ⟨rfl, I.turned (t' := s.toks) (fun b o hb e => eb b o hb e) f0 f1 f3 f4 f5⟩
  self := fun _ _ _ _ _ st h => wpAny_pyIter_rangeiter st h
end L2

namespace L2
open PySem PySem.Spec PyProof.Rows
section
variable {X : Cx} {tg : Expr}
def iList (K : PySem.W.Frag) (tl : TE) : TI := fun σ H R => tl σ H fun x H1 => ∃ a, x = .ref a ∧ (∃ xs, SqL K H1 a xs) ∧ R (Itl K a) H1
def iTup (K : PySem.W.Frag) (tl : TE) : TI := fun σ H R => tl σ H fun x H1 => ∃ a, x = .ref a ∧ (∃ xs, SqT K H1 a xs) ∧ R (Itt K a) H1
theorem pi_list {l : Expr} {tl : TE} (hl : PE X l tl) : PI X tg l (iList X.K tl) := by
  intro pins s σ H R I h
  refine thn (hl pins s σ H _ I h) fun v s1 ⟨x, H1, I1, r1, q1⟩ => ?_
  obtain ⟨a, e, ⟨xs, hq⟩, q⟩ := q1
  subst e
  cases r1
  obtain ⟨its, rv, p, hz⟩ := I1.list hq
  refine wpAny_pyIter_list p.isList ?_
  refine ⟨s1.heap.objs.size, [s1.heap.objs.size], _, _, H1, rfl, I1.kept (t' := s1.toks) fun b o e => Heap.get?_push_of_some _ e, turn_list a _, ⟨_, Heap.get?_push_size _ rfl, rfl, rfl⟩, fun b hb => ?_, q⟩
  have e : b = s1.heap.objs.size := by simpa using hb
  subst e
  exact I1.fpOk (Nat.le_refl _) (I1.hok.fresh (Nat.le_refl _))
theorem pi_tup {l : Expr} {tl : TE} (hl : PE X l tl) : PI X tg l (iTup X.K tl) := by
  intro pins s σ H R I h
  refine thn (hl pins s σ H _ I h) fun v s1 ⟨x, H1, I1, r1, q1⟩ => ?_
  obtain ⟨a, e, ⟨xs, hq⟩, q⟩ := q1
  subst e
  cases r1
  obtain ⟨its, rv, p, hz⟩ := I1.tuple hq
  refine wpAny_pyIter_tuple (show s1.heap.IsTuple a its.toArray from p) ?_
  refine ⟨s1.heap.objs.size, [s1.heap.objs.size], _, _, H1, rfl, I1.kept (t' := s1.toks) fun b o e => Heap.get?_push_of_some _ e, turn_tuple a _, ⟨_, Heap.get?_push_size _ rfl, rfl, rfl⟩, fun b hb => ?_, q⟩
  have e : b = s1.heap.objs.size := by simpa using hb
  subst e
  exact I1.fpOk (Nat.le_refl _) (I1.hok.fresh (Nat.le_refl _))
/-- a range object just made, walked -/
theorem range_it {pins : List (Addr × Obj)} {σ : St} {H : Hp} {s : Shared} {R : It → Hp → Prop} {E : Value → Shared → Prop} {lo hi : Int} {t u v : Tok} {tk : Nat} (I : Inv X pins σ H s) (h1 : -(2 ^ 62) ≤ lo) (h2 : lo < 2 ^ 62) (h3 : -(2 ^ 62) ≤ hi) (h4 : hi < 2 ^ 62)
    (q : R (Itr lo (hi - lo).toNat) H) : wpAny (model X.prog X.w) X.A (pyIter (.ref s.heap.objs.size)) (PIE X pins σ tg R) E { s with heap := s.heap.push { cls := .type "range", data := .fields #[.int lo t, .int hi u, .int 1 v] }, toks := tk } := by
  refine wpAny_pyIter_range (IsRange.new ..) (small_one h1 h2 h3 h4) ?_
  have I1 : Inv X pins σ H { s with heap := s.heap.push { cls := .type "range", data := .fields #[.int lo t, .int hi u, .int 1 v] }, toks := tk } := I.kept fun b o e => Heap.get?_push_of_some _ e
  refine ⟨(s.heap.push { cls := .type "range", data := .fields #[.int lo t, .int hi u, .int 1 v] }).objs.size, [(s.heap.push { cls := .type "range", data := .fields #[.int lo t, .int hi u, .int 1 v] }).objs.size], _, _, H, rfl,
    I1.kept (t' := tk) fun b o e => Heap.get?_push_of_some _ e, turn_range _ lo (hi - lo).toNat, ?_, fun b hb => ?_, q⟩
  · have e1 : lo + ((0 : Nat) : Int) * 1 = lo := by simp
    have e2 : (((hi - lo).toNat : Nat) : Int) - ((0 : Nat) : Int) = Builtin.Range.rangeSize lo hi 1 := by rw [rangeSize_one]; split <;> omega
    show IsRangeIter _ _ (lo + ((0 : Nat) : Int) * 1) ((((hi - lo).toNat : Nat) : Int) - ((0 : Nat) : Int)) 1
    rw [e1, e2]
    exact Heap.get?_push_size _ rfl
  · have e : b = (s.heap.push { cls := .type "range", data := .fields #[.int lo t, .int hi u, .int 1 v] }).objs.size := by simpa using hb
    subst e
    exact I1.fpOk (Nat.le_refl _) (I1.hok.fresh (Nat.le_refl _))
def iRng1 (ta : TA) : TI := fun σ H R => ta σ H fun vs H1 => ∃ j : Int, vs = [.int j] ∧ -(2 ^ 62) ≤ j ∧ j < 2 ^ 62 ∧ R (Itr 0 j.toNat) H1
def iRng2 (ta : TA) : TI := fun σ H R => ta σ H fun vs H1 => ∃ i j : Int, vs = [.int i, .int j] ∧ (-(2 ^ 62) ≤ i ∧ i < 2 ^ 62 ∧ -(2 ^ 62) ≤ j ∧ j < 2 ^ 62) ∧ R (Itr i (j - i).toNat) H1
theorem pi_range1 {a : Expr} {ta : TA} {p pos : Pos} (hg : Gl X "range") (hm : X.mg "range" = none) (ha : PA X [a] ta) (hs : starEach [a] X.env = [(false, eval a X.env)] := by rfl) : PI X tg (.Call (.Name "range" p) [a] [] pos) (iRng1 ta) := by
  intro pins s σ H R I h
  refine Call_ (ld_blt I hg hm boot_range (PyProof.Rows.callWith_type1 (thn (ha pos pins s σ H _ I h) fun us s1 ⟨vs, H1, I1, r1, q1⟩ => ?_) hs rfl))
  obtain ⟨j, e, q1, q2, q⟩ := q1
  subst e
  cases r1 with
  | cons r rr =>
    cases rr
    obtain ⟨t, rfl⟩ := r
    exact call_range_1 (range_it I1 (by omega) (by omega) q1 q2 (by simpa using q))
theorem pi_range2 {a b : Expr} {ta : TA} {p pos : Pos} (hg : Gl X "range") (hm : X.mg "range" = none) (ha : PA X [a, b] ta) (hs : starEach [a, b] X.env = [(false, eval a X.env), (false, eval b X.env)] := by rfl) (hs2 : starEach [b] X.env = [(false, eval b X.env)] := by rfl) :
    PI X tg (.Call (.Name "range" p) [a, b] [] pos) (iRng2 ta) := by
  intro pins s σ H R I h
  refine Call_ (ld_blt I hg hm boot_range (PyProof.Rows.callWith_type1 (thn (ha pos pins s σ H _ I h) fun us s1 ⟨vs, H1, I1, r1, q1⟩ => ?_) (by rw [hs, hs2]) (by rw [hs2]; rfl)))
  obtain ⟨i, j, e, ⟨q1, q2, q3, q4⟩, q⟩ := q1
  subst e
  cases r1 with
  | cons r rr =>
    cases rr with
    | cons r' rr =>
      cases rr
      obtain ⟨t, rfl⟩ := r
      obtain ⟨t', rfl⟩ := r'
      exact call_range_2 (range_it I1 q1 q2 q3 q4 q)

/-! ### for -/
/-- W: the invariant by the turn and a measure; N: what the body is to reach -/
def tFor (wi : TI) (g : TG) (tb : TS) : TS := fun D σ H => wi σ H fun J H1 => ∃ W : Nat → Nat → St → Hp → Prop, (∃ m, W 0 m σ H1) ∧ ∀ i m σ H, W i m σ H →
  (J.stop i H ∧ D.nx σ H) ∨ (J.go i H ∧ ∃ N : St → Hp → Prop, (∀ σ' H', N σ' H' → ∃ m', m' < m ∧ W (i + 1) m' σ' H') ∧ ∀ x H', J.yld i H x H' → g x σ H' fun σ2 H2 => tb { D with nx := N, ct := N, bk := D.nx } σ2 H2)
/-- the records at fp as they stand -/
def pinsAt (fp : List Addr) (h : Heap) : List (Addr × Obj) := fp.filterMap fun b => (h.get? b).map fun o => (b, o)
theorem mem_pinsAt {fp : List Addr} {h : Heap} {b : Addr} {o : Obj} (hb : b ∈ fp) (e : h.get? b = some o) : (b, o) ∈ pinsAt fp h := List.mem_filterMap.mpr ⟨b, hb, by rw [e]; rfl⟩
theorem of_pinsAt {fp : List Addr} {h : Heap} {p : Addr × Obj} (hp : p ∈ pinsAt fp h) : p.1 ∈ fp ∧ h.get? p.1 = some p.2 := by
  obtain ⟨b, hb, e⟩ := List.mem_filterMap.mp hp
  cases q : h.get? b with
  | none => rw [q] at e; cases e
  | some o =>
    rw [q] at e
    have e' : (b, o) = p := Option.some.inj e
    subst e'
    exact ⟨hb, q⟩
theorem Inv.pinned {pins : List (Addr × Obj)} {σ : St} {H : Hp} {s : Shared} {fp : List Addr} (I : Inv X pins σ H s) (hf : ∀ b ∈ fp, FpOk X pins H b) (ho : ∀ b ∈ fp, ∃ o, s.heap.get? b = some o ∧ ∀ v, o.data ≠ .cell v) : Inv X (pins ++ pinsAt fp s.heap) σ H s :=
  I.pins_of fun p hp => (List.mem_append.mp hp).elim (fun z => I.pin p (List.mem_append_right _ z)) fun z => by
    obtain ⟨hb, e⟩ := of_pinsAt z
    obtain ⟨f0, f1, f2, _⟩ := hf p.1 hb
    obtain ⟨o, e', d⟩ := ho p.1 hb
    rw [e] at e'; cases e'
    exact ⟨e, f0, f1, f2, d⟩
theorem Inv.unpinned {pins pl : List (Addr × Obj)} {σ : St} {H : Hp} {s : Shared} (I : Inv X (pins ++ pl) σ H s) : Inv X pins σ H s := I.pins_of fun p hp => I.pin p (List.mem_append_right _ (List.mem_append_left _ hp))
theorem ps_for {iter : Expr} {body : List Stmt} {wi : TI} {g : TG} {tb : TS} {pos : Pos} (hp : PassesOwn (model X.prog X.w) X.A X.env X.xe) (hc : X.calm = true) (hi : PI X tg iter wi) (hg : PG X tg g) (hb : PSs X body tb)
    (hs : ∀ x, foldedSetIterable iter X.env x = pure x := by intro _; rfl) : PS X (.For tg iter body [] pos) (tFor wi g tb) := by
  intro pins s σ H D I h
  refine wpAny_For (thn (hi pins s σ H _ I h) fun v s1 h1 => thn h1 fun itv s2 h2 => ?_) hs
  obtain ⟨it, fp, tn, J, H2, e, I2, T, st2, f2, W, ⟨m0, w0⟩, turn⟩ := h2
  subst e
  -- what stays true of the iterator's objects through the loop
  have stat : ∀ {H' : Hp}, (∀ b ∈ fp, H' b = none) → ∀ b ∈ fp, FpOk X pins H' b := fun hn b hb => ⟨hn b hb, (f2 b hb).2⟩
  refine codeAny_forLoop_any (fun n s' => ∃ i σ' H', Inv X pins σ' H' s' ∧ tn i s'.heap ∧ (∀ b ∈ fp, H' b = none) ∧ W i n σ' H') ?_ m0 ⟨0, σ, H2, I2, st2, fun b hb => (f2 b hb).1, w0⟩
  rintro n s3 ⟨i, σ3, H3, I3, st3, fr3, w3⟩
  rcases turn i n σ3 H3 w3 with ⟨stop, qn⟩ | ⟨go, N, hN, step⟩
  · refine wpAny_passesOwn hp (thn (T.done X rfl rfl rfl hc i pins s3 σ3 H3 X.xe I3 (stat fr3) st3 stop) fun r s4 ⟨hr, I4⟩ => ?_)
    subst hr
    exact wpAny_execs_nil ⟨σ3, H3, I4, qn⟩
  · refine wpAny_passesOwn hp (thn (T.item X rfl rfl rfl hc i pins s3 σ3 H3 X.xe I3 (stat fr3) st3 go) fun r s4 ⟨u, hr, h4⟩ => ?_)
    subst hr
    refine wpAny_passesOwn hp (thn h4 fun _ s5 ⟨x, H5, I5, r5, y5, st5, fr5⟩ => ?_)
    have I5' := I5.pinned (stat fr5) (T.obj _ _ st5)
    refine wpAny_passesOwn hp (thn (hg _ s5 σ3 H5 x u _ I5' r5 (step x H5 y5)) fun _ s6 ⟨σ6, H6, I6, q6⟩ => ?_)
    refine wpAny_passesOwn hp (thn (hb _ s6 σ6 H6 _ I6 q6) fun f s7 q7 => ?_)
    have again : ∀ {σ7 : St} {H7 : Hp}, Inv X (pins ++ pinsAt fp s5.heap) σ7 H7 s7 → N σ7 H7 → ∃ m, m < n ∧ ∃ i σ' H', Inv X pins σ' H' s7 ∧ tn i s7.heap ∧ (∀ b ∈ fp, H' b = none) ∧ W i m σ' H' := fun {σ7 H7} I7 n7 => by
      obtain ⟨m', hm, w7⟩ := hN σ7 H7 n7
      refine ⟨m', hm, i + 1, σ7, H7, I7.unpinned, T.keep _ _ _ st5 fun b hb o e => (I7.pin (b, o) (List.mem_append_right _ (List.mem_append_right _ (mem_pinsAt hb e)))).1, fun b hb => ?_, w7⟩
      obtain ⟨o, e, d⟩ := T.obj _ _ st5 b hb
      exact (I7.pin (b, o) (List.mem_append_right _ (List.mem_append_right _ (mem_pinsAt hb e)))).2.1
    cases f with
    | next => obtain ⟨σ7, H7, I7, n7⟩ := q7; exact again I7 n7
    | cont => obtain ⟨σ7, H7, I7, n7⟩ := q7; exact again I7 n7
    | brk => obtain ⟨σ7, H7, I7, q7⟩ := q7; exact ⟨σ7, H7, I7.unpinned, q7⟩
    | ret v => obtain ⟨x7, σ7, H7, I7, r7, q7⟩ := q7; exact ⟨x7, σ7, H7, I7.unpinned, r7, q7⟩
end

/-! ### the forms one uses -/
/-- over a list that the body leaves as it is -/
theorem for_list {K : PySem.W.Frag} {a : Addr} {xs : List V} {g : TG} {tb : TS} {D : Ends} {σ : St} {H : Hp} (Pv : Nat → St → Hp → Prop) (h0 : Pv 0 σ H) (hl : ∀ i σ H, i ≤ xs.length → Pv i σ H → SqL K H a xs)
    (hs : ∀ i x σ H, xs[i]? = some x → Pv i σ H → g x σ H fun σ2 H2 => tb { D with nx := Pv (i + 1), ct := Pv (i + 1), bk := D.nx } σ2 H2) (hd : ∀ σ H, Pv xs.length σ H → D.nx σ H) :
    ∃ W : Nat → Nat → St → Hp → Prop, (∃ m, W 0 m σ H) ∧ ∀ i m σ H, W i m σ H →
      ((Itl K a).stop i H ∧ D.nx σ H) ∨ ((Itl K a).go i H ∧ ∃ N : St → Hp → Prop, (∀ σ' H', N σ' H' → ∃ m', m' < m ∧ W (i + 1) m' σ' H') ∧ ∀ x H', (Itl K a).yld i H x H' → g x σ H' fun σ2 H2 => tb { D with nx := N, ct := N, bk := D.nx } σ2 H2) := by
  refine ⟨fun i m σ H => m = xs.length - i ∧ i ≤ xs.length ∧ Pv i σ H, ⟨xs.length, by simp, Nat.zero_le _, h0⟩, ?_⟩
  rintro i m σ H ⟨rfl, hi, p⟩
  have q := hl i σ H hi p
  by_cases hlt : i < xs.length
  · refine .inr ⟨⟨xs, xs[i], q, by simp [hlt]⟩, Pv (i + 1), fun σ' H' p' => ⟨xs.length - (i + 1), by omega, rfl, hlt, p'⟩, fun x H' y => ?_⟩
    obtain ⟨e, y⟩ := y
    subst e
    exact hs i x σ _ (y xs q) p
  · have e : i = xs.length := by omega
    subst e
    exact .inl ⟨⟨xs, q, Nat.le_refl _⟩, hd σ H p⟩
theorem for_tup {K : PySem.W.Frag} {a : Addr} {xs : List V} {g : TG} {tb : TS} {D : Ends} {σ : St} {H : Hp} (Pv : Nat → St → Hp → Prop) (h0 : Pv 0 σ H) (hl : ∀ i σ H, i ≤ xs.length → Pv i σ H → SqT K H a xs)
    (hs : ∀ i x σ H, xs[i]? = some x → Pv i σ H → g x σ H fun σ2 H2 => tb { D with nx := Pv (i + 1), ct := Pv (i + 1), bk := D.nx } σ2 H2) (hd : ∀ σ H, Pv xs.length σ H → D.nx σ H) :
    ∃ W : Nat → Nat → St → Hp → Prop, (∃ m, W 0 m σ H) ∧ ∀ i m σ H, W i m σ H →
      ((Itt K a).stop i H ∧ D.nx σ H) ∨ ((Itt K a).go i H ∧ ∃ N : St → Hp → Prop, (∀ σ' H', N σ' H' → ∃ m', m' < m ∧ W (i + 1) m' σ' H') ∧ ∀ x H', (Itt K a).yld i H x H' → g x σ H' fun σ2 H2 => tb { D with nx := N, ct := N, bk := D.nx } σ2 H2) := by
  refine ⟨fun i m σ H => m = xs.length - i ∧ i ≤ xs.length ∧ Pv i σ H, ⟨xs.length, by simp, Nat.zero_le _, h0⟩, ?_⟩
  rintro i m σ H ⟨rfl, hi, p⟩
  have q := hl i σ H hi p
  by_cases hlt : i < xs.length
  · refine .inr ⟨⟨xs, xs[i], q, by simp [hlt]⟩, Pv (i + 1), fun σ' H' p' => ⟨xs.length - (i + 1), by omega, rfl, hlt, p'⟩, fun x H' y => ?_⟩
    obtain ⟨e, y⟩ := y
    subst e
    exact hs i x σ _ (y xs q) p
  · have e : i = xs.length := by omega
    subst e
    exact .inl ⟨⟨xs, q, Nat.le_refl _⟩, hd σ H p⟩
theorem for_range {lo : Int} {n : Nat} {g : TG} {tb : TS} {D : Ends} {σ : St} {H : Hp} (Pv : Nat → St → Hp → Prop) (h0 : Pv 0 σ H)
    (hs : ∀ i σ H, i < n → Pv i σ H → g (.int (lo + i)) σ H fun σ2 H2 => tb { D with nx := Pv (i + 1), ct := Pv (i + 1), bk := D.nx } σ2 H2) (hd : ∀ σ H, Pv n σ H → D.nx σ H) :
    ∃ W : Nat → Nat → St → Hp → Prop, (∃ m, W 0 m σ H) ∧ ∀ i m σ H, W i m σ H →
      ((Itr lo n).stop i H ∧ D.nx σ H) ∨ ((Itr lo n).go i H ∧ ∃ N : St → Hp → Prop, (∀ σ' H', N σ' H' → ∃ m', m' < m ∧ W (i + 1) m' σ' H') ∧ ∀ x H', (Itr lo n).yld i H x H' → g x σ H' fun σ2 H2 => tb { D with nx := N, ct := N, bk := D.nx } σ2 H2) := by
  refine ⟨fun i m σ H => m = n - i ∧ i ≤ n ∧ Pv i σ H, ⟨n, by simp, Nat.zero_le _, h0⟩, ?_⟩
  rintro i m σ H ⟨rfl, hi, p⟩
  by_cases hlt : i < n
  · refine .inr ⟨hlt, Pv (i + 1), fun σ' H' p' => ⟨n - (i + 1), by omega, rfl, hlt, p'⟩, fun x H' y => ?_⟩
    obtain ⟨e, y⟩ := y
    subst e y
    exact hs i σ _ hlt p
  · have e : i = n := by omega
    subst e
    exact .inl ⟨Nat.le_refl _, hd σ H p⟩
/-- while, by a word and a measure of the state -/
theorem while_by {c : TT} {tb : TS} {D : Ends} {σ : St} {H : Hp} (Pv : St → Hp → Prop) (μ : St → Hp → Nat) (h0 : Pv σ H)
    (hs : ∀ σ H, Pv σ H → c σ H fun b H1 => if b = true then tb { D with nx := fun σ' H' => Pv σ' H' ∧ μ σ' H' < μ σ H, ct := fun σ' H' => Pv σ' H' ∧ μ σ' H' < μ σ H, bk := D.nx } σ H1 else D.nx σ H1)
    (mono : ∀ σ H Q Q', (∀ b H1, Q b H1 → Q' b H1) → c σ H Q → c σ H Q') : tWhile c tb D σ H := by
  refine ⟨fun m σ H => m = μ σ H ∧ Pv σ H, ⟨_, rfl, h0⟩, ?_⟩
  rintro m σ H ⟨rfl, p⟩
  refine mono σ H _ _ (fun b H1 q => ?_) (hs σ H p)
  cases b with
  | true => exact ⟨_, fun σ' H' ⟨p', l⟩ => ⟨_, l, rfl, p'⟩, q⟩
  | false => exact q
end L2

namespace L2
open PySem PySem.Spec PyProof.Rows

abbrev R2 := V → V → Hp → VK → Prop
/-- a two-place operation on values: f is binaryOp op, inplaceOp op or compareOp op -/
def OpR (X : Cx) (f : Value → Value → Sem Value) (r : R2) : Prop :=
  ∀ (pins : List (Addr × Obj)) (s : Shared) (σ : St) (H : Hp) (x y : V) (v u : Value) (Q : VK), Inv X pins σ H s → RelV x v → RelV y u → r x y H Q →
    wpAny (model X.prog X.w) X.A (f v u) (EP X pins σ Q) X.xe s
/-- a one-place operation -/
def UnR (X : Cx) (f : Value → Sem Value) (r : V → Hp → VK → Prop) : Prop :=
  ∀ (pins : List (Addr × Obj)) (s : Shared) (σ : St) (H : Hp) (x : V) (v : Value) (Q : VK), Inv X pins σ H s → RelV x v → r x H Q →
    wpAny (model X.prog X.w) X.A (f v) (EP X pins σ Q) X.xe s
/-- a call of a value that is known (a builtin, a type) with values -/
def CallR (X : Cx) (f : Value) (r : List V → Hp → VK → Prop) : Prop :=
  ∀ (pins : List (Addr × Obj)) (s : Shared) (σ : St) (H : Hp) (xs : List V) (us : List Value) (Q : VK), Inv X pins σ H s → Vals xs us → r xs H Q →
    wpAny (model X.prog X.w) X.A (call f us) (EP X pins σ Q) X.xe s
/-- a value's truth -/
def TruR (X : Cx) (r : V → Hp → (Bool → Hp → Prop) → Prop) : Prop :=
  ∀ (pins : List (Addr × Obj)) (s : Shared) (σ : St) (H : Hp) (x : V) (v : Value) (Q : Bool → Hp → Prop), Inv X pins σ H s → RelV x v → r x H Q →
    wpAny (model X.prog X.w) X.A (truthy v) (TP X pins σ Q) X.xe s

def tOp (r : R2) (ta tb : TE) : TE := fun σ H Q => ta σ H fun x H1 => tb σ H1 fun y H2 => r x y H2 Q
def tUn (r : V → Hp → VK → Prop) (ta : TE) : TE := fun σ H Q => ta σ H fun x H1 => r x H1 Q
/-- ints in, under C, and a value out -/
def rI (C : Int → Int → Prop) (g : Int → Int → V) : R2 := fun x y H Q => ∃ i j, x = .int i ∧ y = .int j ∧ C i j ∧ Q (g i j) H
def rI0 (g : Int → Int → V) : R2 := fun x y H Q => ∃ i j, x = .int i ∧ y = .int j ∧ Q (g i j) H
def rU (g : Int → V) : V → Hp → VK → Prop := fun x H Q => ∃ i, x = .int i ∧ Q (g i) H

section
variable {X : Cx} {a b c : Expr} {ta tb tc : TE} {pos : Pos}

theorem binT (ha : PE X a ta) (hb : PE X b tb) {pins : List (Addr × Obj)} {s : Shared} {σ : St} {H : Hp} {R : V → V → Hp → Prop} (I : Inv X pins σ H s)
    (h : ta σ H fun x H1 => tb σ H1 fun y H2 => R x y H2) {Q : Value → Shared → Prop} {f : Value → Value → Sem Value}
    (hf : ∀ v u s2 x y H2, Inv X pins σ H2 s2 → RelV x v → RelV y u → R x y H2 → wpAny (model X.prog X.w) X.A (f v u) Q X.xe s2) :
    wpAny (model X.prog X.w) X.A (eval a X.env) (fun v s₁ => wpAny (model X.prog X.w) X.A (eval b X.env) (fun u s₂ => wpAny (model X.prog X.w) X.A (f v u) Q X.xe s₂) X.xe s₁) X.xe s := by
  refine thn (ha pins s σ H _ I h) fun v s1 ⟨x, H1, I1, r1, q1⟩ => ?_
  refine thn (hb pins s1 σ H1 _ I1 q1) fun u s2 ⟨y, H2, I2, r2, q2⟩ => ?_
  exact hf v u s2 x y H2 I2 r1 r2 q2

theorem pe_op {op : Operator} {r : R2} (ho : OpR X (binaryOp op) r) (ha : PE X a ta) (hb : PE X b tb) : PE X (.BinOp a op b pos) (tOp r ta tb) := by
  intro pins s σ H Q I h
  exact wpAny_BinOp (binT ha hb I h fun v u s2 x y H2 I2 rx ry q => ho pins s2 σ H2 x y v u Q I2 rx ry q)
theorem pe_un {op : UnaryOp} {r : V → Hp → VK → Prop} (ho : UnR X (unaryOp op) r) (ha : PE X a ta) : PE X (.UnaryOp op a pos) (tUn r ta) := by
  intro pins s σ H Q I h
  exact UnaryOp_ (thn (ha pins s σ H _ I h) fun v s1 ⟨x, H1, I1, r1, q1⟩ => ho pins s1 σ H1 x v Q I1 r1 q1)
/-- a op= e at a name: the name's slot i -/
theorem augR {op : Operator} {r : R2} (ho : OpR X (inplaceOp op) r) {pins : List (Addr × Obj)} {s : Shared} {σ : St} {H : Hp} {x y : V} {v u : Value} {Q : VK} (I : Inv X pins σ H s)
    (rx : RelV x v) (ry : RelV y u) (q : r x y H Q) : wpAny (model X.prog X.w) X.A (inplaceOp op v u) (EP X pins σ Q) X.xe s := ho pins s σ H x y v u Q I rx ry q

/-! ### ints -/
theorem opI {f : Value → Value → Sem Value} {C : Int → Int → Prop} {g : Int → Int → Int}
    (rule : ∀ (i j : Int) (t u : Tok) (s : Shared) (Q : Value → Shared → Prop) (E : Value → Shared → Prop), C i j → Q (.int (g i j) s.toks) { s with toks := s.toks + 1 } → wpAny (model X.prog X.w) X.A (f (.int i t) (.int j u)) Q E s) :
    OpR X f (rI C fun i j => .int (g i j)) := by
  intro pins s σ H x y v u Q I rx ry h
  obtain ⟨i, j, rfl, rfl, hc, q⟩ := h
  obtain ⟨t, rfl⟩ := rx
  obtain ⟨t', rfl⟩ := ry
  exact rule i j t t' s _ _ hc ⟨.int (g i j), H, I.tok _, ⟨_, rfl⟩, q⟩
theorem opI0 {f : Value → Value → Sem Value} {g : Int → Int → Int}
    (rule : ∀ (i j : Int) (t u : Tok) (s : Shared) (Q : Value → Shared → Prop) (E : Value → Shared → Prop), Q (.int (g i j) s.toks) { s with toks := s.toks + 1 } → wpAny (model X.prog X.w) X.A (f (.int i t) (.int j u)) Q E s) :
    OpR X f (rI0 fun i j => .int (g i j)) := by
  intro pins s σ H x y v u Q I rx ry h
  obtain ⟨i, j, rfl, rfl, q⟩ := h
  obtain ⟨t, rfl⟩ := rx
  obtain ⟨t', rfl⟩ := ry
  exact rule i j t t' s _ _ ⟨.int (g i j), H, I.tok _, ⟨_, rfl⟩, q⟩
theorem opB0 {f : Value → Value → Sem Value} {g : Int → Int → Bool}
    (rule : ∀ (i j : Int) (t u : Tok) (s : Shared) (Q : Value → Shared → Prop) (E : Value → Shared → Prop), Q (.bool (g i j)) s → wpAny (model X.prog X.w) X.A (f (.int i t) (.int j u)) Q E s) :
    OpR X f (rI0 fun i j => .bl (g i j)) := by
  intro pins s σ H x y v u Q I rx ry h
  obtain ⟨i, j, rfl, rfl, q⟩ := h
  obtain ⟨t, rfl⟩ := rx
  obtain ⟨t', rfl⟩ := ry
  exact rule i j t t' s _ _ ⟨.bl (g i j), H, I, rfl, q⟩

def CDiv (i j : Int) : Prop := 0 < j ∧ j < 1073741824
def CDivN (i j : Int) : Prop := j ≠ 0 ∧ j.natAbs < 1073741824
def CPow (i j : Int) : Prop := 0 ≤ j ∧ j ≤ 1000000 ∧ i.natAbs < 2 ^ 64
def CMul (i j : Int) : Prop := (-(2 ^ 64) < i ∧ i < 2 ^ 64) ∨ (-(2 ^ 64) < j ∧ j < 2 ^ 64)
theorem CMul.ok {i j : Int} (h : CMul i j) : IntMulOk i j := by
  rcases h with ⟨h1, h2⟩ | ⟨h1, h2⟩
  · exact .of_left (intBits_le_64 h1 h2)
  · exact .of_right (intBits_le_64 h1 h2)
theorem two_pow_nn (k : Nat) : (0 : Int) ≤ 2 ^ k := by
  rw [two_pow_cast]
  exact Int.natCast_nonneg _

theorem op_add : OpR X (binaryOp .Add) (rI0 fun i j => .int (i + j)) := opI0 fun _ _ _ _ _ _ _ q => add_int q
theorem op_sub : OpR X (binaryOp .Sub) (rI0 fun i j => .int (i - j)) := opI0 fun _ _ _ _ _ _ _ q => sub_int q
theorem op_mul : OpR X (binaryOp .Mult) (rI CMul fun i j => .int (i * j)) := opI fun _ _ _ _ _ _ _ hc q => mul_int q hc.ok
/-- // by a positive divisor -/
theorem op_fdiv : OpR X (binaryOp .FloorDiv) (rI CDiv fun i j => .int (i / j)) := opI fun i j _ _ _ _ _ hc q => by
  have h1 : (0 : Int) < j := hc.1
  have h2 : j < 1073741824 := hc.2
  exact floordiv_int (by omega) (by rw [Int.fdiv_eq_ediv_of_nonneg i (by omega)]; exact q) (.inl (PyProof.noPylong_small (by omega)))
theorem op_fdivN : OpR X (binaryOp .FloorDiv) (rI CDivN fun i j => .int (i.fdiv j)) := opI fun _ _ _ _ _ _ _ hc q => floordiv_int hc.1 q (.inl (PyProof.noPylong_small hc.2))
/-- % by a positive divisor of any size -/
theorem op_mod : OpR X (binaryOp .Mod) (rI (fun _ j => 0 < j) fun i j => .int (i % j)) := opI fun i j _ _ _ _ _ hc q => by
  have h1 : (0 : Int) < j := hc
  exact mod_int' (by omega) (by rw [Int.fmod_eq_emod_of_nonneg i (by omega)]; exact q)
theorem op_modN : OpR X (binaryOp .Mod) (rI (fun _ j => j ≠ 0) fun i j => .int (i.fmod j)) := opI fun _ _ _ _ _ _ _ hc q => mod_int' hc q
theorem op_pow : OpR X (binaryOp .Pow) (rI CPow fun i j => .int (i ^ j.toNat)) := opI fun _ _ _ _ _ _ _ hc q => pow_int_small hc.1 hc.2.1 hc.2.2 q
theorem op_shl : OpR X (binaryOp .LShift) (rI CPow fun i j => .int (i * 2 ^ j.toNat)) := opI fun _ _ _ _ _ _ _ hc q => lshift_int_small hc.1 hc.2.1 hc.2.2 q
theorem op_shr : OpR X (binaryOp .RShift) (rI (fun _ j => 0 ≤ j) fun i j => .int (i / 2 ^ j.toNat)) := opI fun i j _ _ _ _ _ hc q =>
  rshift_int hc (by rw [Int.fdiv_eq_ediv_of_nonneg i (two_pow_nn _)]; exact q)
theorem op_and : OpR X (binaryOp .BitAnd) (rI0 fun i j => .int (Builtin.bitAnd i j)) := opI0 fun _ _ _ _ _ _ _ q => and_int q
theorem op_or : OpR X (binaryOp .BitOr) (rI0 fun i j => .int (Builtin.bitOr i j)) := opI0 fun _ _ _ _ _ _ _ q => or_int q
theorem op_xor : OpR X (binaryOp .BitXor) (rI0 fun i j => .int (Builtin.bitXor i j)) := opI0 fun _ _ _ _ _ _ _ q => xor_int q

theorem iop_add : OpR X (inplaceOp .Add) (rI0 fun i j => .int (i + j)) := opI0 fun _ _ _ _ _ _ _ q => iadd_int q
theorem iop_sub : OpR X (inplaceOp .Sub) (rI0 fun i j => .int (i - j)) := opI0 fun _ _ _ _ _ _ _ q => isub_int q
theorem iop_mul : OpR X (inplaceOp .Mult) (rI CMul fun i j => .int (i * j)) := opI fun _ _ _ _ _ _ _ hc q => imul_int q hc.ok
theorem iop_fdiv : OpR X (inplaceOp .FloorDiv) (rI CDiv fun i j => .int (i / j)) := opI fun i j _ _ _ _ _ hc q => by
  have h1 : (0 : Int) < j := hc.1
  have h2 : j < 1073741824 := hc.2
  exact ifloordiv_int (by omega) (by rw [Int.fdiv_eq_ediv_of_nonneg i (by omega)]; exact q) (.inl (PyProof.noPylong_small (by omega)))
theorem iop_mod : OpR X (inplaceOp .Mod) (rI (fun _ j => 0 < j) fun i j => .int (i % j)) := opI fun i j _ _ _ _ _ hc q => by
  have h1 : (0 : Int) < j := hc
  exact imod_int (by omega) (by rw [Int.fmod_eq_emod_of_nonneg i (by omega)]; exact q)
theorem iop_shl : OpR X (inplaceOp .LShift) (rI CPow fun i j => .int (i * 2 ^ j.toNat)) := opI fun _ _ _ _ _ _ _ hc q => ilshift_int_small hc.1 hc.2.1 hc.2.2 q
theorem iop_shr : OpR X (inplaceOp .RShift) (rI (fun _ j => 0 ≤ j) fun i j => .int (i / 2 ^ j.toNat)) := opI fun i j _ _ _ _ _ hc q =>
  irshift_int hc (by rw [Int.fdiv_eq_ediv_of_nonneg i (two_pow_nn _)]; exact q)
theorem iop_and : OpR X (inplaceOp .BitAnd) (rI0 fun i j => .int (Builtin.bitAnd i j)) := opI0 fun _ _ _ _ _ _ _ q => iand_int q
theorem iop_or : OpR X (inplaceOp .BitOr) (rI0 fun i j => .int (Builtin.bitOr i j)) := opI0 fun _ _ _ _ _ _ _ q => ior_int q
theorem iop_xor : OpR X (inplaceOp .BitXor) (rI0 fun i j => .int (Builtin.bitXor i j)) := opI0 fun _ _ _ _ _ _ _ q => ixor_int q

theorem unI {f : Value → Sem Value} {g : Int → Int}
    (rule : ∀ (i : Int) (t : Tok) (s : Shared) (Q : Value → Shared → Prop) (E : Value → Shared → Prop), Q (.int (g i) s.toks) { s with toks := s.toks + 1 } → wpAny (model X.prog X.w) X.A (f (.int i t)) Q E s) :
    UnR X f (rU fun i => .int (g i)) := by
  intro pins s σ H x v Q I rx h
  obtain ⟨i, rfl, q⟩ := h
  obtain ⟨t, rfl⟩ := rx
  exact rule i t s _ _ ⟨.int (g i), H, I.tok _, ⟨_, rfl⟩, q⟩
theorem un_neg : UnR X (unaryOp .USub) (rU fun i => .int (-i)) := unI fun _ _ _ _ _ q => neg_int q
theorem un_inv : UnR X (unaryOp .Invert) (rU fun i => .int (Builtin.bitNot i)) := unI fun _ _ _ _ _ q => invert_int q

/-! ### bools among ints: n += (a < b) -/
theorem op_add_ib : OpR X (binaryOp .Add) (fun x y H Q => ∃ i k, x = .int i ∧ y = .bl k ∧ Q (.int (i + b2i k)) H) := by
  intro pins s σ H x y v u Q I rx ry h
  obtain ⟨i, k, rfl, rfl, q⟩ := h
  obtain ⟨t, rfl⟩ := rx
  cases ry
  exact add_int_bool ⟨.int (i + b2i k), H, I.tok _, ⟨_, rfl⟩, q⟩
end

/-! ### comparisons -/
/-- the scalars that == tells apart as data does -/
def scal : V → V → Bool
  | .non, .non => true | .non, .int _ => true | .int _, .non => true | .non, .bl _ => true | .bl _, .non => true | .non, .str _ => true | .str _, .non => true
  | .int _, .int _ => true | .bl _, .bl _ => true | .str _, .str _ => true | .byt _, .byt _ => true
  | .int _, .str _ => true | .str _, .int _ => true | .bl _, .str _ => true | .str _, .bl _ => true
  | _, _ => false
def rEq : R2 := fun x y H Q => scal x y = true ∧ Q (.bl (decide (x = y))) H
def rNe : R2 := fun x y H Q => scal x y = true ∧ Q (.bl (!decide (x = y))) H

theorem dec_int {i j : Int} : decide (V.int i = V.int j) = (i == j) := by
  rw [Bool.eq_iff_iff]
  simp
theorem dec_bl {i j : Bool} : decide (V.bl i = V.bl j) = (i == j) := by
  rw [Bool.eq_iff_iff]
  simp
theorem dec_str {i j : Str} : decide (V.str i = V.str j) = (i == j) := by
  rw [Bool.eq_iff_iff]
  simp
theorem dec_byt {i j : Array UInt8} : decide (V.byt i = V.byt j) = (i.toList == j.toList) := by
  rw [Bool.eq_iff_iff]
  cases i
  cases j
  simp

section
variable {X : Cx} {a b c : Expr} {ta tb tc : TE} {pos : Pos}
theorem fin_bl {pins : List (Addr × Obj)} {σ : St} {H : Hp} {s : Shared} {Q : VK} {k k' : Bool} (I : Inv X pins σ H s) (q : Q (.bl k) H) (e : k = k') : EP X pins σ Q (.bool k') s := by
  subst e
  exact ⟨.bl k, H, I, rfl, q⟩
theorem op_eq : OpR X (compareOp .Eq) rEq := by
  intro pins s σ H x y v u Q I rx ry h
  obtain ⟨hs, q⟩ := h
  cases x with
  | non =>
    cases rx
    cases y with
    | non => cases ry; exact PySem.EqNone.eq_none_none (fin_bl I q (by simp))
    | bl j => cases ry; exact PySem.EqNone.eq_none_bool (fin_bl I q (by simp))
    | int j => obtain ⟨t', rfl⟩ := ry; exact PySem.EqNone.eq_none_int (fin_bl I q (by simp))
    | str j => obtain ⟨t', rfl⟩ := ry; exact PySem.EqNone.eq_none_str (fin_bl I q (by simp))
    | _ => exact absurd (show false = true from hs) Bool.false_ne_true
  | bl i =>
    cases rx
    cases y with
    | non => cases ry; exact PySem.EqNone.eq_bool_none (fin_bl I q (by simp))
    | bl j => cases ry; exact eq_bool (fin_bl I q dec_bl)
    | str j => obtain ⟨t', rfl⟩ := ry; exact PySem.EqMixed.eq_bool_str (fin_bl I q (by simp))
    | _ => exact absurd (show false = true from hs) Bool.false_ne_true
  | int i =>
    obtain ⟨t, rfl⟩ := rx
    cases y with
    | non => cases ry; exact PySem.EqNone.eq_int_none (fin_bl I q (by simp))
    | int j => obtain ⟨t', rfl⟩ := ry; exact eq_int (fin_bl I q dec_int)
    | str j => obtain ⟨t', rfl⟩ := ry; exact PySem.EqMixed.eq_int_str (fin_bl I q (by simp))
    | _ => exact absurd (show false = true from hs) Bool.false_ne_true
  | str i =>
    obtain ⟨t, rfl⟩ := rx
    cases y with
    | non => cases ry; exact PySem.EqNone.eq_str_none (fin_bl I q (by simp))
    | bl j => cases ry; exact PySem.EqMixed.eq_str_bool (fin_bl I q (by simp))
    | int j => obtain ⟨t', rfl⟩ := ry; exact PySem.EqMixed.eq_str_int (fin_bl I q (by simp))
    | str j => obtain ⟨t', rfl⟩ := ry; exact eq_str (fin_bl I q dec_str)
    | _ => exact absurd (show false = true from hs) Bool.false_ne_true
  | byt i =>
    obtain ⟨t, rfl⟩ := rx
    cases y with
    | byt j => obtain ⟨t', rfl⟩ := ry; exact PySem.W.eq_bytes (fin_bl I q dec_byt)
    | _ => exact absurd (show false = true from hs) Bool.false_ne_true
  | _ => cases y <;> exact absurd (show false = true from hs) Bool.false_ne_true
theorem op_ne : OpR X (compareOp .NotEq) rNe := by
  intro pins s σ H x y v u Q I rx ry h
  obtain ⟨hs, q⟩ := h
  cases x with
  | non =>
    cases rx
    cases y with
    | non => cases ry; exact PySem.EqNone.ne_none_none (fin_bl I q (by simp))
    | bl j => cases ry; exact PySem.EqNone.ne_none_bool (fin_bl I q (by simp))
    | int j => obtain ⟨t', rfl⟩ := ry; exact PySem.EqNone.ne_none_int (fin_bl I q (by simp))
    | str j => obtain ⟨t', rfl⟩ := ry; exact PySem.EqNone.ne_none_str (fin_bl I q (by simp))
    | _ => exact absurd (show false = true from hs) Bool.false_ne_true
  | bl i =>
    cases rx
    cases y with
    | non => cases ry; exact PySem.EqNone.ne_bool_none (fin_bl I q (by simp))
    | bl j => cases ry; exact ne_bool (fin_bl I q (congrArg not dec_bl))
    | str j => obtain ⟨t', rfl⟩ := ry; exact PySem.EqMixed.ne_bool_str (fin_bl I q (by simp))
    | _ => exact absurd (show false = true from hs) Bool.false_ne_true
  | int i =>
    obtain ⟨t, rfl⟩ := rx
    cases y with
    | non => cases ry; exact PySem.EqNone.ne_int_none (fin_bl I q (by simp))
    | int j => obtain ⟨t', rfl⟩ := ry; exact ne_int (fin_bl I q (congrArg not dec_int))
    | str j => obtain ⟨t', rfl⟩ := ry; exact PySem.EqMixed.ne_int_str (fin_bl I q (by simp))
    | _ => exact absurd (show false = true from hs) Bool.false_ne_true
  | str i =>
    obtain ⟨t, rfl⟩ := rx
    cases y with
    | non => cases ry; exact PySem.EqNone.ne_str_none (fin_bl I q (by simp))
    | bl j => cases ry; exact PySem.EqMixed.ne_str_bool (fin_bl I q (by simp))
    | int j => obtain ⟨t', rfl⟩ := ry; exact PySem.EqMixed.ne_str_int (fin_bl I q (by simp))
    | str j => obtain ⟨t', rfl⟩ := ry; exact ne_str (fin_bl I q (congrArg not dec_str))
    | _ => exact absurd (show false = true from hs) Bool.false_ne_true
  | byt i =>
    obtain ⟨t, rfl⟩ := rx
    cases y with
    | byt j => obtain ⟨t', rfl⟩ := ry; exact PySem.W.ne_bytes (fin_bl I q (congrArg not dec_byt))
    | _ => exact absurd (show false = true from hs) Bool.false_ne_true
  | _ => cases y <;> exact absurd (show false = true from hs) Bool.false_ne_true

theorem op_lt : OpR X (compareOp .Lt) (rI0 fun i j => .bl (decide (i < j))) := opB0 fun _ _ _ _ _ _ _ q => lt_int q
theorem op_le : OpR X (compareOp .LtE) (rI0 fun i j => .bl (decide (i ≤ j))) := opB0 fun _ _ _ _ _ _ _ q => le_int q
theorem op_gt : OpR X (compareOp .Gt) (rI0 fun i j => .bl (decide (j < i))) := opB0 fun _ _ _ _ _ _ _ q => gt_int q
theorem op_ge : OpR X (compareOp .GtE) (rI0 fun i j => .bl (decide (j ≤ i))) := opB0 fun _ _ _ _ _ _ _ q => ge_int q
theorem op_lt_str : OpR X (compareOp .Lt) (fun x y H Q => ∃ i j, x = .str i ∧ y = .str j ∧ Q (.bl (decide (i.cps.toList < j.cps.toList))) H) := by
  intro pins s σ H x y v u Q I rx ry h
  obtain ⟨i, j, rfl, rfl, q⟩ := h
  obtain ⟨t, rfl⟩ := rx
  obtain ⟨t', rfl⟩ := ry
  exact lt_str (fin_bl I q rfl)
/-- the one string within the other -/
theorem op_in_str : OpR X (compareOp .In) (fun x y H Q => ∃ i j, x = .str i ∧ y = .str j ∧ Q (.bl (!(Builtin.Str.occurrences j i 0 j.length 1).isEmpty)) H) := by
  intro pins s σ H x y v u Q I rx ry h
  obtain ⟨i, j, rfl, rfl, q⟩ := h
  obtain ⟨t, rfl⟩ := rx
  obtain ⟨t', rfl⟩ := ry
  exact in_str (fin_bl I q rfl)

/-- is None, is not None: the right side a value none -/
theorem op_isN : OpR X (compareOp .Is) (fun x y H Q => y = .non ∧ Q (.bl (decide (x = .non))) H) := by
  intro pins s σ H x y v u Q I rx ry h
  obtain ⟨rfl, q⟩ := h
  cases ry
  refine is_none_gen (fin_bl I q ?_)
  cases x <;> first
    | (cases rx; rfl)
    | (obtain ⟨t, rfl⟩ := rx; rfl)
theorem op_notN : OpR X (compareOp .IsNot) (fun x y H Q => y = .non ∧ Q (.bl (!decide (x = .non))) H) := by
  intro pins s σ H x y v u Q I rx ry h
  obtain ⟨rfl, q⟩ := h
  cases ry
  refine isnot_none_gen (fin_bl I q ?_)
  cases x <;> first
    | (cases rx; rfl)
    | (obtain ⟨t, rfl⟩ := rx; rfl)

theorem op_notin_str : OpR X (compareOp .NotIn) (fun x y H Q => ∃ i j, x = .str i ∧ y = .str j ∧ Q (.bl (!(!(Builtin.Str.occurrences j i 0 j.length 1).isEmpty))) H) := by
  intro pins s σ H x y v u Q I rx ry h
  obtain ⟨i, j, rfl, rfl, q⟩ := h
  obtain ⟨t, rfl⟩ := rx
  obtain ⟨t', rfl⟩ := ry
  exact notIn_str (fin_bl I q rfl)
/-- is, is not of two objects that are tracked lists or instances -/
def isObj : HO → Bool
  | .lst _ => true
  | .ins _ _ _ => true
  | _ => false
theorem obj_there {pins : List (Addr × Obj)} {s : Shared} {σ : St} {H : Hp} {a : Addr} {o : HO} (I : Inv X pins σ H s) (h : H a = some o) (p : isObj o = true) : ∃ ob, s.heap.get? a = some ob ∧ ob.cls ≠ .type "tuple" := by
  cases o with
  | lst xs =>
    obtain ⟨_, its, n, _, e⟩ : xs.length ≤ sizeLine ∧ ∃ (its : List Value) (n : Nat), Vals xs its ∧ s.heap.get? a = some { cls := .type "list", data := .seq its.toArray n } := I.hok a _ h
    exact ⟨_, e, (by show Value.type "list" ≠ .type "tuple"; decide +kernel)⟩
  | ins C dx fs =>
    have x := I.hok a _ h
    obtain ⟨_, _, _, e, _⟩ := x
    exact ⟨_, e, (by show Value.ref C ≠ .type "tuple"; exact fun z => by cases z)⟩
  | _ => exact absurd (show false = true from p) Bool.false_ne_true
theorem op_is_ref : OpR X (compareOp .Is) (fun x y H Q => ∃ a b oa ob, x = .ref a ∧ y = .ref b ∧ H a = some oa ∧ isObj oa = true ∧ H b = some ob ∧ isObj ob = true ∧ Q (.bl (decide (a = b))) H) := by
  intro pins s σ H x y v u Q I rx ry h
  obtain ⟨a, b, oa, ob, rfl, rfl, ha, pa, hb, pb, q⟩ := h
  cases rx
  cases ry
  obtain ⟨o1, e1, n1⟩ := obj_there I ha pa
  obtain ⟨o2, e2, _⟩ := obj_there I hb pb
  by_cases z : a = b
  · subst z
    exact wpAny_is_ref_self (fin_bl I q (by simp))
  · exact wpAny_is_ref_other z e1 e2 n1 (fin_bl I q (by simp [z]))
theorem op_isnot_ref : OpR X (compareOp .IsNot) (fun x y H Q => ∃ a b oa ob, x = .ref a ∧ y = .ref b ∧ H a = some oa ∧ isObj oa = true ∧ H b = some ob ∧ isObj ob = true ∧ Q (.bl (!decide (a = b))) H) := by
  intro pins s σ H x y v u Q I rx ry h
  obtain ⟨a, b, oa, ob, rfl, rfl, ha, pa, hb, pb, q⟩ := h
  cases rx
  cases ry
  obtain ⟨o1, e1, n1⟩ := obj_there I ha pa
  obtain ⟨o2, e2, _⟩ := obj_there I hb pb
  by_cases z : a = b
  · subst z
    exact wpAny_isNot_ref_self (fin_bl I q (by simp))
  · exact wpAny_isNot_ref_other z e1 e2 n1 (fin_bl I q (by simp [z]))

/-- two rules for one operation: by cases -/
theorem OpR.or {f : Value → Value → Sem Value} {r r' : R2} (h : OpR X f r) (h' : OpR X f r') : OpR X f (fun x y H Q => r x y H Q ∨ r' x y H Q) := by
  intro pins s σ H x y v u Q I rx ry q
  rcases q with q | q
  · exact h pins s σ H x y v u Q I rx ry q
  · exact h' pins s σ H x y v u Q I rx ry q

theorem nomark (b : Expr) {op : CmpOp} (h : op ≠ .In := by decide) (h2 : op ≠ .NotIn := by decide) : behindInMarks op b = false := by
  have e1 : (op == CmpOp.In) = false := by cases op <;> first | rfl | exact absurd rfl h
  have e2 : (op == CmpOp.NotIn) = false := by cases op <;> first | rfl | exact absurd rfl h2
  cases b <;> simp [behindInMarks, e1, e2]
/-- a comparison as a value; hm: nomark b, or (for in, not in) by with_unfolding_all rfl -/
theorem pe_cmpR {op : CmpOp} {r : R2} (ho : OpR X (compareOp op) r) (ha : PE X a ta) (hb : PE X b tb) (hm : behindInMarks op b = false) : PE X (.Compare a [op] [b] pos) (tOp r ta tb) := by
  intro pins s σ H Q I h
  exact wpAny_Compare1 (binT ha hb I h fun v u s2 x y H2 I2 rx ry q => ho pins s2 σ H2 x y v u Q I2 rx ry q) hm
/-- a reading of a value as a test -/
def tTest (t : TE) : TT := fun σ H Q => t σ H fun x H' => ∃ k, x = .bl k ∧ Q k H'
theorem pt_cmpR {op : CmpOp} {r : R2} (ho : OpR X (compareOp op) r) (ha : PE X a ta) (hb : PE X b tb) (hm : behindInMarks op b = false) : PT X (.Compare a [op] [b] pos) (tTest (tOp r ta tb)) := by
  intro pins s σ H Q I h
  refine wpAny_isTrue_Compare1 (thn (ha pins s σ H _ I h) fun v s1 ⟨x, H1, I1, r1, q1⟩ => thn (hb pins s1 σ H1 _ I1 q1) fun u s2 ⟨y, H2, I2, r2, q2⟩ =>
    thn (ho pins s2 σ H2 x y v u _ I2 r1 r2 q2) fun c s3 ⟨z, H3, I3, r3, k, e, q3⟩ => ?_) hm
  subst e
  cases r3
  exact wpAny_truthy_bool ⟨H3, I3, q3⟩
/-- a op1 b op2 c -/
def tChain (r r' : R2) (ta tb tc : TE) : TE := fun σ H Q => ta σ H fun x H1 => tb σ H1 fun y H2 => r x y H2 fun z H3 => ∃ k, z = .bl k ∧
  (if k = true then tc σ H3 fun w' H4 => r' y w' H4 Q else Q (.bl false) H3)
theorem pe_chain {op op' : CmpOp} {r r' : R2} (ho : OpR X (compareOp op) r) (ho' : OpR X (compareOp op') r') (ha : PE X a ta) (hb : PE X b tb) (hc : PE X c tc)
    (hm : lastMarks [op, op'] [b, c] = false := by with_unfolding_all rfl) : PE X (.Compare a [op, op'] [b, c] pos) (tChain r r' ta tb tc) := by
  intro pins s σ H Q I h
  refine Compare_chain (thn (ha pins s σ H _ I h) fun v s1 ⟨x, H1, I1, r1, q1⟩ => chain_link (thn (hb pins s1 σ H1 _ I1 q1) fun u s2 ⟨y, H2, I2, r2, q2⟩ =>
    thn (ho pins s2 σ H2 x y v u _ I2 r1 r2 q2) fun d s3 ⟨z, H3, I3, r3, k, e, q3⟩ => ?_)) hm
  subst e
  cases r3
  refine wpAny_truthy_bool ?_
  cases k with
  | false => exact ite_ff ⟨.bl false, H3, I3, rfl, q3⟩
  | true => exact ite_tt (chain_last (thn (hc pins s3 σ H3 _ I3 q3) fun w' s4 ⟨z', H4, I4, r4, q4⟩ => ho' pins s4 σ H4 y z' u w' Q I4 r2 r4 q4))
theorem pt_chain {op op' : CmpOp} {r r' : R2} (ho : OpR X (compareOp op) r) (ho' : OpR X (compareOp op') r') (ha : PE X a ta) (hb : PE X b tb) (hc : PE X c tc)
    (hm : lastMarks [op, op'] [b, c] = false := by with_unfolding_all rfl) : PT X (.Compare a [op, op'] [b, c] pos) (tTest (tChain r r' ta tb tc)) := by
  intro pins s σ H Q I h
  refine isTrue_chain (thn (ha pins s σ H _ I h) fun v s1 ⟨x, H1, I1, r1, q1⟩ => test_link (thn (hb pins s1 σ H1 _ I1 q1) fun u s2 ⟨y, H2, I2, r2, q2⟩ =>
    thn (ho pins s2 σ H2 x y v u _ I2 r1 r2 q2) fun d s3 ⟨z, H3, I3, r3, k, e, q3⟩ => ?_)) hm
  subst e
  cases r3
  refine wpAny_truthy_bool ?_
  cases k with
  | false =>
    obtain ⟨k', e', q'⟩ := q3
    cases e'
    exact ite_ff ⟨H3, I3, q'⟩
  | true =>
    refine ite_tt (test_last (thn (hc pins s3 σ H3 _ I3 q3) fun w' s4 ⟨z', H4, I4, r4, q4⟩ => thn (ho' pins s4 σ H4 y z' u w' _ I4 r2 r4 q4) fun d' s5 ⟨z2, H5, I5, r5, k2, e2, q5⟩ => ?_))
    subst e2
    cases r5
    exact wpAny_truthy_bool ⟨H5, I5, q5⟩

/-! ### truth -/
/-- a value's truth by the abstract heap -/
def TruV (K : PySem.W.Frag) (x : V) (H : Hp) (k : Bool) : Prop :=
  match x with
  | .non => k = false
  | .bl b => k = b
  | .int i => k = (i != 0)
  | .str y => y.length ≤ sizeLine ∧ k = ((y.length : Int) != 0)
  | .byt y => y.size ≤ sizeLine ∧ k = ((y.size : Int) != 0)
  | .ref p => (∃ xs, SqL K H p xs ∧ k = !xs.isEmpty) ∨ (∃ xs, SqT K H p xs ∧ k = !xs.isEmpty) ∨ ∃ kvs, H p = some (.dK kvs) ∧ k = !kvs.isEmpty
  | _ => False
theorem isEmpty_kv {κ : Type} {kvs : List (κ × V)} {vs : List (κ × Value)} (r : KV kvs vs) : (!vs.isEmpty) = !kvs.isEmpty := by
  cases r <;> rfl
theorem isEmpty_of {xs : List V} {its : List Value} (r : Vals xs its) : (!its.toArray.isEmpty) = !xs.isEmpty := by
  cases r <;> simp
theorem line63 : (sizeLine : Nat) < 2 ^ 63 := by rw [sizeLine_eq]; decide
theorem tru_ok : TruR X (fun x H Q => ∃ k, TruV X.K x H k ∧ Q k H) := by
  intro pins s σ H x v Q I rx h
  obtain ⟨k, e, q⟩ := h
  have hl := line63
  have hs : sizeLine = 16777216 := sizeLine_eq
  cases x with
  | non =>
    cases rx
    have e' : k = false := e
    subst e'
    exact truthy_none ⟨H, I, q⟩
  | bl b =>
    cases rx
    have e' : k = b := e
    subst e'
    exact wpAny_truthy_bool ⟨H, I, q⟩
  | int i =>
    obtain ⟨t, rfl⟩ := rx
    have e' : k = (i != 0) := e
    subst e'
    exact PySem.P.truthy_int ⟨H, I, q⟩
  | str y =>
    obtain ⟨t, rfl⟩ := rx
    obtain ⟨hy, e'⟩ : y.length ≤ sizeLine ∧ k = ((y.length : Int) != 0) := e
    subst e'
    exact PySem.P.truthy_str (by omega) ⟨H, I.tok _, q⟩
  | byt y =>
    obtain ⟨t, rfl⟩ := rx
    obtain ⟨hy, e'⟩ : y.size ≤ sizeLine ∧ k = ((y.size : Int) != 0) := e
    subst e'
    exact PySem.W.truthy_bytes (by omega) ⟨H, I.tok _, q⟩
  | ref p =>
    cases rx
    have e' : (∃ xs, SqL X.K H p xs ∧ k = !xs.isEmpty) ∨ (∃ xs, SqT X.K H p xs ∧ k = !xs.isEmpty) ∨ ∃ kvs, H p = some (.dK kvs) ∧ k = !kvs.isEmpty := e
    rcases e' with ⟨xs, hx, e'⟩ | ⟨xs, hx, e'⟩ | ⟨kvs, hx, e'⟩
    · subst e'
      obtain ⟨its, r, pl, hz⟩ := I.list hx
      have hlen := r.length
      exact wpAny_truthy_list pl.isList (by simp only [List.size_toArray]; omega) ⟨H, I.tok _, by rw [isEmpty_of r]; exact q⟩
    · subst e'
      obtain ⟨its, r, pl, hz⟩ := I.tuple hx
      have hlen := r.length
      exact truthy_tuple pl (by simp only [List.size_toArray]; omega) ⟨H, I.tok _, by rw [isEmpty_of r]; exact q⟩
    · subst e'
      obtain ⟨hz, hS, vs, r, m⟩ : kvs.length ≤ sizeLine ∧ (p == sysModules) = false ∧ ∃ vs, KV kvs vs ∧ s.heap.DictOf (mixKind X.prog X.w) p vs := I.hok p _ hx
      have hlen : kvs.length = vs.length := Paired.length r
      exact wpAny_truthy_dict hS m (by omega) ⟨H, I.tok _, by rw [isEmpty_kv r]; exact q⟩
  | _ => exact (show False from e).elim
/-- any expression whose test is its value's truth (a name, a call, a subscript, a field ..: he by fun _ => rfl) -/
theorem pt_truth (ha : PE X a ta) (he : ∀ whole, isTrue a X.env whole = (do let v ← whole; standAt a.pos; holding [v] (truthy v))) :
    PT X a (fun σ H Q => ta σ H fun x H' => ∃ k, TruV X.K x H' k ∧ Q k H') := by
  intro pins s σ H Q I h
  exact isTrue_plain (thn (ha pins s σ H _ I h) fun v s1 ⟨x, H1, I1, r1, q1⟩ => tru_ok pins s1 σ H1 x v Q I1 r1 q1) (he _)

/-! ### strs and bytes -/
theorem pe_byt {x : List UInt8} {k : Nat} : PE X (.Constant (.bytes x) k pos) (fun _ H Q => Q (.byt x.toArray) H) := fun _ _ _ H _ I h => PySem.W.Constant_bytes ⟨.byt x.toArray, H, I.tok _, ⟨_, rfl⟩, h⟩
theorem op_add_str : OpR X (binaryOp .Add) (fun x y H Q => ∃ i j, x = .str i ∧ y = .str j ∧ i.length + j.length ≤ sizeLine ∧ Q (.str (i ++ j)) H) := by
  intro pins s σ H x y v u Q I rx ry h
  obtain ⟨i, j, rfl, rfl, hz, q⟩ := h
  obtain ⟨t, rfl⟩ := rx
  obtain ⟨t', rfl⟩ := ry
  exact add_str (fun t' tk => ⟨.str (i ++ j), H, I.tok _, ⟨_, rfl⟩, q⟩) hz
theorem iop_add_str : OpR X (inplaceOp .Add) (fun x y H Q => ∃ i j, x = .str i ∧ y = .str j ∧ i.length + j.length ≤ sizeLine ∧ Q (.str (i ++ j)) H) := by
  intro pins s σ H x y v u Q I rx ry h
  obtain ⟨i, j, rfl, rfl, hz, q⟩ := h
  obtain ⟨t, rfl⟩ := rx
  obtain ⟨t', rfl⟩ := ry
  exact iadd_str (fun t' tk => ⟨.str (i ++ j), H, I.tok _, ⟨_, rfl⟩, q⟩) hz
theorem op_add_byt : OpR X (binaryOp .Add) (fun x y H Q => ∃ i j, x = .byt i ∧ y = .byt j ∧ i.size + j.size ≤ 16777216 ∧ Q (.byt (i ++ j)) H) := by
  intro pins s σ H x y v u Q I rx ry h
  obtain ⟨i, j, rfl, rfl, hz, q⟩ := h
  obtain ⟨t, rfl⟩ := rx
  obtain ⟨t', rfl⟩ := ry
  exact PySem.W.KBy.add_bytes hz (fun t' tk => ⟨.byt (i ++ j), H, I.tok _, ⟨_, rfl⟩, q⟩)

def PlainIxT (b : Expr) : Prop := ∀ o i, subscripted b false o i = operate [o, i] (getItem o i)
/-- s[i], 0 ≤ i < len -/
theorem pe_item_str (ha : PE X a ta) (hb : PE X b tb) (hs : PlainIxT b) :
    PE X (.Subscript a b pos) (tOp (fun x y H Q => ∃ z i c, x = .str z ∧ y = .int i ∧ 0 ≤ i ∧ i < 2 ^ 63 ∧ i < z.length ∧ z.cps[i.toNat]? = some c ∧ Q (.str ⟨#[c]⟩) H) ta tb) := by
  intro pins s σ H Q I h
  refine Subscript_ (binT ha hb I h fun v u s2 x y H2 I2 rx ry q => ?_)
  obtain ⟨z, i, c, rfl, rfl, h0, h63, h1, hc, q⟩ := q
  obtain ⟨t, rfl⟩ := rx
  obtain ⟨t', rfl⟩ := ry
  have e : seqIndex? i z.length = some i.toNat := PySem.StrLaws.seqIndex_nonneg h0 h1
  exact tail_any (typeIs_str s2 z t) slot_str_getitem.lookup (getItem_str (c := c) (by
    have e1 : decide (i < -(2 ^ 63 : Int)) = false := decide_eq_false (by omega)
    have e2 : decide (i ≥ 2 ^ 63) = false := decide_eq_false (by omega)
    rw [e1, e2] <;> rfl) (by rw [e]; exact hc) ⟨.str ⟨#[c]⟩, H2, I2.tok _, ⟨_, rfl⟩, q⟩) (hs _ _)
/-- b[i], 0 ≤ i < len -/
theorem pe_item_byt (ha : PE X a ta) (hb : PE X b tb) (hs : PlainIxT b) :
    PE X (.Subscript a b pos) (tOp (fun x y H Q => ∃ (z : List UInt8) (i : Int), x = .byt z.toArray ∧ y = .int i ∧ z.length ≤ sizeLine ∧ 0 ≤ i ∧ i < z.length ∧ Q (.int ((z.getD i.toNat 0).toNat : Nat)) H) ta tb) := by
  intro pins s σ H Q I h
  refine Subscript_ (binT ha hb I h fun v u s2 x y H2 I2 rx ry q => ?_)
  obtain ⟨z, i, rfl, rfl, hz, h0, h1, q⟩ := q
  obtain ⟨t, rfl⟩ := rx
  obtain ⟨t', rfl⟩ := ry
  have hl : sizeLine = 16777216 := sizeLine_eq
  exact tail_any (PySem.W.typeIs_bytes s2 z.toArray t) PySem.W.FB.slot_bytes_getitem.lookup (PySem.W.getItem_bytes (by omega) h0 h1 ⟨.int ((z.getD i.toNat 0).toNat : Nat), H2, I2.tok _, ⟨_, rfl⟩, q⟩) (hs _ _)

/-! ### scalar builtins, by CallR -/
theorem vals1 {x : V} {us : List Value} (r : Vals [x] us) : ∃ u, us = [u] ∧ RelV x u := by
  cases r with
  | cons r1 r2 => cases r2; exact ⟨_, rfl, r1⟩
theorem vals2 {x y : V} {us : List Value} (r : Vals [x, y] us) : ∃ u w', us = [u, w'] ∧ RelV x u ∧ RelV y w' := by
  cases r with
  | cons r1 r2 =>
    cases r2 with
    | cons r3 r4 => cases r4; exact ⟨_, _, rfl, r1, r3⟩
theorem call_abs : CallR X (.builtin "abs") (fun xs H Q => ∃ i, xs = [.int i] ∧ Q (.int (if i < 0 then -i else i)) H) := by
  intro pins s σ H xs us Q I r h
  obtain ⟨i, rfl, q⟩ := h
  obtain ⟨u, rfl, t, rfl⟩ := vals1 r
  exact call_abs_int fun u tk => ⟨.int (if i < 0 then -i else i), H, I.tok _, ⟨_, rfl⟩, q⟩
theorem call_max2 (hc : X.calm = true) : CallR X (.builtin "max") (fun xs H Q => ∃ i j, xs = [.int i, .int j] ∧ Q (.int (if j > i then j else i)) H) := by
  intro pins s σ H xs us Q I r h
  obtain ⟨i, j, rfl, q⟩ := h
  obtain ⟨u, w', rfl, ⟨t, rfl⟩, ⟨t', rfl⟩⟩ := vals2 r
  refine max_two_ints (I.ok.hd hc) fun h' tk k => ⟨_, H, I.kept k, ?_, q⟩
  by_cases hj : j > i
  · rw [if_pos hj, if_pos hj]; exact ⟨_, rfl⟩
  · rw [if_neg hj, if_neg hj]; exact ⟨_, rfl⟩
theorem call_min2 (hc : X.calm = true) : CallR X (.builtin "min") (fun xs H Q => ∃ i j, xs = [.int i, .int j] ∧ Q (.int (if j < i then j else i)) H) := by
  intro pins s σ H xs us Q I r h
  obtain ⟨i, j, rfl, q⟩ := h
  obtain ⟨u, w', rfl, ⟨t, rfl⟩, ⟨t', rfl⟩⟩ := vals2 r
  refine min_two_ints (I.ok.hd hc) fun h' tk k => ⟨_, H, I.kept k, ?_, q⟩
  by_cases hj : j < i
  · rw [if_pos hj, if_pos hj]; exact ⟨_, rfl⟩
  · rw [if_neg hj, if_neg hj]; exact ⟨_, rfl⟩
theorem call_int1 : CallR X (.type "int") (fun xs H Q => (∃ i, xs = [.int i] ∧ Q (.int i) H) ∨ ∃ k, xs = [.bl k] ∧ Q (.int (if k then 1 else 0)) H) := by
  intro pins s σ H xs us Q I r h
  rcases h with ⟨i, rfl, q⟩ | ⟨k, rfl, q⟩
  · obtain ⟨u, rfl, t, rfl⟩ := vals1 r
    exact call_int_int ⟨.int i, H, I, ⟨_, rfl⟩, q⟩
  · obtain ⟨u, rfl, r1⟩ := vals1 r
    cases r1
    exact call_int_bool ⟨.int (if k then 1 else 0), H, I.tok _, ⟨_, rfl⟩, q⟩
theorem call_bool1 : CallR X (.type "bool") (fun xs H Q => (∃ i, xs = [.int i] ∧ Q (.bl (i != 0)) H) ∨ ∃ k, xs = [.bl k] ∧ Q (.bl k) H) := by
  intro pins s σ H xs us Q I r h
  rcases h with ⟨i, rfl, q⟩ | ⟨k, rfl, q⟩
  · obtain ⟨u, rfl, t, rfl⟩ := vals1 r
    exact call_bool_int ⟨.bl (i != 0), H, I, rfl, q⟩
  · obtain ⟨u, rfl, r1⟩ := vals1 r
    cases r1
    exact call_bool_bool ⟨.bl k, H, I, rfl, q⟩
theorem call_str_int : CallR X (.type "str") (fun xs H Q => ∃ i, xs = [.int i] ∧ i.natAbs.log2 < 1920 ∧ Q (.str (toString i)) H) := by
  intro pins s σ H xs us Q I r h
  obtain ⟨i, rfl, hz, q⟩ := h
  obtain ⟨u, rfl, t, rfl⟩ := vals1 r
  exact PySem.P.str_of_int hz ⟨.str _, H, I.tok _, ⟨_, rfl⟩, q⟩
theorem call_ord : CallR X (.builtin "ord") (fun xs H Q => ∃ x, xs = [.str x] ∧ x.length = 1 ∧ Q (.int (x.cps.getD 0 0 : Nat)) H) := by
  intro pins s σ H xs us Q I r h
  obtain ⟨x, rfl, hz, q⟩ := h
  obtain ⟨u, rfl, t, rfl⟩ := vals1 r
  exact ord_of_one hz ⟨.int _, H, I.tok _, ⟨_, rfl⟩, q⟩
theorem call_chr : CallR X (.builtin "chr") (fun xs H Q => ∃ i, xs = [.int i] ∧ 0 ≤ i ∧ i ≤ 1114111 ∧ Q (.str ⟨#[i.toNat]⟩) H) := by
  intro pins s σ H xs us Q I r h
  obtain ⟨i, rfl, h0, h1, q⟩ := h
  obtain ⟨u, rfl, t, rfl⟩ := vals1 r
  exact chr_of_range h0 h1 ⟨.str _, H, I.tok _, ⟨_, rfl⟩, q⟩
/-- len of a str, a bytes, a list, a tuple -/
def LenV (K : PySem.W.Frag) (x : V) (H : Hp) (n : Nat) : Prop :=
  match x with
  | .str y => y.length ≤ sizeLine ∧ n = y.length
  | .byt y => y.size ≤ sizeLine ∧ n = y.size
  | .ref p => (∃ xs, SqL K H p xs ∧ n = xs.length) ∨ ∃ xs, SqT K H p xs ∧ n = xs.length
  | _ => False
theorem call_len : CallR X (.builtin "len") (fun xs H Q => ∃ x n, xs = [x] ∧ LenV X.K x H n ∧ Q (.int n) H) := by
  intro pins s σ H xs us Q I r h
  obtain ⟨x, n, rfl, e, q⟩ := h
  obtain ⟨u, rfl, rx⟩ := vals1 r
  have hl := line63
  have hs : sizeLine = 16777216 := sizeLine_eq
  cases x with
  | str y =>
    obtain ⟨t, rfl⟩ := rx
    obtain ⟨hy, e'⟩ : y.length ≤ sizeLine ∧ n = y.length := e
    subst e'
    exact len_str (by omega) ⟨.int _, H, I.tok _, ⟨_, rfl⟩, q⟩
  | byt y =>
    obtain ⟨t, rfl⟩ := rx
    obtain ⟨hy, e'⟩ : y.size ≤ sizeLine ∧ n = y.size := e
    subst e'
    exact PySem.W.len_bytes (by omega) ⟨.int _, H, I.tok _, ⟨_, rfl⟩, q⟩
  | ref p =>
    cases rx
    have e' : (∃ xs, SqL X.K H p xs ∧ n = xs.length) ∨ ∃ xs, SqT X.K H p xs ∧ n = xs.length := e
    rcases e' with ⟨xs, hx, e'⟩ | ⟨xs, hx, e'⟩
    · subst e'
      obtain ⟨its, r', pl, hz⟩ := I.list hx
      have hlen := r'.length
      exact Calls.call_len_list pl.isList (by simp only [List.size_toArray]; omega) ⟨.int xs.length, H, I.tok _, ⟨_, by simp only [List.size_toArray]; rw [hlen]⟩, q⟩
    · subst e'
      obtain ⟨its, r', pl, hz⟩ := I.tuple hx
      have hlen := r'.length
      exact len_tuple pl (by simp only [List.size_toArray]; omega) ⟨.int xs.length, H, I.tok _, ⟨_, by simp only [List.size_toArray]; rw [hlen]⟩, q⟩
  | _ => exact (show False from e).elim
/-- divmod: a new tuple -/
theorem call_divmod : CallR X (.builtin "divmod") (fun xs H Q => ∃ i j, xs = [.int i, .int j] ∧ CDiv i j ∧ ∀ p, H p = none → Q (.ref p) (upd H p (.tup [.int (i / j), .int (i % j)]))) := by
  intro pins s σ H xs us Q I r h
  obtain ⟨i, j, rfl, ⟨h1, h2⟩, q⟩ := h
  obtain ⟨u, w', rfl, ⟨t, rfl⟩, ⟨t', rfl⟩⟩ := vals2 r
  refine divmod_int (by omega) ?_ (.inl (PyProof.noPylong_small (by omega)))
  rw [Int.fdiv_eq_ediv_of_nonneg i (by omega), Int.fmod_eq_emod_of_nonneg i (by omega)]
  have hn : H s.heap.objs.size = none := I.hok.fresh (Nat.le_refl _)
  refine ⟨.ref s.heap.objs.size, _, ?_, rfl, q _ hn⟩
  refine I.laid (fun b o e => Heap.get?_push_of_some _ e) (Nat.le_refl _) ⟨by simp only [List.length_cons, List.length_nil]; rw [sizeLine_eq]; decide, [.int (i / j) s.toks, .int (i % j) (s.toks + 1)], .cons ⟨_, rfl⟩ (.cons ⟨_, rfl⟩ .nil), ?_⟩
  exact ⟨_, Heap.get?_push_size s.heap rfl, ⟨rfl, 0, rfl⟩, rfl⟩
end
end L2

namespace L2
open PySem PySem.Spec PyProof.Rows

/-! ### an instance, its attributes a map -/
structure ObjM (h : Heap) (x dx C : Addr) (mA : Str → Option Value) : Prop where
  obj : h.get? x = some (PySem.W.instObj C dx)
  ns : h.Ns1 dx mA
  ne : dx ≠ x

theorem lookIn_ns {h : Heap} {dx : Addr} {mA : Str → Option Value} (n : h.Ns1 dx mA) : ∃ od, h.get? dx = some od ∧ ∀ name, PySem.W.lookIn name od = some (mA name) := by
  obtain ⟨o, es, ep, ho, hd, hk, _, hm⟩ := n
  refine ⟨o, ho, fun name => ?_⟩
  have e := hm name
  unfold nsFind findBy at e
  rw [← Array.find?_toList] at e
  unfold PySem.W.lookIn
  rw [hd]
  dsimp only
  split
  · rename_i y q
    rw [q] at e
    exact congrArg some e
  · rename_i q
    rw [q] at e
    have a : es.toList.any (·.refKey) = false := by
      rw [List.any_eq_false]
      intro y hy
      obtain ⟨z, t, hkey⟩ := hk y (Array.mem_toList_iff.mp hy)
      simp [DictEntry.refKey, hkey]
    have a' : ¬ es.toList.any (·.refKey) = true := by rw [a]; exact Bool.false_ne_true
    rw [if_neg a']
    exact congrArg some e

theorem ObjM.look {h : Heap} {x dx C : Addr} {mA : Str → Option Value} (I : ObjM h x dx C mA) : ∃ od, PySem.W.InstAt h x (PySem.W.instObj C dx) C (some od) ∧ ∀ name, PySem.W.lookIn name od = some (mA name) :=
  let ⟨od, ho, hl⟩ := lookIn_ns I.ns
  ⟨od, ⟨I.obj, rfl, rfl, ho⟩, hl⟩

section
variable {prog : Program} {w : World} {A : Around} {E : Value → Shared → Prop} {s : Shared} {K : PySem.W.Frag} {x dx C f : Addr} {mA : Str → Option Value} {name : Str} {v : Value}

theorem get_map {expr : Bool} {Q : Value → Shared → Prop} (X : K.In s.heap) (I : ObjM s.heap x dx C mA) (hg : PySem.W.plainGet K C name = true) (hh : PySem.W.hasDictIn K C = true)
    (ha : PySem.W.findIn K (.ref C) name = some none) (hv : mA name = some v) (hv' : PySem.W.handedIn v = true) (h : Q v { s with toks := s.toks + 1 }) :
    wpAny (model prog w) A (getAttr (.ref x) name expr) Q E s := by
  obtain ⟨od, J, hl⟩ := I.look
  exact PySem.W.get_value X J (PySem.W.plainGet_of hg).1 (PySem.W.findObj_own hh ha rfl (by rw [hl, hv])) hv' h

theorem get_const {expr : Bool} {a : Value} {Q : Value → Shared → Prop} (X : K.In s.heap) (I : ObjM s.heap x dx C mA) (hg : PySem.W.plainGet K C name = true) (hh : PySem.W.hasDictIn K C = true)
    (ha : PySem.W.findIn K (.ref C) name = some (some a)) (hn : PySem.W.specialIn K a "__get__" = some none) (hc : PySem.W.copiedNames.contains name = false) (hv : mA name = none) (hv' : PySem.W.handedIn a = true)
    (h : Q a { s with toks := s.toks + 1 }) : wpAny (model prog w) A (getAttr (.ref x) name expr) Q E s := by
  obtain ⟨od, J, hl⟩ := I.look
  exact PySem.W.get_value X J (PySem.W.plainGet_of hg).1 (PySem.W.findObj_cls hh ha hn hv' hc (by rw [hl, hv])) hv' h

theorem get_meth {pl : Sem Bool} {Q : Value × List Value → Shared → Prop} (X : K.In s.heap) (I : ObjM s.heap x dx C mA) (hg : PySem.W.plainGet K C name = true)
    (hf : PySem.W.findIn K (.ref C) name = some (some (.ref f))) (ht : PySem.W.isFn K (.ref f) = true) (hv : mA name = none) (h : Q (.ref f, [.ref x]) s) :
    wpAny (model prog w) A (getMethod (.ref x) name pl) Q E s := by
  obtain ⟨od, J, hl⟩ := I.look
  exact PySem.W.method_fn X J (PySem.W.plainGet_of hg).1 (PySem.W.plainGet_of hg).2 hf (beq_iff_eq.mp ht) (by show (PySem.W.lookIn name od).map (·.isSome) = some false; rw [hl, hv]; rfl) h

theorem set_map {ns : List Str} {Q : Unit → Shared → Prop} (X : K.In s.heap) (I : ObjM s.heap x dx C mA)
    (hs : PySem.W.findIn K (.ref C) "__setattr__" = some (some (.builtin "object.__setattr__"))) (hp : PySem.W.plainOver K C = true) (ht : PySem.W.takerIn K C name = some none) (hh : PySem.W.hasDictIn K C = true)
    (hw : PySem.Within mA ns) (hsz : ns.length ≤ sizeLine)
    (h : ∀ h', ObjM h' x dx C (fun y => if y = name then some v else mA y) → Heap.SameBut dx s.heap h' → Q () { s with heap := h', toks := s.toks + 2 }) :
    wpAny (model prog w) A (setAttr (.ref x) name v) Q E s := by
  obtain ⟨od, J, hl⟩ := I.look
  refine PySem.W.set_plain X J hs (PySem.W.osa_open (s := { s with toks := s.toks + 1 }) (r := none) X J hp ht fun b => ?_)
  obtain ⟨cd, hc, hd'⟩ := PySem.W.any_some hh
  have hx : s.heap.get? x = some ⟨.ref C, some dx, .plain, #[]⟩ := I.obj
  refine wpAny_bind (wpAny_pure (wpAny_bind (wpAny_bind (wpAny_loadPart hx (wpAny_bind (PySem.W.Looks.here (s := { s with toks := s.toks + 1 }) (PySem.W.looks_clsIn X hc) ?_))))))
  rw [hd']
  refine wpAny_pure (a := some dx) (wpAny_bind (wpAny_pure (wpAny_bind ?_)))
  refine wpAny_nsSet1 (s := { s with toks := s.toks + 1 }) I.ns fun h' hn2 hs2 => ?_
  obtain ⟨oD, esD, epD, hoD, hdD, hcD⟩ := hn2.count (PySem.Within.cons name v hw)
  refine wpAny_bind (wpAny_lookBehind hoD (by rw [hdD]; exact pastItsLine_dict (Nat.le_trans hcD (by rw [List.length_cons]; omega))) ?_)
  exact wpAny_pure (h _ ⟨(hs2.2 _ (Ne.symm I.ne)).trans I.obj, hn2, I.ne⟩ hs2)

/-- C(..): the dict at the heap's end, the instance behind it; then its __init__ -/
theorem make_map {R : Result → Shared → Prop} {vs : List Value} {kw : List (Str × Value)} (X : K.In s.heap) (hm : PySem.W.makesIn K C = true)
    (hi : PySem.W.findIn K (.ref C) "__init__" = some (some (.ref f))) (hf : PySem.W.typeIn K (.ref f) = some (.type "function"))
    (h : codeAny (model prog w) (A.under (.builtin "type.__call__" ⟨.ref C :: vs, kw⟩)) (.call (.ref f) ⟨.ref (s.heap.objs.size + 1) :: vs, kw⟩) (PySem.W.InitBack (s.heap.objs.size + 1) R)
      { s with heap := (s.heap.push PySem.W.emptyDict).push (PySem.W.instObj C s.heap.objs.size) }) :
    codeAny (model prog w) A (.call (.ref C) ⟨vs, kw⟩) R s := by
  obtain ⟨hh, g, d, t, os⟩ := s
  exact PySem.W.make_core (PySem.W.makes_of X hm) (PySem.W.looks_findIn X hi) (fun self => PySem.W.bind_fn X self hf) (.inl rfl) h
/-- C() where there is no __init__ but object's -/
theorem make_map0 {R : Result → Shared → Prop} (X : K.In s.heap) (hm : PySem.W.makesIn K C = true)
    (hi : PySem.W.findIn K (.ref C) "__init__" = some (some (.builtin "object.__init__")))
    (hb : ∀ self, PySem.W.Looks (model prog w) s.heap (bindSpecial (.builtin "object.__init__") self) (.builtin "object.__init__", [self]))
    (h : codeAny (model prog w) (A.under (.builtin "type.__call__" ⟨[.ref C], []⟩)) (.call (.builtin "object.__init__") ⟨[.ref (s.heap.objs.size + 1)], []⟩) (PySem.W.InitBack (s.heap.objs.size + 1) R)
      { s with heap := (s.heap.push PySem.W.emptyDict).push (PySem.W.instObj C s.heap.objs.size) }) :
    codeAny (model prog w) A (.call (.ref C) ⟨[], []⟩) R s := by
  obtain ⟨hh, g, d, t, os⟩ := s
  exact PySem.W.make_core (PySem.W.makes_of X hm) (PySem.W.looks_findIn X hi) hb (.inr ⟨rfl, rfl⟩) h
end

/-! ### the attributes as a list of pairs -/
def putF (f : Str) (v : V) : List (Str × V) → List (Str × V)
  | [] => [(f, v)]
  | (g, x) :: r => if g = f then (g, v) :: r else (g, x) :: putF f v r
theorem lookup_putF (f g : Str) (v : V) : ∀ fs : List (Str × V), (putF f v fs).lookup g = if g = f then some v else fs.lookup g
  | [] => by
    show List.lookup g [(f, v)] = _
    by_cases h : g = f
    · have hb : (g == f) = true := beq_iff_eq.mpr h
      simp only [List.lookup, hb, if_pos h]
    · have hb : (g == f) = false := beq_eq_false_iff_ne.mpr h
      simp only [List.lookup, hb, if_neg h]
  | (k, x) :: r => by
    have ih := lookup_putF f g v r
    rw [show putF f v ((k, x) :: r) = (if k = f then (k, v) :: r else (k, x) :: putF f v r) from rfl]
    by_cases hk : k = f
    · rw [if_pos hk]
      by_cases h : g = k
      · have hb : (g == k) = true := beq_iff_eq.mpr h
        simp only [List.lookup, hb, if_pos (h.trans hk)]
      · have hb : (g == k) = false := beq_eq_false_iff_ne.mpr h
        simp only [List.lookup, hb, if_neg (fun e : g = f => h (e.trans hk.symm))]
    · rw [if_neg hk]
      by_cases h : g = k
      · have hb : (g == k) = true := beq_iff_eq.mpr h
        simp only [List.lookup, hb, if_neg (fun e : g = f => hk (h.symm.trans e))]
      · have hb : (g == k) = false := beq_eq_false_iff_ne.mpr h
        simp only [List.lookup, hb]
        exact ih
theorem keys_putF (f : Str) (v : V) : ∀ fs : List (Str × V), f ∈ (putF f v fs).map (·.1) ∧ ∀ g, g ∈ fs.map (·.1) → g ∈ (putF f v fs).map (·.1)
  | [] => ⟨by simp [putF], fun g h => by simp at h⟩
  | (k, x) :: r => by
    obtain ⟨i1, i2⟩ := keys_putF f v r
    rw [show putF f v ((k, x) :: r) = (if k = f then (k, v) :: r else (k, x) :: putF f v r) from rfl]
    by_cases hk : k = f
    · rw [if_pos hk]
      subst hk
      exact ⟨by simp, fun g h => by simpa using h⟩
    · rw [if_neg hk]
      refine ⟨?_, fun g h => ?_⟩
      · rw [List.map_cons]
        exact List.mem_cons_of_mem _ i1
      · rw [List.map_cons] at h ⊢
        rcases List.mem_cons.mp h with e | e
        · exact List.mem_cons.mpr (.inl e)
        · exact List.mem_cons_of_mem _ (i2 g e)
theorem length_putF (f : Str) (v : V) : ∀ fs : List (Str × V), (putF f v fs).length ≤ fs.length + 1
  | [] => by simp [putF]
  | (k, x) :: r => by
    have ih := length_putF f v r
    rw [show putF f v ((k, x) :: r) = (if k = f then (k, v) :: r else (k, x) :: putF f v r) from rfl]
    by_cases hk : k = f
    · rw [if_pos hk, List.length_cons, List.length_cons]; omega
    · rw [if_neg hk, List.length_cons, List.length_cons]; omega

theorem RelO.some_of {v : V} {o : Option Value} (r : RelO (some v) o) : ∃ u, o = some u ∧ RelV v u := by
  cases o with
  | none => exact (show False from r).elim
  | some u => exact ⟨u, rfl, r⟩
theorem RelO.none_of {o : Option Value} (r : RelO none o) : o = none := by
  cases o with
  | none => rfl
  | some u => exact (show False from r).elim
theorem handed_of {v : V} {u : Value} (r : RelV v u) : PySem.W.handedIn u = true := by
  cases v with
  | non => cases (show u = Value.none from r); rfl
  | bl b => cases (show u = Value.bool b from r); rfl
  | int i => obtain ⟨t, e⟩ := (show ∃ t, u = Value.int i t from r); cases e; rfl
  | str x => obtain ⟨t, e⟩ := (show ∃ t, u = Value.str x t from r); cases e; rfl
  | byt b => obtain ⟨t, e⟩ := (show ∃ t, u = Value.bytes b t from r); cases e; rfl
  | flt b => obtain ⟨t, e⟩ := (show ∃ t, u = Value.float b t from r); cases e; rfl
  | ref a => cases (show u = Value.ref a from r); rfl
  | ty n => cases (show u = Value.type n from r); rfl

section
variable {P : Program} {w : World} {H H' : Hp} {h h' : Heap} {a C dx : Addr} {fs fs' : List (Str × V)}
theorem ins_get (hok : HOk P w H h) (e : H a = some (.ins C dx fs)) : ∃ mA, ObjM h a dx C mA ∧ (∀ f, RelO (fs.lookup f) (mA f)) ∧ PySem.Within mA (fs.map (·.1)) ∧ fs.length ≤ 1000 ∧ H dx = some (.own a) := by
  obtain ⟨d, z, ne, ob, mA, n, r, q⟩ := (show ObjOk P w H h a (.ins C dx fs) from hok a _ e)
  exact ⟨mA, ⟨ob, n, ne⟩, r, q, z, d⟩
end

/-! ### what of the text a class must have -/
structure Cls (K : PySem.W.Frag) (C : Addr) : Prop where
  pg : PySem.W.plainGet K C Str.empty = true
  hd : PySem.W.hasDictIn K C = true
  po : PySem.W.plainOver K C = true
  sa : PySem.W.findIn K (.ref C) "__setattr__" = some (some (.builtin "object.__setattr__"))
theorem Cls.get {K : PySem.W.Frag} {C : Addr} (c : Cls K C) (f : Str) : PySem.W.plainGet K C f = true := c.pg
/-- no class of it has the name -/
def NoAttr (K : PySem.W.Frag) (C : Addr) (f : Str) : Prop := PySem.W.findIn K (.ref C) f = some none
theorem NoAttr.taker {K : PySem.W.Frag} {C : Addr} {f : Str} (n : NoAttr K C f) : PySem.W.takerIn K C f = some none := by
  unfold PySem.W.takerIn
  rw [show PySem.W.findIn K (.ref C) f = some none from n]
  rfl
/-- a constant of the class -/
structure Con (K : PySem.W.Frag) (C : Addr) (f : Str) (v : V) (u : Value) : Prop where
  at_ : PySem.W.findIn K (.ref C) f = some (some u)
  rel : RelV v u
  get : PySem.W.specialIn K u "__get__" = some none
  cp : PySem.W.copiedNames.contains f = false
/-- a method: a plain def of the class or of one above it -/
structure Meth (K : PySem.W.Frag) (C : Addr) (m : Str) (f : Addr) : Prop where
  at_ : PySem.W.findIn K (.ref C) m = some (some (.ref f))
  fn : PySem.W.isFn K (.ref f) = true
  kp : PySem.W.keepIn K (.ref f) = true

section
variable {X : Cx} {pins : List (Addr × Obj)} {σ : St} {H : Hp} {s : Shared} {a C dx : Addr} {fs : List (Str × V)} {f : Str} {v : V} {A : Around} {E : Value → Shared → Prop}

theorem getattr_ok {b : Bool} {Q : Value → Shared → Prop} (I : Inv X pins σ H s) (e : H a = some (.ins C dx fs)) (c : Cls X.K C) (n : NoAttr X.K C f) (l : fs.lookup f = some v)
    (h : ∀ u s', Inv X pins σ H s' → RelV v u → Q u s') : wpAny (model X.prog X.w) A (getAttr (.ref a) f b) Q E s := by
  obtain ⟨mA, O, r, _, _, _⟩ := ins_get I.hok e
  obtain ⟨u, hu, ru⟩ := RelO.some_of (v := v) (o := mA f) (by rw [← l]; exact r f)
  exact get_map I.kIn O (c.get f) c.hd n hu (handed_of ru) (h u _ (I.tok _) ru)

theorem getcon_ok {b : Bool} {u : Value} {Q : Value → Shared → Prop} (I : Inv X pins σ H s) (e : H a = some (.ins C dx fs)) (c : Cls X.K C) (k : Con X.K C f v u) (l : fs.lookup f = none)
    (h : ∀ s', Inv X pins σ H s' → Q u s') : wpAny (model X.prog X.w) A (getAttr (.ref a) f b) Q E s := by
  obtain ⟨mA, O, r, _, _, _⟩ := ins_get I.hok e
  have hn : mA f = none := RelO.none_of (by rw [← l]; exact r f)
  exact get_const I.kIn O (c.get f) c.hd k.at_ k.get k.cp hn (handed_of k.rel) (h _ (I.tok _))

theorem getmeth_ok {m : Str} {g : Addr} {pl : Sem Bool} {Q : Value × List Value → Shared → Prop} (I : Inv X pins σ H s) (e : H a = some (.ins C dx fs)) (c : Cls X.K C) (k : Meth X.K C m g) (l : fs.lookup m = none)
    (h : Q (.ref g, [.ref a]) s) : wpAny (model X.prog X.w) A (getMethod (.ref a) m pl) Q E s := by
  obtain ⟨mA, O, r, _, _, _⟩ := ins_get I.hok e
  have hn : mA m = none := RelO.none_of (by rw [← l]; exact r m)
  exact get_meth I.kIn O (c.get m) k.at_ k.fn hn h

theorem setattr_ok {y : V} {u : Value} {Q : Unit → Shared → Prop} (I : Inv X pins σ H s) (e : H a = some (.ins C dx fs)) (c : Cls X.K C) (n : NoAttr X.K C f) (hl : fs.length < 1000) (ry : RelV y u)
    (h : ∀ s', Inv X pins σ (upd H a (.ins C dx (putF f y fs))) s' → Q () s') : wpAny (model X.prog X.w) A (setAttr (.ref a) f u) Q E s := by
  obtain ⟨mA, O, r, wi, _, ho⟩ := ins_get I.hok e
  have hz : (fs.map (·.1)).length ≤ sizeLine := by rw [List.length_map, sizeLine_eq]; omega
  refine set_map I.kIn O c.sa c.po n.taker c.hd wi hz fun h' O' sb => h _ ?_
  have hd : ∃ o, h'.get? dx = some o := let ⟨o, _, _, e', _⟩ := O'.ns; ⟨o, e'⟩
  refine I.write (x := a) (e := dx) (by rw [e]; exact True.intro) (.inr ho) (fun b q hb z => (sb.2 b hb).trans z) hd ?_
  refine ⟨by rw [upd_ne O.ne]; exact ho, ?_, O.ne, O'.obj, _, O'.ns, fun g => ?_, fun g hg => ?_⟩
  · have := length_putF f y fs; omega
  · show RelO ((putF f y fs).lookup g) (if g = f then some u else mA g)
    rw [lookup_putF]
    by_cases q : g = f
    · rw [if_pos q, if_pos q]; exact ry
    · rw [if_neg q, if_neg q]; exact r g
  · by_cases q : g = f
    · rw [q]; exact (keys_putF f y fs).1
    · refine (keys_putF f y fs).2 g (wi g fun z => hg ?_)
      show (if g = f then some u else mA g) = none
      rw [if_neg q]; exact z

/-- a new instance, tracked, without attributes -/
theorem Inv.made (I : Inv X pins σ H s) : Inv X pins σ (upd (upd H s.heap.objs.size (.own (s.heap.objs.size + 1))) (s.heap.objs.size + 1) (.ins C s.heap.objs.size []))
    { s with heap := (s.heap.push PySem.W.emptyDict).push (PySem.W.instObj C s.heap.objs.size) } := by
  have e1 : (s.heap.push PySem.W.emptyDict).get? s.heap.objs.size = some PySem.W.emptyDict := Heap.get?_push_size s.heap rfl
  have e2 : ((s.heap.push PySem.W.emptyDict).push (PySem.W.instObj C s.heap.objs.size)).get? (s.heap.objs.size + 1) = some (PySem.W.instObj C s.heap.objs.size) := by
    have := Heap.get?_push_size (s.heap.push PySem.W.emptyDict) (o := PySem.W.instObj C s.heap.objs.size) rfl
    rwa [Heap.size_push] at this
  have e3 : (s.heap.push PySem.W.emptyDict).Ns s.heap.objs.size (fun _ => none) := ⟨PySem.W.emptyDict, #[], _, e1, rfl, (fun e he => absurd he (by simp)), fun _ => rfl⟩
  have I1 := I.laid (a := s.heap.objs.size) (o := .own (s.heap.objs.size + 1)) (h' := s.heap.push PySem.W.emptyDict) (t' := s.toks) (fun b u q => Heap.get?_push_of_some _ q) (Nat.le_refl _) ⟨_, e1⟩
  refine I1.laid (a := s.heap.objs.size + 1) (o := .ins C s.heap.objs.size []) (t' := s.toks) (fun b u q => Heap.get?_push_of_some _ q) (Nat.le_of_eq (Heap.size_push _ _)) ?_
  have ne : s.heap.objs.size ≠ s.heap.objs.size + 1 := Nat.ne_of_lt (Nat.lt_succ_self _)
  refine ⟨by rw [upd_ne ne, upd_same], Nat.zero_le _, ne, e2, fun _ => none, (Heap.Ns1.of_empty e3).at fun o q => Heap.get?_push_of_some _ q, fun _ => True.intro, fun y hy => absurd rfl hy⟩

/-- e.f where nothing but the object is asked: through attributeBase (super) and the last hold -/
theorem attr_of {prog : Program} {w : World} {env : Env} {e : Expr} {f : Str} {pos : Pos} {s : Shared} {Q : Value → Shared → Prop} (hb : attributeBase e f env (eval e env) = eval e env)
    (h : wpAny (model prog w) A (eval e env) (fun o s₁ => wpAny (model prog w) A (getAttr o f true) Q E s₁) E s) : wpAny (model prog w) A (eval (.Attribute e f pos) env) Q E s :=
  Attribute_any_ h (by rw [arm_eval_Attribute, hb])
end

/-! ### readings and rules -/
/-- e.f, an attribute of the instance -/
def tFld (K : PySem.W.Frag) (ta : TE) (f : Str) : TE := fun σ H Q => ta σ H fun x H1 => ∃ a C dx fs v, x = .ref a ∧ H1 a = some (.ins C dx fs) ∧ Cls K C ∧ NoAttr K C f ∧ fs.lookup f = some v ∧ Q v H1
/-- e.f, a constant of the class -/
def tCon (K : PySem.W.Frag) (ta : TE) (f : Str) : TE := fun σ H Q => ta σ H fun x H1 => ∃ a C dx fs v u, x = .ref a ∧ H1 a = some (.ins C dx fs) ∧ Cls K C ∧ Con K C f v u ∧ fs.lookup f = none ∧ Q v H1
/-- e.f = value -/
def sFld (K : PySem.W.Frag) (ta tv : TE) (f : Str) : TS := fun D σ H => tv σ H fun y H1 => ta σ H1 fun x H2 => ∃ a C dx fs, x = .ref a ∧ H2 a = some (.ins C dx fs) ∧ Cls K C ∧ NoAttr K C f ∧ fs.length < 1000 ∧
  D.nx σ (upd H2 a (.ins C dx (putF f y fs)))
/-- an augmented operator on two values -/
def InOp (X : Cx) (op : Operator) (rd : V → V → Hp → VK → Prop) : Prop :=
  ∀ (pins : List (Addr × Obj)) (s : Shared) (σ : St) (H : Hp) (x y : V) (u v : Value) (Q : VK), Inv X pins σ H s → RelV x u → RelV y v → rd x y H Q → wpAny (model X.prog X.w) X.A (inplaceOp op u v) (EP X pins σ Q) X.xe s
/-- e.f op= value -/
def sFldAug (K : PySem.W.Frag) (ta tv : TE) (rd : V → V → Hp → VK → Prop) (f : Str) : TS := fun D σ H => ta σ H fun x H1 => ∃ a C dx fs v, x = .ref a ∧ H1 a = some (.ins C dx fs) ∧ Cls K C ∧ NoAttr K C f ∧ fs.lookup f = some v ∧
  tv σ H1 fun y H2 => rd v y H2 fun z H3 => ∃ dx' fs', H3 a = some (.ins C dx' fs') ∧ fs'.length < 1000 ∧ D.nx σ (upd H3 a (.ins C dx' (putF f z fs')))

section
variable {X : Cx} {o e value : Expr} {f : Str} {pos pos' tpos : Pos} {ta tv : TE}
theorem pe_fld (he : PE X e ta) (hb : attributeBase e f X.env (eval e X.env) = eval e X.env) : PE X (.Attribute e f pos) (tFld X.K ta f) := by
  intro pins s σ H Q I h
  refine attr_of hb (thn (he pins s σ H _ I h) fun u s1 ⟨x, H1, I1, rx, a, C, dx, fs, v, ex, ea, c, n, l, q⟩ => ?_)
  subst ex
  obtain rfl : u = Value.ref a := rx
  exact getattr_ok I1 ea c n l fun u' s2 I2 ru => ⟨v, H1, I2, ru, q⟩
theorem pe_con (he : PE X e ta) (hb : attributeBase e f X.env (eval e X.env) = eval e X.env) : PE X (.Attribute e f pos) (tCon X.K ta f) := by
  intro pins s σ H Q I h
  refine attr_of hb (thn (he pins s σ H _ I h) fun u s1 ⟨x, H1, I1, rx, a, C, dx, fs, v, u0, ex, ea, c, k, l, q⟩ => ?_)
  subst ex
  obtain rfl : u = Value.ref a := rx
  exact getcon_ok I1 ea c k l fun s2 I2 => ⟨v, H1, I2, k.rel, q⟩
theorem ps_fld (ha : PE X o ta) (hv : PE X value tv) (hs : swapsWith value (some (.Attribute o f pos')) pos.line X.env = pure false) : PS X (.Assign [.Attribute o f pos'] value pos) (sFld X.K ta tv f) := by
  intro pins s σ H D I h
  refine plainObj_wpAny_Assign_Attribute (thn (hv pins s σ H _ I h) fun u s1 ⟨y, H1, I1, ry, q⟩ => thn (ha pins s1 σ H1 _ I1 q) fun ov s2 ⟨x, H2, I2, rx, a, C, dx, fs, ex, ea, c, n, l, q2⟩ => ?_) hs
  subst ex
  obtain rfl : ov = Value.ref a := rx
  exact setattr_ok I2 ea c n l ry fun s3 I3 => ⟨σ, _, I3, q2⟩
theorem ps_fldaug {op : Operator} {rd : V → V → Hp → VK → Prop} (ha : PE X o ta) (hv : PE X value tv) (hop : InOp X op rd) : PS X (.AugAssign (.Attribute o f tpos) op value pos) (sFldAug X.K ta tv rd f) := by
  intro pins s σ H D I h
  refine wpAny_AugAssign_AttributeAny (thn (ha pins s σ H _ I h) fun ov s1 ⟨x, H1, I1, rx, a, C, dx, fs, v, ex, ea, c, n, l, q⟩ => ?_)
  subst ex
  obtain rfl : ov = Value.ref a := rx
  refine getattr_ok I1 ea c n l fun u s2 I2 ru => thn (hv pins s2 σ H1 _ I2 q) fun w3 s3 ⟨y, H2, I3, ry, q3⟩ => thn (hop pins s3 σ H2 v y u w3 _ I3 ru ry q3) fun w4 s4 ⟨z, H3, I4, rz, dx', fs', ea', l', q4⟩ => ?_
  exact setattr_ok I4 ea' c n l' rz fun s5 I5 => ⟨σ, _, I5, q4⟩
def rAdd : V → V → Hp → VK → Prop := fun x y H Q => ∃ i j, x = .int i ∧ y = .int j ∧ Q (.int (i + j)) H
def rSub : V → V → Hp → VK → Prop := fun x y H Q => ∃ i j, x = .int i ∧ y = .int j ∧ Q (.int (i - j)) H
theorem in_add : InOp X .Add rAdd := by
  rintro pins s σ H x y u v Q I rx ry ⟨i, j, rfl, rfl, q⟩
  obtain ⟨t, rfl⟩ := (show ∃ t, u = Value.int i t from rx)
  obtain ⟨t', rfl⟩ := (show ∃ t', v = Value.int j t' from ry)
  exact PyProof.Rows.iadd_int ⟨.int (i + j), H, I.tok _, ⟨_, rfl⟩, q⟩
theorem in_sub : InOp X .Sub rSub := by
  rintro pins s σ H x y u v Q I rx ry ⟨i, j, rfl, rfl, q⟩
  obtain ⟨t, rfl⟩ := (show ∃ t, u = Value.int i t from rx)
  obtain ⟨t', rfl⟩ := (show ∃ t', v = Value.int j t' from ry)
  exact PyProof.Rows.isub_int ⟨.int (i - j), H, I.tok _, ⟨_, rfl⟩, q⟩

/-- what is between an instance and its method: the tree of a method call -/
theorem methcall_of {pl : Sem Bool} {m : Str} {apos : Pos} {args : List Expr} {pins : List (Addr × Obj)} {s : Shared} {σ : St} {H : Hp} {Q : Value → Shared → Prop} {te : TE} (he : PE X e te) (I : Inv X pins σ H s)
    (h : te σ H fun x H1 => ∃ a C dx fs g, x = .ref a ∧ H1 a = some (.ins C dx fs) ∧ Cls X.K C ∧ Meth X.K C m g ∧ fs.lookup m = none ∧
      ∀ s1, Inv X pins σ H1 s1 → wpAny (model X.prog X.w) X.A (callWith pos (.ref g) [.ref a] (backTo pos (starEach args X.env)) (backToKw pos (keywordEach [] X.env))) Q X.xe s1)
    (ht : eval (.Call (.Attribute e m apos) args [] pos) X.env = (do
      let ov ← eval e X.env
      standAt apos.atName
      let (f, first) ← holding [ov] (getMethod ov m pl)
      callWith pos f first (backTo pos (starEach args X.env)) (backToKw pos (keywordEach [] X.env)))) :
    wpAny (model X.prog X.w) X.A (eval (.Call (.Attribute e m apos) args [] pos) X.env) Q X.xe s := by
  refine PySem.W.methodCall_KW (pl := pl) (thn (he pins s σ H _ I h) fun u s1 ⟨x, H1, I1, rx, a, C, dx, fs, g, ex, ea, c, k, l, q⟩ => ?_) ht
  subst ex
  obtain rfl : u = Value.ref a := rx
  exact getmeth_ok I1 ea c k l (q s1 I1)
end

/-! ### isinstance -/
section
variable {X : Cx} {pins : List (Addr × Obj)} {σ : St} {H : Hp} {s : Shared} {A : Around} {E : Value → Shared → Prop} {Q : Value → Shared → Prop} {c : Value} {b : Bool}
/-- the type of a value, as the fragment's deciders take it; for an instance its class -/
inductive TyOf (K : PySem.W.Frag) (H : Hp) : V → Value → Prop where
  | non : TyOf K H .non (.type "NoneType")
  | bl (x : Bool) : TyOf K H (.bl x) (.type "bool")
  | int (i : Int) : TyOf K H (.int i) (.type "int")
  | str (x : Str) : TyOf K H (.str x) (.type "str")
  | flt (x : UInt64) : TyOf K H (.flt x) (.type "float")
  | lst {a : Addr} {xs : List V} (e : H a = some (.lst xs)) : TyOf K H (.ref a) (.type "list")
  | frz {a : Addr} {o : Obj} {xs : List V} (e : H a = some (.frz o (.lst xs))) : TyOf K H (.ref a) (.type "list")
  | tup {a : Addr} {xs : List V} (e : H a = some (.tup xs)) : TyOf K H (.ref a) (.type "tuple")
  | dK {a : Addr} {kvs : List (Key × V)} (e : H a = some (.dK kvs)) : TyOf K H (.ref a) (.type "dict")
  | dT {a : Addr} {kvs : List (List Key × V)} (e : H a = some (.dT kvs)) : TyOf K H (.ref a) (.type "dict")
  | ins {a C dx : Addr} {fs : List (Str × V)} (e : H a = some (.ins C dx fs)) (cl : Cls K C) (ha : PySem.W.findIn K (.ref C) "__class__" = some (some (.builtin "object.__class__")))
      (hn : PySem.W.specialIn K (.builtin "object.__class__") "__get__" = some (some (.builtin "getset_descriptor.__get__"))) (htk : PySem.W.takesIn K (.builtin "object.__class__") = some true)
      (hm : PySem.W.mroIn K C (.type "object") = some true) : TyOf K H (.ref a) (.ref C)
/-- isinstance(x, c) for one class c, a built-in or an own one: kitOne's answer -/
theorem isinst_ok {x : V} {u t : Value} (I : Inv X pins σ H s) (rx : RelV x u) (ty : TyOf X.K H x t) (e : PySem.W.kitOne X.K t c = some b) (h : ∀ tk, Q (.bool b) { s with toks := tk }) :
    wpAny (model X.prog X.w) A (call (.builtin "isinstance") [u, c]) Q E s := by
  cases ty with
  | non => cases (show u = Value.none from rx); exact PySem.W.kia_one PySem.W.kitx_none I.kIn True.intro e (fun z => nomatch z) h
  | bl y => cases (show u = Value.bool y from rx); exact PySem.W.kia_one PySem.W.kitx_bool I.kIn True.intro e (fun z => nomatch z) h
  | int i => obtain ⟨t, q⟩ := (show ∃ t, u = Value.int i t from rx); cases q; exact PySem.W.kia_one PySem.W.kitx_int I.kIn True.intro e (fun z => nomatch z) h
  | str y => obtain ⟨t, q⟩ := (show ∃ t, u = Value.str y t from rx); cases q; exact PySem.W.kia_one PySem.W.kitx_str I.kIn True.intro e (fun z => nomatch z) h
  | flt y => obtain ⟨t, q⟩ := (show ∃ t, u = Value.float y t from rx); cases q; exact PySem.W.kia_one PySem.W.kitx_float I.kIn True.intro e (fun z => nomatch z) h
  | @lst a xs ea =>
    cases (show u = Value.ref a from rx)
    obtain ⟨_, _, n, _, h1⟩ := (show ObjOk X.prog X.w H s.heap a (.lst xs) from I.hok a _ ea)
    exact PySem.W.kia_one PySem.W.kitx_list I.kIn ⟨_, h1, rfl⟩ e (fun z => nomatch z) h
  | @frz a ob xs ea =>
    cases (show u = Value.ref a from rx)
    obtain ⟨_, _, _, n, _, h1⟩ := (show ObjOk X.prog X.w H s.heap a (.frz ob (.lst xs)) from I.hok a _ ea)
    exact PySem.W.kia_one PySem.W.kitx_list I.kIn ⟨_, h1, rfl⟩ e (fun z => nomatch z) h
  | @tup a xs ea =>
    cases (show u = Value.ref a from rx)
    obtain ⟨_, _, _, p⟩ := (show ObjOk X.prog X.w H s.heap a (.tup xs) from I.hok a _ ea)
    obtain ⟨o, h1, ⟨h2, _⟩, _⟩ := p
    exact PySem.W.kia_one PySem.W.kitx_tuple I.kIn ⟨o, h1, h2⟩ e (fun z => nomatch z) h
  | @dK a kvs ea =>
    cases (show u = Value.ref a from rx)
    obtain ⟨_, _, vs, _, p⟩ := (show ObjOk X.prog X.w H s.heap a (.dK kvs) from I.hok a _ ea)
    obtain ⟨o, es, ep, h1, h2, _⟩ := p
    exact PySem.W.kia_one PySem.W.kitx_dict I.kIn ⟨o, h1, h2.1⟩ e (fun z => nomatch z) h
  | @dT a kvs ea =>
    cases (show u = Value.ref a from rx)
    obtain ⟨_, _, xs, _, o, es, ep, h1, h2, _⟩ := (show ObjOk X.prog X.w H s.heap a (.dT kvs) from I.hok a _ ea)
    exact PySem.W.kia_one PySem.W.kitx_dict I.kIn ⟨o, h1, h2.1⟩ e (fun z => nomatch z) h
  | @ins a C dx fs ea cl ha hn htk hm =>
    cases (show u = Value.ref a from rx)
    obtain ⟨mA, O, _⟩ := ins_get I.hok ea
    obtain ⟨od, J, _⟩ := O.look
    exact PySem.W.kia_one (PySem.W.kitx_own (cl.get _) cl.hd ha hn htk hm) I.kIn J e (fun z => nomatch z) h
end
end L2

namespace L2
open PySem PySem.Spec PyProof.Rows

/-! ### room -/
structure Room (k : Nat) (A : Around) : Prop where
  hd : A.handled = none
  dp : A.depth + 3 * k + 5 < recursionLimit
  un : A.units + 16 * k + 200 < cLine
theorem Room.mono {j k : Nat} {A : Around} (r : Room k A) (h : j ≤ k) : Room j A := ⟨r.hd, by have := r.dp; omega, by have := r.un; omega⟩
theorem Room.deeper {k : Nat} {A : Around} (r : Room (k + 1) A) (env : Env) : Room k (A.deeper env) :=
  ⟨r.hd, by have := r.dp; show A.depth + 1 + 3 * k + 5 < _; omega, by have := r.un; show A.units + 3 + 16 * k + 200 < _; omega⟩
theorem Room.in1 {k : Nat} {A : Around} (r : Room (k + 1) A) : Room k A.in1 :=
  ⟨r.hd, by have := r.dp; show A.depth + 3 * k + 5 < _; omega, by have := r.un; show A.units + 1 + 16 * k + 200 < _; omega⟩
theorem make_depth {A : Around} {C : Addr} {us : List Value} {kw : List (Str × Value)} : (A.under (.builtin "type.__call__" ⟨.ref C :: us, kw⟩)).depth = A.depth + 1 := by
  first | rfl | simp [Around.under, Code.weight, Code.isCreation, Code.isGuard, Code.isCaller, Code.frames, Code.isFrame, guardIds]
theorem make_units {A : Around} {C : Addr} {us : List Value} {kw : List (Str × Value)} : (A.under (.builtin "type.__call__" ⟨.ref C :: us, kw⟩)).units = A.units + 1 := by
  first | rfl | simp [Around.under, Code.cUnits, Code.frames, Code.isFrame]
theorem Room.make {k : Nat} {A : Around} (r : Room (k + 1) A) (C : Addr) (us : List Value) (kw : List (Str × Value)) : Room k (A.under (.builtin "type.__call__" ⟨.ref C :: us, kw⟩)) :=
  ⟨r.hd, by have := r.dp; rw [make_depth]; omega, by have := r.un; rw [make_units]; omega⟩
theorem Room.depth {k : Nat} {A : Around} (r : Room k A) : A.depth < recursionLimit := by have := r.dp; omega
theorem Room.units {k : Nat} {A : Around} (r : Room k A) : A.units + 64 < cLine := by have := r.un; omega
theorem Room.units0 {k : Nat} {A : Around} (r : Room k A) : A.units < cLine := by have := r.un; omega

/-! ### argument lists and displays -/
def tNil : TA := fun _ H Q => Q [] H
def tCons (ta : TE) (tr : TA) : TA := fun σ H Q => ta σ H fun x H1 => tr σ H1 fun xs H2 => Q (x :: xs) H2
section
variable {X : Cx} {e : Expr} {es : List Expr} {te : TE} {t : TA} {pos : Pos}
theorem pa_nil : PA X [] tNil := fun _ _ _ _ H Q I h => Calls.spliced_nil ⟨[], H, I, .nil, h⟩
theorem pa_cons (ha : PE X e te) (hr : PA X es t) (hs : starEach (e :: es) X.env = (false, eval e X.env) :: starEach es X.env := by rfl) : PA X (e :: es) (tCons te t) := by
  intro pos pins s σ H Q I h
  rw [hs]
  show wpAny _ _ (spliced ((false, eval e X.env) :: backTo pos (starEach es X.env))) _ _ s
  refine Calls.spliced_cons (thn (ha pins s σ H _ I h) fun u s1 ⟨x, H1, I1, r1, q1⟩ => ?_)
  exact thn (hr pos pins s1 σ H1 _ I1 q1) fun us s2 ⟨xs, H2, I2, r2, q2⟩ => ⟨x :: xs, H2, I2, .cons r1 r2, q2⟩

/-- a tuple, a list of written items -/
def tTup (t : TA) : TE := fun σ H Q => t σ H fun xs H1 => xs.length ≤ sizeLine ∧ ∀ p, H1 p = none → Q (.ref p) (upd H1 p (.tup xs))
def tLst (t : TA) : TE := fun σ H Q => t σ H fun xs H1 => xs.length ≤ sizeLine ∧ ∀ p, H1 p = none → Q (.ref p) (upd H1 p (.lst xs))
theorem pe_tup {x1} (h : PA X es t) : PE X (.Tuple es x1 pos) (tTup t) := by
  intro pins s σ H Q I hq
  refine wpAny_Tuple_spliced (thn (h pos pins s σ H _ I hq) fun us s1 ⟨xs, H1, I1, r, z, q⟩ => ⟨by rw [← r.length]; exact z, ?_⟩)
  have hf : H1 s1.heap.objs.size = none := I1.hok.fresh (Nat.le_refl _)
  refine ⟨.ref s1.heap.objs.size, upd H1 s1.heap.objs.size (.tup xs), I1.laid (t' := s1.toks) (fun b u e => Heap.get?_push_of_some _ e) (Nat.le_refl _) ?_, rfl, q _ hf⟩
  exact ⟨z, us, r, ⟨_, Heap.get?_push_size _ rfl, ⟨rfl, _, rfl⟩, rfl⟩⟩
theorem pe_lst (h : PA X es t) : PE X (.List es pos) (tLst t) := by
  intro pins s σ H Q I hq
  refine wpAny_List_spliced (thn (h pos pins s σ H _ I hq) fun us s1 ⟨xs, H1, I1, r, z, q⟩ => ⟨by rw [← r.length]; exact z, ?_⟩)
  have hf : H1 s1.heap.objs.size = none := I1.hok.fresh (Nat.le_refl _)
  refine ⟨.ref s1.heap.objs.size, upd H1 s1.heap.objs.size (.lst xs), I1.laid (t' := s1.toks) (fun b u e => Heap.get?_push_of_some _ e) (Nat.le_refl _) ?_, rfl, q _ hf⟩
  exact ⟨z, us, 0, r, Heap.get?_push_size _ rfl⟩
end

/-! ### what a def promises -/
/-- a def's promise: the bound arguments in the parameters' order, the heap, the wanted end, the wanted exception -/
abbrev Sp := List V → Hp → VK → XK → Prop
/-- how an exception lies behind a call (file 08 gives it): the callers' frames, abstract heap and state ahead of the call, the wish, the exception, the state -/
abbrev CXT := List Env → Hp → Shared → XK → Value → Shared → Prop

/-- the state at a call -/
structure Env0 (P : Program) (w : World) (K : PySem.W.Frag) (mg : Str → Option Value) (base : Heap) (A : Around) (outer : List Env) (s : Shared) (H : Hp) : Prop where
  frames : A.frames = some outer
  mod : Mod K mg base
  bs : ∀ b o, base.get? b = some o → s.heap.get? b = some o ∧ H b = none
  bsz : base.objs.size ≤ s.heap.objs.size
  funs : s.heap.FunFrames base outer
  frf : ∀ b ∈ frs outer, H b = none
  hok : HOk P w H s.heap
  bare : AllBare s.gens
/-- a call's end -/
def CE (outer : List Env) (P : Program) (w : World) (H : Hp) (s : Shared) (Q : VK) (u : Value) (s' : Shared) : Prop :=
  ∃ v H', s'.os = s.os ∧ AllBare s'.gens ∧ Un (frs outer) [] H H' s.heap s'.heap ∧ HOk P w H' s'.heap ∧ RelV v u ∧ Q v H'
def CR (CX : CXT) (outer : List Env) (P : Program) (w : World) (H : Hp) (s : Shared) (Q : VK) (E : XK) (r : Result) (s' : Shared) : Prop :=
  match r with
  | .ok (.ret u) => CE outer P w H s Q u s'
  | .ok _ => False
  | .error e => CX outer H s E e s'
structure FnOk (P : Program) (w : World) (K : PySem.W.Frag) (mg : Str → Option Value) (base : Heap) (CX : CXT) (k : Nat) (f : Addr) (fd : FuncData) (ps : List Str) (sp : Sp) : Prop where
  len : ∀ vs H Q E, sp vs H Q E → vs.length = ps.length
  run : ∀ (A : Around) (outer : List Env) (s : Shared) (H : Hp) (args : Args) (us : List Value) (vs : List V) (Q : VK) (E : XK), Room k A → Env0 P w K mg base A outer s H → BindsTo s fd args (ps.zip us) → Vals vs us → sp vs H Q E →
    codeAny (model P w) A (.call (.ref f) args) (CR CX outer P w H s Q E) s
theorem FnOk.mono {P : Program} {w : World} {K : PySem.W.Frag} {mg : Str → Option Value} {base : Heap} {CX : CXT} {j k : Nat} {f : Addr} {fd : FuncData} {ps : List Str} {sp : Sp} (F : FnOk P w K mg base CX j f fd ps sp) (h : j ≤ k) :
    FnOk P w K mg base CX k f fd ps sp := ⟨F.len, fun A outer s H args us vs Q E hr => F.run A outer s H args us vs Q E (hr.mono h)⟩
/-- a weaker promise -/
theorem FnOk.imp {P : Program} {w : World} {K : PySem.W.Frag} {mg : Str → Option Value} {base : Heap} {CX : CXT} {k : Nat} {f : Addr} {fd : FuncData} {ps : List Str} {sp sp' : Sp} (F : FnOk P w K mg base CX k f fd ps sp)
    (h : ∀ vs H Q E, sp' vs H Q E → sp vs H Q E) : FnOk P w K mg base CX k f fd ps sp' :=
  ⟨fun vs H Q E q => F.len vs H Q E (h _ _ _ _ q), fun A outer s H args us vs Q E hr he hb hv hs => F.run A outer s H args us vs Q E hr he hb hv (h _ _ _ _ hs)⟩

theorem Env0.make {P : Program} {w : World} {K : PySem.W.Frag} {mg : Str → Option Value} {base : Heap} {A : Around} {outer : List Env} {s : Shared} {H : Hp} (e : Env0 P w K mg base A outer s H) (C : Addr) (us : List Value) (kw : List (Str × Value)) :
    Env0 P w K mg base (A.under (.builtin "type.__call__" ⟨.ref C :: us, kw⟩)) outer s H := ⟨by first | exact e.frames | (simpa [Around.under, Code.envs, Code.isFrame, pushEnvs] using e.frames), e.mod, e.bs, e.bsz, e.funs, e.frf, e.hok, e.bare⟩
theorem Env0.in1 {P : Program} {w : World} {K : PySem.W.Frag} {mg : Str → Option Value} {base : Heap} {A : Around} {outer : List Env} {s : Shared} {H : Hp} (e : Env0 P w K mg base A outer s H) :
    Env0 P w K mg base A.in1 outer s H := ⟨e.frames, e.mod, e.bs, e.bsz, e.funs, e.frf, e.hok, e.bare⟩

section
variable {X : Cx} {pins : List (Addr × Obj)} {σ : St} {H : Hp} {s s' : Shared}
/-- from a body: what a callee wants -/
theorem Inv.env0 (I : Inv X pins σ H s) : Env0 X.prog X.w X.K X.mg X.base X.A X.stack s H :=
  ⟨I.ok.frames, I.ok.mod, I.bs, Nat.le_trans I.ok.bsz I.sz, I.stack, I.stkFree, I.hok, I.bare⟩
/-- behind a call -/
theorem Inv.after {Q : VK} {u : Value} (I : Inv X pins σ H s) (h : CE X.stack X.prog X.w H s Q u s') : EP X pins σ Q u s' := by
  obtain ⟨v, H', os, bare, un, hok, r, q⟩ := h
  obtain ⟨hh, g, d, t, os'⟩ := s'
  obtain rfl : os' = s.os := os
  exact ⟨v, H', I.call (h' := hh) (g' := g) (d' := d) (t' := t) (ch := []) un hok bare (fun b z => absurd z (by simp)), r, q⟩
end

/-! ### calls -/
/-- f(..): the written arguments, then the defaults dvs; E: what is wanted of an exception -/
def tCall (sp : Sp) (dvs : List V) (E : XK) (t : TA) : TE := fun σ H Q => t σ H fun vs H1 => sp (vs ++ dvs) H1 Q E
/-- o.m(..) of an instance of the class at C -/
def tMeth (C : Addr) (m : Str) (sp : Sp) (dvs : List V) (E : XK) (ta : TE) (t : TA) : TE := fun σ H Q => ta σ H fun x H1 => ∃ a dx fs, x = .ref a ∧ H1 a = some (.ins C dx fs) ∧ fs.lookup m = none ∧
  t σ H1 fun vs H2 => sp (x :: (vs ++ dvs)) H2 Q E
/-- C(..): a new instance and its dict, then __init__ -/
def tMake (C : Addr) (sp : Sp) (dvs : List V) (E : XK) (t : TA) : TE := fun σ H Q => t σ H fun vs H1 => ∀ x dx, H1 x = none → H1 dx = none → dx ≠ x →
  sp (.ref x :: (vs ++ dvs)) (upd (upd H1 dx (.own x)) x (.ins C dx [])) (fun v H2 => v = .non ∧ Q (.ref x) H2) E

/-- how the parameters are bound: us the positional arguments, kw the keywords' values by name, ds the defaults that fill up -/
def Binds (K : PySem.W.Frag) (fd : FuncData) (ps : List Str) (ds : List Value) : Prop :=
  ∀ (s : Shared) (us : List Value), K.In s.heap → (us ++ ds).length = ps.length → BindsTo s fd ⟨us, []⟩ (ps.zip (us ++ ds))
/-- every parameter is given -/
theorem Binds.all {K : PySem.W.Frag} {fd : FuncData} {ps : List Str} (h : ∀ us : List Value, us.length = ps.length → bindArgs fd ⟨us, []⟩ = pure (ps.zip us)) : Binds K fd ps [] := fun s us _ hl => by
  rw [List.append_nil] at hl ⊢
  exact .of_eq (h us hl)

/-- an exception of a callee reaches what this body wants of exceptions -/
def Passes (CX : CXT) (X : Cx) (E : XK) : Prop := ∀ (pins : List (Addr × Obj)) (σ : St) (H : Hp) (s : Shared) (e : Value) (s' : Shared), Inv X pins σ H s → CX X.stack H s E e s' → X.xe e s'

section
variable {X : Cx} {CX : CXT} {k : Nat} {f C : Addr} {fd : FuncData} {ps : List Str} {sp : Sp} {dvs : List V} {ds : List Value} {E : XK} {x m : Str} {p pos apos : Pos} {e o : Expr} {es : List Expr} {ta : TE} {t : TA}

/-- the callee runs -/
theorem run_fn {pins : List (Addr × Obj)} {σ : St} {H : Hp} {s : Shared} {Q : VK} {us : List Value} {vs : List V} (F : FnOk X.prog X.w X.K X.mg X.base CX k f fd ps sp) (hr : Room k X.A) (hb : Binds X.K fd ps ds) (hd : Vals dvs ds) (hx : Passes CX X E)
    (I : Inv X pins σ H s) (r : Vals vs us) (h : sp (vs ++ dvs) H Q E) : wpAny (model X.prog X.w) X.A (call (.ref f) us) (EP X pins σ Q) X.xe s := by
  have r2 : Vals (vs ++ dvs) (us ++ ds) := r.append hd
  have hl : (us ++ ds).length = ps.length := by rw [← r2.length]; exact F.len _ _ _ _ h
  refine wpAny_call (codeAny_mono (F.run X.A X.stack s H ⟨us, []⟩ (us ++ ds) (vs ++ dvs) Q E hr I.env0 (hb s us I.kIn hl) r2 h) fun r s' hq => ?_)
  cases r with
  | error e => exact hx pins σ H s e s' I hq
  | ok fl =>
    cases fl with
    | ret u => exact I.after hq
    | next => exact False.elim hq
    | brk => exact False.elim hq
    | cont => exact False.elim hq

theorem pe_call (F : FnOk X.prog X.w X.K X.mg X.base CX k f fd ps sp) (hr : Room k X.A) (hg : Gl X x) (hm : X.mg x = some (.ref f)) (hk : PySem.W.keepIn X.K (.ref f) = true) (hb : Binds X.K fd ps ds) (hd : Vals dvs ds) (hx : Passes CX X E)
    (ha : PA X (e :: es) t) (hdb : (x == ("__debug__" : Str)) = false := by decide) (he : starEach (e :: es) X.env = (false, eval e X.env) :: starEach es X.env := by rfl) (hpl : (backTo pos (starEach es X.env)).any (·.1) = false := by rfl) :
    PE X (.Call (.Name x p) (e :: es) [] pos) (tCall sp dvs E t) := by
  intro pins s σ H Q I h
  refine wpAny_Call_Name_kw (ld_glob I hg hm ?_ hdb)
  refine PySem.W.callWith_K (h₀ := X.base) I.ok.mod.kin hk (thn (ha pos pins s σ H _ I h) fun us s1 ⟨vs, H1, I1, r, q⟩ => ⟨I1.kIn, ?_⟩) he hpl
  exact run_fn F hr hb hd hx I1 r q
theorem pe_call0 (F : FnOk X.prog X.w X.K X.mg X.base CX k f fd ps sp) (hr : Room k X.A) (hg : Gl X x) (hm : X.mg x = some (.ref f)) (hk : PySem.W.keepIn X.K (.ref f) = true) (hb : Binds X.K fd ps ds) (hd : Vals dvs ds) (hx : Passes CX X E)
    (hdb : (x == ("__debug__" : Str)) = false := by decide) : PE X (.Call (.Name x p) [] [] pos) (tCall sp dvs E tNil) := by
  intro pins s σ H Q I h
  refine wpAny_Call_Name_kw (ld_glob I hg hm ?_ hdb)
  exact PySem.W.callWith_K0 I.kIn hk (run_fn (us := []) F hr hb hd hx I .nil h)

/-- o.m(e, ..) -/
theorem pe_meth {pl : Sem Bool} (he : PE X o ta) (c : Cls X.K C) (hm : Meth X.K C m f) (F : FnOk X.prog X.w X.K X.mg X.base CX k f fd ps sp) (hr : Room k X.A) (hb : Binds X.K fd ps ds) (hd : Vals dvs ds) (hx : Passes CX X E) (ha : PA X (e :: es) t)
    (hst : starEach (e :: es) X.env = (false, eval e X.env) :: starEach es X.env := by rfl) (hpl : (backTo pos (starEach es X.env)).any (·.1) = false := by rfl)
    (ht : eval (.Call (.Attribute o m apos) (e :: es) [] pos) X.env = (do
      let ov ← eval o X.env
      standAt apos.atName
      let (f, first) ← holding [ov] (getMethod ov m pl)
      callWith pos f first (backTo pos (starEach (e :: es) X.env)) (backToKw pos (keywordEach [] X.env))) := by rfl) :
    PE X (.Call (.Attribute o m apos) (e :: es) [] pos) (tMeth C m sp dvs E ta t) := by
  intro pins s σ H Q I h
  refine PySem.W.methodCall_KW (pl := pl) (thn (he pins s σ H _ I h) fun u s1 ⟨x, H1, I1, rx, a, dx, fs, ex, ea, l, q⟩ => ?_) ht
  subst ex
  obtain rfl : u = Value.ref a := rx
  refine getmeth_ok I1 ea c hm l ?_
  refine PySem.W.callWith_K (first := [.ref a]) (h₀ := X.base) I.ok.mod.kin hm.kp (thn (ha pos pins s1 σ H1 _ I1 q) fun us s2 ⟨vs, H2, I2, r, q2⟩ => ⟨I2.kIn, ?_⟩) hst hpl
  exact run_fn (us := .ref a :: us) (vs := .ref a :: vs) F hr hb hd hx I2 (.cons rfl r) q2
/-- o.m() -/
theorem pe_meth0 {pl : Sem Bool} (he : PE X o ta) (c : Cls X.K C) (hm : Meth X.K C m f) (F : FnOk X.prog X.w X.K X.mg X.base CX k f fd ps sp) (hr : Room k X.A) (hb : Binds X.K fd ps ds) (hd : Vals dvs ds) (hx : Passes CX X E)
    (ht : eval (.Call (.Attribute o m apos) [] [] pos) X.env = (do
      let ov ← eval o X.env
      standAt apos.atName
      let (f, first) ← holding [ov] (getMethod ov m pl)
      callWith pos f first (backTo pos (starEach [] X.env)) (backToKw pos (keywordEach [] X.env))) := by rfl) :
    PE X (.Call (.Attribute o m apos) [] [] pos) (tMeth C m sp dvs E ta tNil) := by
  intro pins s σ H Q I h
  refine PySem.W.methodCall_KW (pl := pl) (thn (he pins s σ H _ I h) fun u s1 ⟨x, H1, I1, rx, a, dx, fs, ex, ea, l, q⟩ => ?_) ht
  subst ex
  obtain rfl : u = Value.ref a := rx
  refine getmeth_ok I1 ea c hm l ?_
  exact PySem.W.callWith_K0 (first := [.ref a]) I1.kIn hm.kp (run_fn (us := [.ref a]) (vs := [.ref a]) F hr hb hd hx I1 (.cons rfl .nil) q)

/-- what a class must have to be made -/
structure Mk (K : PySem.W.Frag) (C f : Addr) : Prop where
  makes : PySem.W.makesIn K C = true
  init : PySem.W.findIn K (.ref C) "__init__" = some (some (.ref f))
  fn : PySem.W.isFn K (.ref f) = true
  kp : PySem.W.keepIn K (.ref C) = true

theorem run_make {pins : List (Addr × Obj)} {σ : St} {H : Hp} {s : Shared} {Q : VK} {us : List Value} {vs : List V} (M : Mk X.K C f) (F : FnOk X.prog X.w X.K X.mg X.base CX k f fd ps sp) (hr : Room (k + 1) X.A) (hb : Binds X.K fd ps ds) (hd : Vals dvs ds)
    (hx : Passes CX X E) (I : Inv X pins σ H s) (r : Vals vs us)
    (h : ∀ x dx, H x = none → H dx = none → dx ≠ x → sp (.ref x :: (vs ++ dvs)) (upd (upd H dx (.own x)) x (.ins C dx [])) (fun v H2 => v = .non ∧ Q (.ref x) H2) E) :
    wpAny (model X.prog X.w) X.A (call (.ref C) us) (EP X pins σ Q) X.xe s := by
  have hq := h (s.heap.objs.size + 1) s.heap.objs.size (I.hok.fresh (Nat.le_succ _)) (I.hok.fresh (Nat.le_refl _)) (Nat.ne_of_lt (Nat.lt_succ_self _))
  have I2 := Inv.made (C := C) I
  have r2 : Vals (V.ref (s.heap.objs.size + 1) :: (vs ++ dvs)) (Value.ref (s.heap.objs.size + 1) :: (us ++ ds)) := .cons rfl (r.append hd)
  have hl : (Value.ref (s.heap.objs.size + 1) :: us ++ ds).length = ps.length := by
    have e := r2.length
    rw [F.len _ _ _ _ hq] at e
    exact e.symm
  refine wpAny_call (make_map (f := f) I.kIn M.makes M.init (beq_iff_eq.mp M.fn) (codeAny_mono (F.run _ X.stack _ _ ⟨Value.ref (s.heap.objs.size + 1) :: us, []⟩ (Value.ref (s.heap.objs.size + 1) :: (us ++ ds)) _ _ E (hr.make C us [])
    (I2.env0.make C us []) (hb _ (Value.ref (s.heap.objs.size + 1) :: us) I2.kIn hl) r2 hq) fun r s' hq' => ?_))
  cases r with
  | error e => exact hx pins σ _ _ e s' I2 hq'
  | ok fl =>
    cases fl with
    | ret u =>
      obtain ⟨v, H', I3, rv, ev, q3⟩ := I2.after hq'
      subst ev
      exact ⟨rv, ⟨V.ref (s.heap.objs.size + 1), H', I3, rfl, q3⟩⟩
    | next => exact False.elim hq'
    | brk => exact False.elim hq'
    | cont => exact False.elim hq'
theorem pe_make (M : Mk X.K C f) (F : FnOk X.prog X.w X.K X.mg X.base CX k f fd ps sp) (hr : Room (k + 1) X.A) (hg : Gl X x) (hm : X.mg x = some (.ref C)) (hb : Binds X.K fd ps ds) (hd : Vals dvs ds) (hx : Passes CX X E)
    (ha : PA X (e :: es) t) (hdb : (x == ("__debug__" : Str)) = false := by decide) (he : starEach (e :: es) X.env = (false, eval e X.env) :: starEach es X.env := by rfl) (hpl : (backTo pos (starEach es X.env)).any (·.1) = false := by rfl) :
    PE X (.Call (.Name x p) (e :: es) [] pos) (tMake C sp dvs E t) := by
  intro pins s σ H Q I h
  refine wpAny_Call_Name_kw (ld_glob I hg hm ?_ hdb)
  refine PySem.W.callWith_K (h₀ := X.base) I.ok.mod.kin M.kp (thn (ha pos pins s σ H _ I h) fun us s1 ⟨vs, H1, I1, r, q⟩ => ⟨I1.kIn, ?_⟩) he hpl
  exact run_make M F hr hb hd hx I1 r q
theorem pe_make0 (M : Mk X.K C f) (F : FnOk X.prog X.w X.K X.mg X.base CX k f fd ps sp) (hr : Room (k + 1) X.A) (hg : Gl X x) (hm : X.mg x = some (.ref C)) (hb : Binds X.K fd ps ds) (hd : Vals dvs ds) (hx : Passes CX X E)
    (hdb : (x == ("__debug__" : Str)) = false := by decide) : PE X (.Call (.Name x p) [] [] pos) (tMake C sp dvs E tNil) := by
  intro pins s σ H Q I h
  refine wpAny_Call_Name_kw (ld_glob I hg hm ?_ hdb)
  exact PySem.W.callWith_K0 I.kIn M.kp (run_make (us := []) M F hr hb hd hx I .nil h)
end

/-! ### keywords -/
/-- the values of the keywords, from the left -/
def PK (X : Cx) (kws : List Keyword) (t : TA) : Prop :=
  ∀ (pos : Pos) (pins : List (Addr × Obj)) (s : Shared) (σ : St) (H : Hp) (Q : List V → Hp → Prop), Inv X pins σ H s → t σ H Q → wpAny (model X.prog X.w) X.A (evalAll ((backToKw pos (keywordEach kws X.env)).map (·.2))) (AP X pins σ Q) X.xe s
section
variable {X : Cx} {CX : CXT} {k : Nat} {f C : Addr} {fd : FuncData} {ps ks : List Str} {sp : Sp} {E : XK} {x m : Str} {p pos apos kpos : Pos} {e o : Expr} {es : List Expr} {kws : List Keyword} {te ta : TE} {t tk : TA} {nm : Option Str}
theorem pk_nil : PK X [] tNil := fun _ _ _ _ H Q I h => wpAny_evalAll_nil ⟨[], H, I, .nil, h⟩
theorem pk_cons (ha : PE X e te) (hr : PK X kws t) : PK X (⟨nm, e, kpos⟩ :: kws) (tCons te t) := by
  intro pos pins s σ H Q I h
  show wpAny _ _ (evalAll ((do let v ← eval e X.env; standAt pos; pure v) :: (backToKw pos (keywordEach kws X.env)).map (·.2))) _ _ s
  refine wpAny_evalAll_cons (wpAny_bind (thn (ha pins s σ H _ I h) fun u s1 ⟨x, H1, I1, r1, q1⟩ => wpAny_bind (wpAny_standAt (wpAny_pure ?_))))
  exact thn (hr pos pins s1 σ H1 _ I1 q1) fun us s2 ⟨xs, H2, I2, r2, q2⟩ => ⟨x :: xs, H2, I2, .cons r1 r2, q2⟩

/-- how a call with keywords binds: g puts the positional values us and the keywords' values ws (names ks) in the parameters' order, defaults among them -/
structure KBinds (K : PySem.W.Frag) (fd : FuncData) (ps ks : List Str) (g : List Value → List Value → List Value) (gV : List V → List V → List V) : Prop where
  to : ∀ (s : Shared) (us ws : List Value), K.In s.heap → (g us ws).length = ps.length → BindsTo s fd ⟨us, ks.zip ws⟩ (ps.zip (g us ws))
  rel : ∀ {vs : List V} {us : List Value} {zs : List V} {ws : List Value}, Vals vs us → Vals zs ws → Vals (gV vs zs) (g us ws)
def tCallK (sp : Sp) (gV : List V → List V → List V) (E : XK) (t tk : TA) : TE := fun σ H Q => t σ H fun vs H1 => tk σ H1 fun zs H2 => sp (gV vs zs) H2 Q E
variable {g : List Value → List Value → List Value} {gV : List V → List V → List V}
theorem run_fnk {pins : List (Addr × Obj)} {σ : St} {H : Hp} {s : Shared} {Q : VK} {us ws : List Value} {vs zs : List V} (F : FnOk X.prog X.w X.K X.mg X.base CX k f fd ps sp) (hr : Room k X.A) (hb : KBinds X.K fd ps ks g gV) (hx : Passes CX X E)
    (I : Inv X pins σ H s) (r : Vals vs us) (rz : Vals zs ws) (h : sp (gV vs zs) H Q E) : wpAny (model X.prog X.w) X.A (call (.ref f) us (ks.zip ws)) (EP X pins σ Q) X.xe s := by
  have r2 := hb.rel r rz
  have hl : (g us ws).length = ps.length := by rw [← r2.length]; exact F.len _ _ _ _ h
  refine wpAny_call (codeAny_mono (F.run X.A X.stack s H ⟨us, ks.zip ws⟩ (g us ws) (gV vs zs) Q E hr I.env0 (hb.to s us ws I.kIn hl) r2 h) fun r s' hq => ?_)
  cases r with
  | error e => exact hx pins σ H s e s' I hq
  | ok fl =>
    cases fl with
    | ret u => exact I.after hq
    | next => exact False.elim hq
    | brk => exact False.elim hq
    | cont => exact False.elim hq
/-- f(e, .., k = v, ..) -/
theorem pe_callK (F : FnOk X.prog X.w X.K X.mg X.base CX k f fd ps sp) (hr : Room k X.A) (hg : Gl X x) (hm : X.mg x = some (.ref f)) (hk : PySem.W.keepIn X.K (.ref f) = true) (hb : KBinds X.K fd ps ks g gV) (hx : Passes CX X E)
    (ha : PA X (e :: es) t) (hkw : PK X kws tk) (hall : (backToKw pos (keywordEach kws X.env)).all (·.1.isSome) = true := by rfl) (hks : (backToKw pos (keywordEach kws X.env)).filterMap (·.1) = ks := by rfl)
    (hdb : (x == ("__debug__" : Str)) = false := by decide) (he : starEach (e :: es) X.env = (false, eval e X.env) :: starEach es X.env := by rfl)
    (hpl : ((backTo pos (starEach (e :: es) X.env)).any (·.1) || (backToKw pos (keywordEach kws X.env)).any (·.1.isNone)) = false := by rfl) :
    PE X (.Call (.Name x p) (e :: es) kws pos) (tCallK sp gV E t tk) := by
  intro pins s σ H Q I h
  refine wpAny_Call_Name_kw (ld_glob I hg hm ?_ hdb)
  refine PySem.W.callWith_KW (h₀ := X.base) I.ok.mod.kin hk hall (thn (ha pos pins s σ H _ I h) fun us s1 ⟨vs, H1, I1, r, q⟩ => ?_) hpl he
  refine thn (hkw pos pins s1 σ H1 _ I1 q) fun ws s2 ⟨zs, H2, I2, rz, q2⟩ => ⟨I2.kIn, ?_⟩
  rw [hks]
  exact run_fnk F hr hb hx I2 r rz q2
end

/-! ### a def's body keeps its promise -/
/-- names: the parameters first -/
structure FnScope (N P : List Str) (sc : Scope) : Prop where
  kind : sc.kind = .function
  co : sc.isCoroutine = false
  gen : sc.isGenerator = false
  nd : N.Nodup
  pre : N.take P.length = P
  par : ∀ x ∈ P, sc.names.lookup x = some .local ∨ sc.names.lookup x = some .cell
  nofree : ∀ y ∈ sc.names, y.2 ≠ .free

theorem bindL_out {kindOf : Str → Option NameKind} {x : Str} : ∀ {binds : List (Str × Value)} {m : Str → Option Value}, (∀ v, (x, v) ∉ binds) → bindL kindOf binds m x = m x
  | [], _, _ => rfl
  | (n, v) :: r, m, h => by
    unfold bindL
    rw [bindL_out fun w hw => h w (List.mem_cons_of_mem _ hw)]
    split
    · have : x ≠ n := by rintro rfl; exact h v List.mem_cons_self
      simp [this]
    · rfl
theorem bindC_out {kindOf : Str → Option NameKind} {x : Str} : ∀ {binds : List (Str × Value)} {m : Str → Option Value}, (∀ v, (x, v) ∉ binds) → bindC kindOf binds m x = m x
  | [], _, _ => rfl
  | (n, v) :: r, m, h => by
    unfold bindC
    rw [bindC_out fun w hw => h w (List.mem_cons_of_mem _ hw)]
    split
    · rfl
    · have : x ≠ n := by rintro rfl; exact h v List.mem_cons_self
      simp [this]
theorem bindL_get {kindOf : Str → Option NameKind} {x : Str} {v : Value} : ∀ {P : List Str} {vs : List Value} {i : Nat} {m : Str → Option Value}, P.Nodup → P[i]? = some x → vs[i]? = some v → kindOf x = some .local →
    bindL kindOf (P.zip vs) m x = some v
  | [], _, _, _, _, h, _, _ => by simp at h
  | _ :: _, [], _, _, _, _, h, _ => by simp at h
  | p :: P, w :: vs, 0, m, nd, h1, h2, hk => by
    simp at h1 h2; subst h1; subst h2
    show bindL kindOf ((p, w) :: P.zip vs) m p = _
    unfold bindL
    rw [bindL_out fun v hv => (List.nodup_cons.mp nd).1 (List.of_mem_zip hv).1, if_pos hk]
    simp
  | p :: P, w :: vs, i + 1, m, nd, h1, h2, hk => by
    show bindL kindOf ((p, w) :: P.zip vs) m x = _
    unfold bindL
    exact bindL_get (i := i) (List.nodup_cons.mp nd).2 (by simpa using h1) (by simpa using h2) hk
theorem bindC_get {kindOf : Str → Option NameKind} {x : Str} {v : Value} : ∀ {P : List Str} {vs : List Value} {i : Nat} {m : Str → Option Value}, P.Nodup → P[i]? = some x → vs[i]? = some v → kindOf x ≠ some .local →
    bindC kindOf (P.zip vs) m x = some v
  | [], _, _, _, _, h, _, _ => by simp at h
  | _ :: _, [], _, _, _, _, h, _ => by simp at h
  | p :: P, w :: vs, 0, m, nd, h1, h2, hk => by
    simp at h1 h2; subst h1; subst h2
    show bindC kindOf ((p, w) :: P.zip vs) m p = _
    unfold bindC
    rw [bindC_out fun v hv => (List.nodup_cons.mp nd).1 (List.of_mem_zip hv).1, if_neg hk]
    simp
  | p :: P, w :: vs, i + 1, m, nd, h1, h2, hk => by
    show bindC kindOf ((p, w) :: P.zip vs) m x = _
    unfold bindC
    exact bindC_get (i := i) (List.nodup_cons.mp nd).2 (by simpa using h1) (by simpa using h2) hk

/-- the names' values at the entry -/
def start (N : List Str) (vs : List V) : St := vs.map some ++ List.replicate (N.length - vs.length) none

/-- the context of a def's body, at its entry; an exception leaves the frame, then lies as CX says -/
def cxOf (CX : CXT) (P : Program) (w : World) (K : PySem.W.Frag) (mg : Str → Option Value) (base : Heap) (N : List Str) (qual : Str) (scope : Scope) (f : Addr) (cd : Value) (A : Around) (outer : List Env) (s : Shared) (H : Hp) (E : XK) : Cx where
  prog := P
  w := w
  K := K
  mg := mg
  base := base
  A := A.deeper (envOfC qual scope s.heap.objs.size f cd)
  N := N
  s₀ := s
  H₀ := H
  env := envOfC qual scope s.heap.objs.size f cd
  outer := outer
  stack := envOfC qual scope s.heap.objs.size f cd :: outer
  ex := []
  calm := true
  fn := fun _ => true
  pn := []
  xe := fun e s' => wpAny (model P w) (A.deeper (envOfC qual scope s.heap.objs.size f cd)) (leaving (envOfC qual scope s.heap.objs.size f cd) e) (fun _ s'' => CX outer H s E e s'') (fun e' s'' => CX outer H s E e' s'') s'

theorem cell_has {sc : Scope} {n : Nat} {x : Str} (h : sc.names.lookup x = some .cell) : ∃ c, (cellsFrom n sc.names []).lookup x = some c := by
  have q := PySem.W.cellsFrom_some sc.names n [] (.inl h)
  exact Option.isSome_iff_exists.mp q

theorem inv_start {CX : CXT} {P : Program} {w : World} {K : PySem.W.Frag} {mg : Str → Option Value} {base : Heap} {N ps : List Str} {qual : Str} {scope : Scope} {f : Addr} {cd : Value} {A : Around} {outer : List Env} {s s1 : Shared} {H : Hp} {E : XK} {us : List Value} {vs : List V}
    (S : FnScope N ps scope) (hd : A.handled = none) (e0 : Env0 P w K mg base A outer s H) (hl : vs.length = ps.length) (r : Vals vs us)
    (x : InCallC s s.heap.objs.size (bindL (envOfC qual scope s.heap.objs.size f cd).kindOf (ps.zip us) fun _ => none) (cellsFrom (s.heap.objs.size + 1) scope.names []) (bindC (envOfC qual scope s.heap.objs.size f cd).kindOf (ps.zip us) fun _ => none) s1) :
    Inv (cxOf CX P w K mg base N qual scope f cd A outer s H E) [] (start N vs) H s1 := by
  have hpl : ps.length ≤ N.length := by have := congrArg List.length S.pre; rw [List.length_take] at this; omega
  obtain ⟨h1, tk, rfl, hk⟩ := x.done
  have noA : ∀ b : Addr, b ∉ (cxOf CX P w K mg base N qual scope f cd A outer s H E).ex := fun b z => absurd (show b ∈ ([] : List Addr) from z) (by simp)
  refine ⟨⟨e0.mod, S.kind, rfl, rfl, Nat.le_refl _, fun y z c h1 h2 => ?_, fun y hy => ?_, fun y c _ h => ?_, fun _ => hd, Around.frames_deeper e0.frames, .inr ⟨rfl, rfl⟩, fun b z => absurd z (noA b), e0.bs, e0.bsz, fun b _ _ => noA b, fun b z => absurd z (noA b), e0.funs, e0.frf⟩,
    rfl, e0.bare, Un.kept hk, ⟨_, x.toInCall.ns, fun i y v h1 h2 h3 => ?_⟩, fun y c h => ⟨_, x.cell y c h⟩, e0.hok.fresh (Nat.le_refl _), fun y c h => ?_, fun p hp => absurd (show p ∈ ([] : List (Addr × Obj)) from hp) (by simp), e0.hok.kept hk, ?_⟩
  · exact name_of_addr x.apart (PySem.mem_of_lookup h1) (PySem.mem_of_lookup h2)
  · have hy : scope.names.lookup y = some .cell ∨ scope.names.lookup y = some .free := hy
    rcases hy with hy | hy
    · exact cell_has hy
    · exact absurd rfl (S.nofree _ (PySem.mem_of_lookup hy))
  · exact Nat.le_of_lt (x.above y c (PySem.mem_of_lookup h))
  · have hi : i < vs.length := by
      unfold start at h2
      by_cases hi : i < vs.length
      · exact hi
      · rw [List.getElem?_append_right (by simpa using hi)] at h2
        rw [List.getElem?_replicate] at h2
        split at h2 <;> cases h2
    have ha : vs[i]? = some v := by
      unfold start at h2
      rw [List.getElem?_append_left (by simpa using hi), List.getElem?_map] at h2
      cases e : vs[i]? with
      | none => rw [e] at h2; cases h2
      | some a => rw [e] at h2; cases h2; rfl
    obtain ⟨u, hu, rv⟩ := r.get ha
    have hp : ps[i]? = some y := by
      rw [← S.pre, List.getElem?_take_of_lt (by omega)]; exact h1
    have ndP : ps.Nodup := by rw [← S.pre]; exact S.nd.sublist (List.take_sublist _ _)
    refine ⟨u, rv, ?_⟩
    rcases S.par y (List.mem_of_getElem? hp) with k | k
    · exact .inl ⟨k, bindL_get ndP hp hu k⟩
    · obtain ⟨c, e⟩ := cell_has (n := s.heap.objs.size + 1) k
      refine .inr ⟨.inl k, c, e, ?_⟩
      have q := x.cell y c e
      rw [bindC_get ndP hp hu (by show scope.names.lookup y ≠ _; rw [k]; decide)] at q
      exact q
  · exact e0.hok.fresh (Nat.le_of_lt (x.above y c (PySem.mem_of_lookup h)))
  · unfold start
    show _ = N.length
    rw [List.length_append, List.length_map, List.length_replicate]
    omega

/-- THE RULE: a def (or a method) of the text, by its body. The body's reading t is chosen for each entry; it is run at the parameters' values -/
theorem fn_of {CX : CXT} {P : Program} {w : World} {K : PySem.W.Frag} {mg : Str → Option Value} {base : Heap} {k : Nat} {f : Addr} {name qual : Str} {params : Arguments} {body : List Stmt} {scope : Scope} {dV kV doc pm cdv ct oc : Value} {an od : Option Addr}
    {osl : Array (Option Value)} {N ps : List Str} {sp : Sp} (lk : K.lookup f = some ⟨oc, od, .func (PySem.W.fnOf name qual params body scope dV kV doc pm an cdv ct), osl⟩) (hcd : PySem.W.codeIn K cdv qual = true) (S : FnScope N ps scope)
    (len : ∀ vs H Q E, sp vs H Q E → vs.length = ps.length)
    (hbody : ∀ (A : Around) (outer : List Env) (s : Shared) (H : Hp) (vs : List V) (Q : VK) (E : XK), Room k (A.deeper (envOfC qual scope s.heap.objs.size f cdv)) → sp vs H Q E →
      ∃ t, PSs (cxOf CX P w K mg base N qual scope f cdv A outer s H E) body t ∧ t { nx := fun _ H' => Q .non H', rt := Q } (start N vs) H) :
    FnOk P w K mg base CX (k + 1) f (PySem.W.fnOf name qual params body scope dV kV doc pm an cdv ct) ps sp := by
  refine ⟨len, fun A outer s H args us vs Q E hr e0 hb r hsp => ?_⟩
  have hl := len _ _ _ _ hsp
  have KX : K.In s.heap := e0.mod.kin.keeps fun b o e => (e0.bs b o e).1
  have lim : s.heap.NoLimit := e0.mod.nolimit.keeps fun b o e => (e0.bs b o e).1
  have hkind : ∀ y ∈ ps.zip us, scope.names.lookup y.1 = some .local ∨ (scope.names.lookup y.1 = some .cell ∧ ((cellsFrom (s.heap.objs.size + 1) scope.names []).lookup y.1).isSome = true) := fun ⟨n, v⟩ hy => by
    rcases S.par n (List.of_mem_zip hy).1 with q | q
    · exact .inl q
    · exact .inr ⟨q, PySem.W.cellsFrom_some _ _ _ (.inl q)⟩
  refine codeAny_call_function hr.depth (KX _ _ lk) rfl S.co S.gen rfl (PySem.W.codeRec_of KX hcd) (hb _ _ _ _ ?_)
  refine wpAny_newFunctionEnv_cells S.kind hkind fun env he s1 x => ?_
  subst he
  refine ⟨lim.keeps x.toInCall.keep, codeAny_func ?_⟩
  obtain ⟨t, ht, hq⟩ := hbody A outer s H vs Q E (hr.deeper _) hsp
  have I : Inv (cxOf CX P w K mg base N qual scope f cdv A outer s H E) [] (start N vs) H s1 := inv_start S hr.hd e0 hl r x
  refine wpAny_mono (ht [] s1 (start N vs) H _ I hq) (fun fl s' hs => ?_) fun e s' hs => hs
  have fin : ∀ {σ' : St} {H' : Hp} {v : V} {u : Value}, Inv (cxOf CX P w K mg base N qual scope f cdv A outer s H E) [] σ' H' s' → RelV v u → Q v H' → CE outer P w H s Q u s' :=
    fun {σ' H' v u} J rv q => ⟨v, H', J.os, J.bare, J.base, J.hok, rv, q⟩
  cases fl with
  | ret u =>
    obtain ⟨v, σ', H', J, rv, q⟩ := hs
    exact fin J rv q
  | next =>
    obtain ⟨σ', H', J, q⟩ := hs
    exact fin (v := V.non) (u := Value.none) J rfl q
  | brk =>
    obtain ⟨_, _, _, q⟩ := hs
    exact False.elim q
  | cont =>
    obtain ⟨_, _, _, q⟩ := hs
    exact False.elim q
end L2

namespace L2
open PySem PySem.Spec PyProof.Rows
section
variable {X : Cx} {x : Str} {p pos : Pos} {e : Expr} {es : List Expr} {t : TA} {id T : String} {r : List V → Hp → VK → Prop}

def tCB (r : List V → Hp → VK → Prop) (t : TA) : TE := fun σ H Q => t σ H fun vs H1 => r vs H1 Q
/-- f(e, ..), f a built-in function -/
theorem pe_callB (hc : CallR X (.builtin id) r) (hg : Gl X x) (hm : X.mg x = none) (hv : bootBuiltins x = some (.builtin id)) (ha : PA X (e :: es) t) (hn : x ≠ "__name__" := by decide) (hdb : (x == ("__debug__" : Str)) = false := by decide)
    (he : starEach (e :: es) X.env = (false, eval e X.env) :: starEach es X.env := by rfl) (hpl : (backTo pos (starEach es X.env)).any (·.1) = false := by rfl) : PE X (.Call (.Name x p) (e :: es) [] pos) (tCB r t) := by
  intro pins s σ H Q I h
  refine wpAny_Call_Name_kw (ld_blt I hg hm hv ?_ hn hdb)
  exact PyProof.Rows.callWith_builtin1 (thn (ha pos pins s σ H _ I h) fun us s1 ⟨vs, H1, I1, r1, q1⟩ => hc pins s1 σ H1 vs us Q I1 r1 q1) he hpl
/-- T(e, ..), T a built-in type -/
theorem pe_callTy (hc : CallR X (.type T) r) (hg : Gl X x) (hm : X.mg x = none) (hv : bootBuiltins x = some (.type T)) (ha : PA X (e :: es) t) (hn : x ≠ "__name__" := by decide) (hdb : (x == ("__debug__" : Str)) = false := by decide)
    (he : starEach (e :: es) X.env = (false, eval e X.env) :: starEach es X.env := by rfl) (hpl : (backTo pos (starEach es X.env)).any (·.1) = false := by rfl) : PE X (.Call (.Name x p) (e :: es) [] pos) (tCB r t) := by
  intro pins s σ H Q I h
  refine wpAny_Call_Name_kw (ld_blt I hg hm hv ?_ hn hdb)
  exact PyProof.Rows.callWith_type1 (thn (ha pos pins s σ H _ I h) fun us s1 ⟨vs, H1, I1, r1, q1⟩ => hc pins s1 σ H1 vs us Q I1 r1 q1) he hpl
/-- T() -/
theorem pe_callTy0 (hc : CallR X (.type T) r) (hg : Gl X x) (hm : X.mg x = none) (hv : bootBuiltins x = some (.type T)) (hn : x ≠ "__name__" := by decide) (hdb : (x == ("__debug__" : Str)) = false := by decide) :
    PE X (.Call (.Name x p) [] [] pos) (tCB r tNil) := by
  intro pins s σ H Q I h
  refine wpAny_Call_Name_kw (ld_blt I hg hm hv ?_ hn hdb)
  exact PyProof.Rows.callWith_type0 (hc pins s σ H [] [] Q I .nil h)
end
end L2

namespace HT
open PySem PyProof.Rows

/-- t < u of tuples of ints -/
def lexLt : List Int → List Int → Bool
  | [], [] => false
  | [], _ :: _ => true
  | _ :: _, [] => false
  | x :: xs, y :: ys => if x = y then lexLt xs ys else decide (x < y)
theorem lexLt_cons (x y : Int) (xs ys : List Int) : lexLt (x :: xs) (y :: ys) = if x = y then lexLt xs ys else decide (x < y) := rfl
theorem lexLt_nil_nil : lexLt [] [] = false := rfl
theorem lexLt_nil_cons (y : Int) (ys : List Int) : lexLt [] (y :: ys) = true := rfl
theorem lexLt_cons_nil (x : Int) (xs : List Int) : lexLt (x :: xs) [] = false := rfl

theorem eqAt_int (A : Around) (s : Shared) (a : Int) (t : Tok) (c : Int) (u : Tok) : ∃ e, SeqAt.EqAt A s (.int a t) (.int c u) e ∧ (e = true ↔ a = c) :=
  ⟨(a == c), SeqAt.EqAt.int_int a t c u, by simp⟩
theorem rcLt_int (A : Around) (s : Shared) (a : Int) (t : Tok) (c : Int) (u : Tok) (prog : Program) (w : World) (E : Value → Shared → Prop) (Q : Value → Shared → Prop) (h : Q (.bool (decide (a < c))) s) :
    wpAny (model prog w) A (richCompare .Lt (.int a t) (.int c u)) Q E s :=
  (PyProof.Rows.lt_int h : wpAny (model prog w) A (compareOp .Lt (.int a t) (.int c u)) Q E s)

section
open PySem.SeqAt
open PySem.AutoSeq1 (wpAny_loadPart')
open PySem.MeetsSeq PySem.MeetsSeq2 PySem.MeetsSeq3

theorem tuple_lt_ints (l b : Addr) (items items2 : Array Value) (n n2 : Nat) (dd dd2 : Option Addr) (sl sl2 : Array (Option Value)) (ns ms : List Int) (hi : IntsAre items.toList ns) (hj : IntsAre items2.toList ms) :
    Meets (Builtin.«tuple.__lt__» ⟨[.ref l, .ref b], []⟩)
      (fun _ R s => s.heap.get? l = some { cls := .type "tuple", dict := dd, data := .seq items n, slots := sl } ∧ s.heap.get? b = some { cls := .type "tuple", dict := dd2, data := .seq items2 n2, slots := sl2 } ∧
        R (.ok (.ret (.bool (lexLt ns ms)))) s) :=
  .of_wp fun prog w A R s h => by
    obtain ⟨hp, g, d, tk, os⟩ := s; obtain ⟨hl, hb, h⟩ := h
    have f2 := AutoSeq1.sub_tuple_tuple
    have z1 : items.size = ns.length := by rw [← hi.length]; simp
    have z2 : items2.size = ms.length := by rw [← hj.length]; simp
    wp_walk using wpAny_loadPart' hl, wpAny_loadPart' hb, wpAny_forIn_list _ (fun rest b s' => b.1 = none ∧ s' = ⟨hp, g, d, tk, os⟩ ∧ ∃ (vs ws : List Value) (ns' ms' : List Int), rest = vs.zip ws ∧
      IntsAre vs ns' ∧ IntsAre ws ms' ∧ ns'.length + items2.size = ms'.length + items.size ∧ R (.ok (.ret (.bool (lexLt ns' ms')))) ⟨hp, g, d, tk, os⟩) _
    case turn =>
      rintro ⟨y, x⟩ rest b s' ⟨hb', rfl, vs, ws, ns', ms', hz, hvi, hwi, hlen, hR⟩
      cases hvi with
      | nil => rw [List.zip_nil_left] at hz; cases hz
      | cons a t hvi' =>
        cases hwi with
        | nil => rw [List.zip_nil_right] at hz; cases hz
        | cons c u hwi' =>
          rw [List.zip_cons_cons] at hz
          injection hz with hyx hrest
          injection hyx with hy hx
          subst hy hx
          rw [lexLt_cons] at hR
          simp only [List.length_cons] at hlen
          obtain ⟨e, he, hiff⟩ := eqAt_int A.in1 ⟨hp, g, d, tk, os⟩ a t c u
          refine wpAny_bind (he prog w _ _ ?_)
          cases e with
          | true =>
            rw [if_pos (hiff.mp rfl)] at hR
            wp_walk
            exact ⟨rfl, rfl, _, _, _, _, hrest, hvi', hwi', by omega, hR⟩
          | false =>
            rw [if_neg (fun q => absurd (hiff.mpr q) Bool.false_ne_true)] at hR
            have hri := rcLt_int A.in1 ⟨hp, g, d, tk, os⟩ a t c u prog w
            wp_walk using hri
            exact ⟨_, rfl, by simpa using hR⟩
    case fin =>
      rintro ⟨b1, b2⟩ s' ⟨hb', rfl, vs, ws, ns', ms', hz, hvi, hwi, hlen, hR⟩
      simp only at hb'
      subst hb'
      have hv : lexLt ns' ms' = decide (items.size < items2.size) := by
        cases hvi with
        | nil =>
          cases hwi with
          | nil =>
            simp only [List.length_nil] at hlen
            rw [lexLt_nil_nil]
            exact (decide_eq_false (by omega)).symm
          | cons c u hw =>
            simp only [List.length_nil, List.length_cons] at hlen
            rw [lexLt_nil_cons]
            exact (decide_eq_true (by omega)).symm
        | cons a t hv =>
          cases hwi with
          | nil =>
            simp only [List.length_nil, List.length_cons] at hlen
            rw [lexLt_cons_nil]
            exact (decide_eq_false (by omega)).symm
          | cons c u hw =>
            rw [List.zip_cons_cons] at hz
            cases hz
      rw [hv] at hR
      wp_walk
      exact ⟨_, rfl, by simpa [Builtin.Tuple.tupleCompareSizes] using hR⟩
    case h =>
      exact ⟨rfl, rfl, items.toList, items2.toList, ns, ms, rfl, hi, hj, by omega, h⟩
end

section
variable {prog : Program} {w : World} {A : Around} {E : Value → Shared → Prop} {s : Shared}

theorem lt_tupInts {l b : Addr} {items items2 : Array Value} {ns ms : List Int} {Q : Value → Shared → Prop} (hl : IsTup s.heap l items) (hb : IsTup s.heap b items2) (hi : IntsAre items.toList ns) (hj : IntsAre items2.toList ms)
    (hu : A.units < cLine) (h : Q (.bool (lexLt ns ms)) s) : wpAny (model prog w) A (compareOp .Lt (.ref l) (.ref b)) Q E s := by
  obtain ⟨⟨cls, dd, data, sl⟩, ho, hc, n, hd⟩ := id hl
  obtain ⟨⟨cls2, dd2, data2, sl2⟩, ho2, hc2, n2, hd2⟩ := id hb
  simp only at hc hd hc2 hd2
  subst hc hd hc2 hd2
  exact richCompare_meets_room (op := .Lt) ⟨_, ho, rfl⟩ ⟨_, ho2, rfl⟩ PySem.F.slot_tuple_lt PySem.F.entry_tuple_lt (PySem.F.args_tuple_lt_2 _ _) (tuple_lt_ints l b items items2 n n2 dd dd2 sl sl2 ns ms hi hj)
    ⟨ho, ho2, show Value.bool (lexLt ns ms) ≠ Value.notImplemented ∧ Q (.bool (lexLt ns ms)) s from ⟨(fun x => nomatch x), h⟩⟩ hu

/-- t + u, t not empty -/
theorem cat_tup {t b : Addr} {vs ws : List Value} {Q : Value → Shared → Prop} (ht : IsTup s.heap t vs.toArray) (hb : IsTup s.heap b ws.toArray) (hv : vs ≠ [])
    (h1 : ws = [] → Q (.ref t) s) (h2 : ws ≠ [] → Q (.ref s.heap.objs.size) { s with heap := s.heap.push { cls := .type "tuple", data := .seq (vs ++ ws).toArray } })
    (hsz : vs.length + ws.length ≤ sizeLine) : wpAny (model prog w) A (binaryOp .Add (.ref t) (.ref b)) Q E s := by
  obtain ⟨⟨cls, dd, data, sl⟩, ho, hc, n, hd⟩ := id ht
  obtain ⟨⟨cls2, dd2, data2, sl2⟩, ho2, hc2, n2, hd2⟩ := id hb
  simp only at hc hd hc2 hd2
  subst hc hd hc2 hd2
  have e : vs.toArray ++ ws.toArray = (vs ++ ws).toArray := by simp
  by_cases hw : ws = []
  · exact concat_meets ⟨_, ho, rfl⟩ ⟨_, ho2, rfl⟩ noFill_tuple_add seq_tuple_add PySem.F.slot_tuple_add PySem.F.entry_tuple_add (PySem.F.args_tuple_add_2 _ _)
      (tuple_addW1 t b vs.toArray ws.toArray n n2 dd dd2 sl sl2 (by simpa using hv) (by simp [hw])) ⟨ho, ho2, h1 hw⟩
  · refine concat_meets ⟨_, ho, rfl⟩ ⟨_, ho2, rfl⟩ noFill_tuple_add seq_tuple_add PySem.F.slot_tuple_add PySem.F.entry_tuple_add (PySem.F.args_tuple_add_2 _ _)
      (tuple_addW2 t b vs.toArray ws.toArray n n2 dd dd2 sl sl2 (by simpa using hv) (by simpa using hw) (by rw [List.size_toArray, List.size_toArray]; exact hsz)) ⟨ho, ho2, ?_⟩
    rw [e]
    exact h2 hw

/-! ### t[a:b], not the whole -/
/-- a slice's bound as a place among n (d where it is left out) -/
def sIx (n d : Nat) : Option Int → Nat
  | none => d
  | some v => if v < 0 then (v + (n : Int)).toNat else min v.toNat n
theorem sIx_none (n d : Nat) : sIx n d none = d := rfl
theorem sIx_nat (n d k : Nat) : sIx n d (some (k : Int)) = min k n := by
  show (if (k : Int) < 0 then ((k : Int) + (n : Int)).toNat else min (k : Int).toNat n) = min k n
  rw [if_neg (by omega), Int.toNat_natCast]
theorem sIx_le (n d : Nat) (hd : d ≤ n) (o : Option Int) : sIx n d o ≤ n := by
  cases o with
  | none => exact hd
  | some v =>
    show (if v < 0 then (v + (n : Int)).toNat else min v.toNat n) ≤ n
    by_cases hv : v < 0
    · rw [if_pos hv]; omega
    · rw [if_neg hv]; exact Nat.min_le_right _ _
theorem clip_eq (v : Int) (n d : Nat) : (if v < 0 then max (v + (n : Int)) 0 else min v (n : Int)) = ((sIx n d (some v) : Nat) : Int) := by
  show (if v < 0 then max (v + (n : Int)) 0 else min v (n : Int)) = (((if v < 0 then (v + (n : Int)).toNat else min v.toNat n) : Nat) : Int)
  by_cases hv : v < 0
  · simp only [if_pos hv]; omega
  · simp only [if_neg hv]; omega
theorem adjust_gen (lo hi : Option Int) (n : Nat) : Builtin.Slice.sliceAdjust lo hi 1 (n : Int) = (((sIx n 0 lo : Nat) : Int), ((sIx n n hi : Nat) : Int)) := by
  have h1 : ¬ ((1 : Int) < 0) := by omega
  unfold Builtin.Slice.sliceAdjust
  simp only [h1, if_false]
  refine Prod.ext ?_ ?_
  · cases lo with
    | none => rfl
    | some v => exact clip_eq v n 0
  · cases hi with
    | none => rfl
    | some v => exact clip_eq v n n
theorem places_gen (i j : Nat) : Builtin.Slice.slicePlaces (i : Int) (j : Int) 1 = j - i := by
  unfold Builtin.Slice.slicePlaces
  have h1 : (1 : Int) > 0 := by omega
  simp only [h1, if_true, Int.ediv_one]
  split <;> omega
theorem slicePart_ {v : Value} {o : Option Int} {Q : Option Int → Shared → Prop} (p : IsPart v o) (h : Q o s) : wpAny (model prog w) A (Builtin.Slice.slicePartIndex v) Q E s := by
  cases p with
  | none => exact slicePart_none h
  | int i t => exact slicePart_int h
theorem sliceApplied_gen {sl : Addr} {vl vu : Value} {lo hi : Option Int} {n : Nat} {Q : Int × Int × Nat → Shared → Prop} (hs : s.heap.IsSliceOf sl vl vu .none) (pl : IsPart vl lo) (pu : IsPart vu hi)
    (h : Q (((sIx n 0 lo : Nat) : Int), 1, sIx n n hi - sIx n 0 lo) s) : wpAny (model prog w) A (Builtin.Slice.sliceApplied (.ref sl) (pure (n : Int))) Q E s := by
  obtain ⟨os, hos, hcs, hds⟩ := id hs
  unfold Builtin.Slice.sliceApplied Builtin.Slice.sliceFields
  refine wpAny_bind (wpAny_bind (wpAny_field hos hds (x := vl) rfl (wpAny_bind (wpAny_field hos hds (x := vu) rfl (wpAny_bind (wpAny_field hos hds (x := .none) rfl (wpAny_pure ?_)))))))
  refine wpAny_bind (slicePart_none ?_)
  show wpAny _ _ (if ((1 : Int) == 0) = true then _ else _) _ _ s
  rw [if_neg (by decide)]
  refine wpAny_bind (slicePart_ pl (wpAny_bind (slicePart_ pu (wpAny_bind (wpAny_pure ?_)))))
  show wpAny _ _ (match Builtin.Slice.sliceAdjust lo hi 1 (n : Int) with | (lo, hi) => pure (lo, (1 : Int), Builtin.Slice.slicePlaces lo hi 1)) _ _ s
  rw [adjust_gen lo hi n]
  show wpAny _ _ (pure (((sIx n 0 lo : Nat) : Int), (1 : Int), Builtin.Slice.slicePlaces ((sIx n 0 lo : Nat) : Int) ((sIx n n hi : Nat) : Int) 1)) _ _ s
  rw [places_gen]
  exact wpAny_pure h
theorem pick_gen (xs : Array Value) (i k : Nat) : ((List.range k).filterMap fun (m : Nat) => xs[((i : Int) + (m : Int) * 1).toNat]?).toArray = ((xs.toList.drop i).take k).toArray := by
  have e : (fun (m : Nat) => xs[((i : Int) + (m : Int) * 1).toNat]?) = fun m => xs[i + m]? := by
    funext m
    have : ((i : Int) + (m : Int) * 1).toNat = i + m := by omega
    rw [this]
  rw [e]
  have := pick_run xs i k
  rw [List.filterMap_map] at this
  have e2 : ((fun x => xs[x]?) ∘ fun x => i + x) = fun m => xs[i + m]? := rfl
  rw [e2] at this
  rw [this]

theorem getItem_tuple_cut {t sl : Addr} {items : Array Value} {vl vu : Value} {lo hi : Option Int} {Q : Value → Shared → Prop} (ht : IsTup s.heap t items) (hs : s.heap.IsSliceOf sl vl vu .none) (pl : IsPart vl lo) (pu : IsPart vu hi)
    (hw : ¬ (sIx items.size 0 lo = 0 ∧ sIx items.size items.size hi = items.size))
    (h : Q (.ref s.heap.objs.size) { s with heap := s.heap.push { cls := .type "tuple", data := .seq ((items.toList.drop (sIx items.size 0 lo)).take (sIx items.size items.size hi - sIx items.size 0 lo)).toArray } })
    (hsz : items.size ≤ sizeLine) : wpAny (model prog w) A (getItem (.ref t) (.ref sl)) Q E s := by
  have htake : sizeOk (.seq ((items.toList.drop (sIx items.size 0 lo)).take (sIx items.size items.size hi - sIx items.size 0 lo)).toArray) := by
    show ((items.toList.drop (sIx items.size 0 lo)).take (sIx items.size items.size hi - sIx items.size 0 lo)).toArray.size ≤ sizeLine
    rw [List.size_toArray, List.length_take, List.length_drop, Array.length_toList]
    omega
  have hj : sIx items.size items.size hi ≤ items.size := sIx_le _ _ (Nat.le_refl _) hi
  obtain ⟨os, hos, hcs, hds⟩ := id hs
  have hTs : s.TypeIs (.ref sl) "slice" := ⟨os, hos, hcs⟩
  unfold getItem
  try with_reducible refine wpAny_holding ?_
  first | refine wpAny_bind (wpAny_pure ?_) | skip
  refine wpAny_bind (wpAny_sequenceKey ht.typeIs (by decide) ?_)
  refine wpAny_bind (wpAny_callSpecial?_slot (name := Str.ofString "__getitem__") ht.typeIs PyProof.Rows.slot_tuple_getitem
    (wpAny_call_entry PyProof.Rows.slot_tuple_getitem ht.typeIs entry_tuple_getitem ?_ (args_tuple_getitem _ _)))
  show wpAny _ _ (Builtin.Tuple.tupleItemsOf (.ref t) >>= _) _ _ s
  refine wpAny_bind (tupleItemsOf_ ht ?_)
  refine wpAny_bind (wpAny_typeOf hTs ?_)
  rw [if_pos (by decide)]
  refine wpAny_bind (sliceApplied_gen hs pl pu ?_)
  have hno : ¬ ((((sIx items.size 0 lo : Nat) : Int) == 0 && (1 : Int) == 1 && (sIx items.size items.size hi - sIx items.size 0 lo) == items.size) = true) := by
    intro q
    rw [Bool.and_eq_true, Bool.and_eq_true] at q
    have q1 : ((sIx items.size 0 lo : Nat) : Int) = 0 := eq_of_beq q.1.1
    have q2 : sIx items.size items.size hi - sIx items.size 0 lo = items.size := eq_of_beq q.2
    exact hw ⟨by omega, by omega⟩
  show wpAny _ _ (if (((sIx items.size 0 lo : Nat) : Int) == 0 && (1 : Int) == 1 && (sIx items.size items.size hi - sIx items.size 0 lo) == items.size) = true then _ else _) _ _ s
  rw [if_neg hno, pick_gen]
  first
    | exact wpAny_bind (m := Builtin.Tuple.tupleExact _) (wpAny_newObj_type (wpAny_pure ⟨_, rfl, wpAny_pure h⟩) htake)
    | exact wpAny_bind (m := Builtin.Tuple.tupleExact _) (wpAny_newObj_type (wpAny_bind (wpAny_pure (wpAny_pure ⟨_, rfl, wpAny_pure h⟩))) htake)
    | exact wpAny_bind (wpAny_bind (m := Builtin.Tuple.tupleExact _) (wpAny_newObj_type (wpAny_pure (wpAny_pure ⟨_, rfl, wpAny_pure h⟩)) htake))
    | exact wpAny_bind (wpAny_bind (m := Builtin.Tuple.tupleExact _) (wpAny_newObj_type (wpAny_pure ⟨_, rfl, wpAny_pure h⟩) htake))
end
end HT

namespace L2
open PySem PySem.Spec PyProof.Rows

/-! ### the parts of a slice -/
abbrev TO := St → Hp → (Option Int → Hp → Prop) → Prop
/-- a slice's part (left out, or an int) -/
def PO (X : Cx) (e : Option Expr) (t : TO) : Prop :=
  ∀ (pins : List (Addr × Obj)) (s : Shared) (σ : St) (H : Hp) (Q : Option Int → Hp → Prop), Inv X pins σ H s → t σ H Q →
    wpAny (model X.prog X.w) X.A (evalPart e X.env) (fun u s' => ∃ o H', Inv X pins σ H' s' ∧ IsPart u o ∧ Q o H') X.xe s
def tNoPart : TO := fun _ H Q => Q none H
def tPart (t : TE) : TO := fun σ H Q => t σ H fun x H1 => ∃ i, x = .int i ∧ Q (some i) H1

theorem intsAre_of {ns : List Int} : ∀ {us : List Value}, Vals (ns.map V.int) us → IntsAre us ns := by
  induction ns with
  | nil => intro us r; rw [List.map_nil] at r; cases r; exact .nil
  | cons n ns ih =>
    intro us r
    rw [List.map_cons] at r
    cases r with
    | cons r1 r2 =>
      obtain ⟨t, e⟩ := r1
      subst e
      exact .cons n t (ih r2)

section
variable {X : Cx} {e : Expr} {te : TE} {lo hi : Option Expr} {tl th : TO} {pos p2 : Pos}

theorem po_none : PO X none tNoPart := by
  intro pins s σ H Q I h
  rw [evalPart_none]
  exact wpAny_pure ⟨none, H, I, .none, h⟩
theorem po_some (h : PE X e te) : PO X (some e) (tPart te) := by
  intro pins s σ H Q I hw
  rw [evalPart_some]
  refine thn (h pins s σ H _ I hw) fun u s1 ⟨x, H1, I1, r1, q1⟩ => ?_
  obtain ⟨i, rfl, q⟩ := q1
  obtain ⟨t, rfl⟩ := r1
  exact ⟨some i, H1, I1, .int i t, q⟩

/-- what a slice of a value is, by values: the slice object stands at sl -/
def SlR (X : Cx) (r : V → Option Int → Option Int → Hp → VK → Prop) : Prop :=
  ∀ (pins : List (Addr × Obj)) (s : Shared) (σ : St) (H : Hp) (x : V) (v vl vu : Value) (lo hi : Option Int) (sl : Addr) (Q : VK), Inv X pins σ H s → RelV x v → s.heap.IsSliceOf sl vl vu .none → IsPart vl lo → IsPart vu hi → r x lo hi H Q →
    ∃ T id, typeLookup (.type T) "__getitem__" = pure (some (.builtin id)) ∧ s.TypeIs v T ∧ wpAny (model X.prog X.w) X.A (getItem v (.ref sl)) (EP X pins σ Q) X.xe s
theorem SlR.or {r r' : V → Option Int → Option Int → Hp → VK → Prop} (h : SlR X r) (h' : SlR X r') : SlR X (fun x lo hi H Q => r x lo hi H Q ∨ r' x lo hi H Q) := by
  intro pins s σ H x v vl vu lo hi sl Q I rx hs pl pu q
  rcases q with q | q
  · exact h pins s σ H x v vl vu lo hi sl Q I rx hs pl pu q
  · exact h' pins s σ H x v vl vu lo hi sl Q I rx hs pl pu q
def tSl (r : V → Option Int → Option Int → Hp → VK → Prop) (te : TE) (tl th : TO) : TE := fun σ H Q => te σ H fun x H1 => tl σ H1 fun l H2 => th σ H2 fun u H3 => r x l u H3 Q
/-- a[lo:hi], any a -/
theorem pe_slice {r : V → Option Int → Option Int → Hp → VK → Prop} (hr : SlR X r) (he : PE X e te) (hl : PO X lo tl) (hu : PO X hi th) : PE X (.Subscript e (.Slice lo hi none p2) pos) (tSl r te tl th) := by
  intro pins s σ H Q I h
  refine Subscript_ (thn (he pins s σ H _ I h) fun v s1 ⟨x, H1, I1, r1, q1⟩ => ?_)
  refine wpAny_Slice (thn (hl pins s1 σ H1 _ I1 q1) fun vl s2 ⟨l, H2, I2, pl, q2⟩ => thn (hu pins s2 σ H2 _ I2 q2) fun vu s3 ⟨u, H3, I3, pu, q3⟩ => ?_)
  rw [evalPart_none]
  refine wpAny_pure ?_
  have I4 : Inv X pins σ H3 { s3 with heap := s3.heap.push { cls := .type "slice", data := .fields #[vl, vu, .none] } } := I3.kept (t' := s3.toks) fun b ob q => Heap.get?_push_of_some _ q
  obtain ⟨T, id, hT, ht, hg⟩ := hr pins { s3 with heap := s3.heap.push { cls := .type "slice", data := .fields #[vl, vu, .none] } } σ H3 x v vl vu l u s3.heap.objs.size Q I4 r1 (Heap.IsSliceOf.new ..) pl pu q3
  show wpAny (model X.prog X.w) X.A (subscriptTail e (.Slice lo hi none p2) v (.ref s3.heap.objs.size)) (EP X pins σ Q) X.xe { s3 with heap := s3.heap.push { cls := .type "slice", data := .fields #[vl, vu, .none] } }
  exact tail_any (ops := [.ref s3.heap.objs.size, v]) ht hT hg (by with_unfolding_all rfl)

/-- the items of xs[lo:hi] -/
def cutV (xs : List V) (lo hi : Option Int) : List V := (xs.drop (HT.sIx xs.length 0 lo)).take (HT.sIx xs.length xs.length hi - HT.sIx xs.length 0 lo)
theorem cutV_length (xs : List V) (lo hi : Option Int) : (cutV xs lo hi).length ≤ xs.length := by
  unfold cutV
  rw [List.length_take, List.length_drop]
  omega
/-- t[lo:hi], not the whole of it (the whole would be t itself) -/
def rSlT (K : PySem.W.Frag) : V → Option Int → Option Int → Hp → VK → Prop := fun x lo hi H Q => ∃ a xs, x = .ref a ∧ SqT K H a xs ∧
  ¬ (HT.sIx xs.length 0 lo = 0 ∧ HT.sIx xs.length xs.length hi = xs.length) ∧ ∀ p, H p = none → Q (.ref p) (upd H p (.tup (cutV xs lo hi)))
theorem sl_tup : SlR X (rSlT X.K) := by
  intro pins s σ H x v vl vu lo hi sl Q I rx hs pl pu h
  obtain ⟨a, xs, rfl, hx, hw, q⟩ := h
  cases rx
  obtain ⟨its, r, ht, hz⟩ := I.tuple hx
  have hlen : its.toArray.size = xs.length := by rw [List.size_toArray]; exact r.length.symm
  refine ⟨"tuple", _, PyProof.Rows.slot_tuple_getitem.lookup, ht.typeIs, ?_⟩
  refine HT.getItem_tuple_cut ht hs pl pu (by rw [hlen]; exact hw) ?_ (by rw [hlen]; exact hz)
  rw [hlen]
  refine ⟨.ref s.heap.objs.size, _, I.laid (t' := s.toks) (o := .tup (cutV xs lo hi)) (fun b ob q => Heap.get?_push_of_some _ q) (Nat.le_refl _) ?_, rfl, q _ (I.hok.fresh (Nat.le_refl _))⟩
  exact ⟨Nat.le_trans (cutV_length xs lo hi) hz, _, (r.drop (HT.sIx xs.length 0 lo)).take (HT.sIx xs.length xs.length hi - HT.sIx xs.length 0 lo), TupP.new _ _⟩

/-! ### t < u, t + u -/
def rLtT (K : PySem.W.Frag) : R2 := fun x y H Q => ∃ a b ns ms, x = .ref a ∧ y = .ref b ∧ SqT K H a (ns.map V.int) ∧ SqT K H b (ms.map V.int) ∧ Q (.bl (HT.lexLt ns ms)) H
theorem op_ltT (hu : X.A.units < cLine) : OpR X (compareOp .Lt) (rLtT X.K) := by
  intro pins s σ H x y v u Q I rx ry h
  obtain ⟨a, b, ns, ms, rfl, rfl, ha, hb, q⟩ := h
  cases rx
  cases ry
  obtain ⟨its, r1, p1, _⟩ := I.tuple ha
  obtain ⟨its2, r2, p2, _⟩ := I.tuple hb
  have i1 : IntsAre its.toArray.toList ns := intsAre_of r1
  have i2 : IntsAre its2.toArray.toList ms := intsAre_of r2
  exact HT.lt_tupInts p1 p2 i1 i2 hu ⟨.bl (HT.lexLt ns ms), H, I, rfl, q⟩
/-- t + u, t not empty: u empty gives t itself -/
def rCatT (K : PySem.W.Frag) : R2 := fun x y H Q => ∃ a b xs ys, x = .ref a ∧ y = .ref b ∧ SqT K H a xs ∧ SqT K H b ys ∧ xs ≠ [] ∧ xs.length + ys.length ≤ sizeLine ∧
  (ys = [] → Q (.ref a) H) ∧ (ys ≠ [] → ∀ p, H p = none → Q (.ref p) (upd H p (.tup (xs ++ ys))))
theorem Vals.nil_iff {xs : List V} {us : List Value} (r : Vals xs us) : us = [] ↔ xs = [] := by
  cases r with
  | nil => simp
  | cons _ _ => simp
theorem op_catT : OpR X (binaryOp .Add) (rCatT X.K) := by
  intro pins s σ H x y v u Q I rx ry h
  obtain ⟨a, b, xs, ys, rfl, rfl, ha, hb, hx, hz, q1, q2⟩ := h
  cases rx
  cases ry
  obtain ⟨its, r1, p1, _⟩ := I.tuple ha
  obtain ⟨its2, r2, p2, _⟩ := I.tuple hb
  refine HT.cat_tup p1 p2 (fun z => hx (r1.nil_iff.mp z)) (fun z => ⟨.ref a, H, I, rfl, q1 (r2.nil_iff.mp z)⟩) (fun z => ?_) (by rw [← r1.length, ← r2.length]; exact hz)
  refine ⟨.ref s.heap.objs.size, _, I.laid (t' := s.toks) (o := .tup (xs ++ ys)) (fun b ob q => Heap.get?_push_of_some _ q) (Nat.le_refl _) ?_, rfl, q2 (fun w => z (r2.nil_iff.mpr w)) _ (I.hok.fresh (Nat.le_refl _))⟩
  exact ⟨by rw [List.length_append]; exact hz, _, r1.append r2, TupP.new _ _⟩
/-- tuple(t) -/
theorem call_tupleT : CallR X (.type "tuple") (fun xs H Q => ∃ a ys, xs = [.ref a] ∧ SqT X.K H a ys ∧ Q (.ref a) H) := by
  intro pins s σ H xs us Q I r h
  obtain ⟨a, ys, rfl, ha, q⟩ := h
  obtain ⟨u, rfl, ru⟩ := vals1 r
  cases ru
  obtain ⟨its, _, p1, _⟩ := I.tuple ha
  exact call_tuple_same (items := its.toArray) p1 ⟨.ref a, H, I, rfl, q⟩
end
end L2

namespace L2
open PySem PySem.Spec PyProof.Rows

/-! ### places -/
/-- the place that an index of any sign means -/
def ixN (n : Nat) (i : Int) : Option Nat := if 0 ≤ i then (if i < n then some i.toNat else none) else if -(n : Int) ≤ i then some (i + n).toNat else none
def atI {α : Type} (xs : List α) (i : Int) : Option α := (ixN xs.length i).bind fun j => xs[j]?
theorem ixN_seq {n : Nat} {i : Int} {j : Nat} (h : ixN n i = some j) : seqIndex? i n = some j ∧ j < n ∧ -(n : Int) ≤ i ∧ i < n := by
  unfold ixN at h
  by_cases h0 : 0 ≤ i
  · rw [if_pos h0] at h
    by_cases h1 : i < n
    · rw [if_pos h1] at h
      have e : i.toNat = j := Option.some.inj h
      exact ⟨by rw [seqIndex_of h0 h1, e], by omega, by omega, h1⟩
    · rw [if_neg h1] at h; cases h
  · rw [if_neg h0] at h
    by_cases h1 : -(n : Int) ≤ i
    · rw [if_pos h1] at h
      have e : (i + n).toNat = j := Option.some.inj h
      exact ⟨by rw [seqIndex_neg (by omega) h1, e], by omega, h1, by omega⟩
    · rw [if_neg h1] at h; cases h
theorem atI_get {α : Type} {xs : List α} {i : Int} {v : α} (h : atI xs i = some v) : ∃ j, seqIndex? i xs.length = some j ∧ xs[j]? = some v ∧ j < xs.length ∧ -(xs.length : Int) ≤ i ∧ i < xs.length := by
  unfold atI at h
  cases e : ixN xs.length i with
  | none => rw [e] at h; cases h
  | some j =>
    rw [e] at h
    obtain ⟨h1, h2, h3, h4⟩ := ixN_seq e
    exact ⟨j, h1, h, h2, h3, h4⟩
theorem atI_nat {α : Type} {xs : List α} {j : Nat} {v : α} (h : xs[j]? = some v) : atI xs (j : Int) = some v := by
  have hj : j < xs.length := (List.getElem?_eq_some_iff.mp h).1
  have e : ixN xs.length (j : Int) = some j := by
    unfold ixN
    rw [if_pos (by omega), if_pos (by omega)]; simp
  unfold atI; rw [e]; exact h
theorem atI_last {α : Type} (xs : List α) (v : α) : atI (xs ++ [v]) (-1) = some v := by
  have hl : (xs ++ [v]).length = xs.length + 1 := by simp
  have e : ixN (xs ++ [v]).length (-1) = some xs.length := by
    unfold ixN
    rw [hl, if_neg (by decide), if_pos (by omega)]
    congr 1
    omega
  unfold atI
  rw [e]
  show (xs ++ [v])[xs.length]? = some v
  simp

/-! ### what may be subscripted -/
/-- what stands as an index of a plain subscript -/
def PlainIx (b : Expr) : Prop := ∀ o i, subscripted b false o i = operate [o, i] (getItem o i)
/-- a subscript by values -/
def IxR (X : Cx) (r : R2) : Prop :=
  ∀ (value slice : Expr) (pins : List (Addr × Obj)) (s : Shared) (σ : St) (H : Hp) (x y : V) (v u : Value) (Q : VK), Inv X pins σ H s → RelV x v → RelV y u → r x y H Q →
    subscripted slice false v u = operate [v, u] (getItem v u) → wpAny (model X.prog X.w) X.A (subscriptTail value slice v u) (EP X pins σ Q) X.xe s
/-- a call of a builtin's method by values: the receiver, the arguments -/
def MtR (X : Cx) (id : String) (r : V → List V → Hp → VK → Prop) : Prop :=
  ∀ (pins : List (Addr × Obj)) (s : Shared) (σ : St) (H : Hp) (x : V) (xs : List V) (v : Value) (us : List Value) (Q : VK), Inv X pins σ H s → RelV x v → Vals xs us → r x xs H Q →
    wpAny (model X.prog X.w) X.A (call (.builtin id) (v :: us)) (EP X pins σ Q) X.xe s
section
variable {X : Cx} {a b : Expr} {ta tb : TE} {pos : Pos}
theorem IxR.or {r r' : R2} (h : IxR X r) (h' : IxR X r') : IxR X (fun x y H Q => r x y H Q ∨ r' x y H Q) := by
  intro value slice pins s σ H x y v u Q I rx ry q hs
  rcases q with q | q
  · exact h value slice pins s σ H x y v u Q I rx ry q hs
  · exact h' value slice pins s σ H x y v u Q I rx ry q hs
theorem MtR.or {id : String} {r r' : V → List V → Hp → VK → Prop} (h : MtR X id r) (h' : MtR X id r') : MtR X id (fun x xs H Q => r x xs H Q ∨ r' x xs H Q) := by
  intro pins s σ H x xs v us Q I rx rs q
  rcases q with q | q
  · exact h pins s σ H x xs v us Q I rx rs q
  · exact h' pins s σ H x xs v us Q I rx rs q
/-- a[b] -/
theorem pe_ix {r : R2} (hr : IxR X r) (ha : PE X a ta) (hb : PE X b tb) (hs : PlainIx b) : PE X (.Subscript a b pos) (tOp r ta tb) := by
  intro pins s σ H Q I h
  exact Subscript_ (binT ha hb I h fun v u s2 x y H2 I2 rx ry q => hr a b pins s2 σ H2 x y v u Q I2 rx ry q (hs _ _))

def rIxL (K : PySem.W.Frag) : R2 := fun x y H Q => ∃ p xs i v, x = .ref p ∧ y = .int i ∧ SqL K H p xs ∧ atI xs i = some v ∧ Q v H
def rIxT (K : PySem.W.Frag) : R2 := fun x y H Q => ∃ p xs i v, x = .ref p ∧ y = .int i ∧ SqT K H p xs ∧ atI xs i = some v ∧ Q v H
def rIxS : R2 := fun x y H Q => ∃ z i c, x = .str z ∧ y = .int i ∧ z.length ≤ sizeLine ∧ atI z.cps.toList i = some c ∧ Q (.str ⟨#[c]⟩) H
theorem ix_list : IxR X (rIxL X.K) := by
  intro value slice pins s σ H x y v u Q I rx ry h hs
  obtain ⟨p, xs, i, z, rfl, rfl, hq, he, q⟩ := h
  cases rx
  obtain ⟨t, rfl⟩ := ry
  obtain ⟨its, r, pl, hz⟩ := I.list hq
  obtain ⟨j, h1, h2, h3, h4, h5⟩ := atI_get he
  obtain ⟨w, ew, rw'⟩ := r.get h2
  have hl := r.length
  have hn := line63
  have fin : EP X pins σ Q w s := ⟨z, H, I, rw', q⟩
  by_cases h0 : 0 ≤ i
  · have hj : i.toNat = j := by
      rw [seqIndex_of h0 h5] at h1
      exact Option.some.inj h1
    exact item_listR pl.isList h0 (by omega) (by rw [hj]; simpa using ew) fin hs
  · have hj : (i + (its.toArray.size : Int)).toNat = j := by
      rw [seqIndex_neg (by omega) h4] at h1
      rw [List.size_toArray, ← hl]
      exact Option.some.inj h1
    exact subscriptTail_builtinR (x := w) pl.isList.typeIs slot_list_getitem.lookup
      (wpAny_getItem_list_neg (Q := fun r s' => r = w ∧ EP X pins σ Q r s') pl.isList (by omega) (by rw [List.size_toArray] <;> omega) (by omega) (by rw [hj]; simpa using ew) ⟨rfl, fin⟩) hs
theorem ix_tup : IxR X (rIxT X.K) := by
  intro value slice pins s σ H x y v u Q I rx ry h hs
  obtain ⟨p, xs, i, z, rfl, rfl, hq, he, q⟩ := h
  cases rx
  obtain ⟨t, rfl⟩ := ry
  obtain ⟨its, r, pl, hz⟩ := I.tuple hq
  obtain ⟨j, h1, h2, h3, h4, h5⟩ := atI_get he
  obtain ⟨w, ew, rw'⟩ := r.get h2
  have hl := r.length
  have hn := line63
  have fin : EP X pins σ Q w s := ⟨z, H, I, rw', q⟩
  exact subscriptTail_builtinR (x := w) pl.typeIs slot_tuple_getitem.lookup
    (getItem_tuple (j := j) (Q := fun r s' => r = w ∧ EP X pins σ Q r s') pl (by omega) (by omega) (by rw [List.size_toArray, ← hl]; exact h1) (by simpa using ew) ⟨rfl, fin⟩) hs
theorem ix_str : IxR X rIxS := by
  intro value slice pins s σ H x y v u Q I rx ry h hs
  obtain ⟨z, i, c, rfl, rfl, hz, he, q⟩ := h
  obtain ⟨t, rfl⟩ := rx
  obtain ⟨t', rfl⟩ := ry
  obtain ⟨j, h1, h2, h3, h4, h5⟩ := atI_get he
  have hl : z.cps.toList.length = z.length := by simp [Str.length]
  rw [hl] at h1 h4 h5
  have hn := line63
  exact tail_any (typeIs_str s z t) slot_str_getitem.lookup (getItem_str (c := c) (by
    have e1 : decide (i < -(2 ^ 63 : Int)) = false := decide_eq_false (by omega)
    have e2 : decide (i ≥ 2 ^ 63) = false := decide_eq_false (by omega)
    rw [e1, e2, Bool.or_false]) (by rw [h1]; simpa using h2) ⟨.str ⟨#[c]⟩, H, I.tok _, ⟨_, rfl⟩, q⟩) hs
/-- list, tuple or str -/
def rIx (K : PySem.W.Frag) : R2 := fun x y H Q => rIxL K x y H Q ∨ rIxT K x y H Q ∨ rIxS x y H Q
theorem ix_seq : IxR X (rIx X.K) := ix_list.or (ix_tup.or ix_str)

/-! ### xs[i] = v, any sign -/
/-- the list's object behind a store -/
theorem mapSeq_set (its : List Value) (n j : Nat) (u : Value) : Obj.mapSeq (·.setIfInBounds j u) { cls := .type "list", data := .seq its.toArray n } = { cls := .type "list", data := .seq (its.set j u).toArray n } := by
  simp [Obj.mapSeq]
theorem Inv.lst {pins : List (Addr × Obj)} {σ : St} {H : Hp} {s : Shared} {p : Addr} {xs : List V} (I : Inv X pins σ H s) (h : H p = some (.lst xs)) :
    ∃ (its : List Value) (n : Nat), Vals xs its ∧ s.heap.get? p = some { cls := .type "list", data := .seq its.toArray n } ∧ xs.length ≤ sizeLine := by
  obtain ⟨z, its, n, r, e⟩ := I.hok p _ h
  exact ⟨its, n, r, e, z⟩
/-- the list at p is written by an update of its object -/
theorem Inv.lstUpd {pins : List (Addr × Obj)} {σ : St} {H : Hp} {s : Shared} {p : Addr} {xs ys : List V} {its its' : List Value} {n n' : Nat} {f : Obj → Obj} (I : Inv X pins σ H s) (h : H p = some (.lst xs))
    (ho : s.heap.get? p = some { cls := .type "list", data := .seq its.toArray n }) (hf : f { cls := .type "list", data := .seq its.toArray n } = { cls := .type "list", data := .seq its'.toArray n' }) (r : Vals ys its') (hz : ys.length ≤ sizeLine) (t : Nat) :
    Inv X pins σ (upd H p (.lst ys)) { s with heap := s.heap.update p f, toks := t } := by
  have e : (s.heap.update p f).get? p = some { cls := .type "list", data := .seq its'.toArray n' } := by
    rw [Heap.get?_update_self f ho (by rw [hf] <;> rfl), hf]
  refine I.write (x := p) (e := p) (by rw [h]; trivial) (.inl rfl) (fun b u hb q => (Heap.get?_update_other _ _ (Ne.symm hb)).trans q) ⟨_, e⟩ ?_
  exact ⟨hz, its', n', r, e⟩
def rSetL : V → V → V → Hp → (Hp → Prop) → Prop := fun o i v H Q => ∃ p xs k j, o = .ref p ∧ i = .int k ∧ H p = some (.lst xs) ∧ ixN xs.length k = some j ∧ Q (upd H p (.lst (xs.set j v)))
theorem set_list : PSet X rSetL := by
  intro pins s σ H o i v ov iv u Q I ro ri rv h
  obtain ⟨p, xs, k, j, rfl, rfl, hp, hj, q⟩ := h
  cases ro
  obtain ⟨t, rfl⟩ := ri
  obtain ⟨its, n, r, ho, hz⟩ := I.lst hp
  obtain ⟨h1, h2, h3, h4⟩ := ixN_seq hj
  have hl := r.length
  have hn := line63
  have I' : Inv X pins σ (upd H p (.lst (xs.set j v))) { s with heap := s.heap.update p (Obj.mapSeq (·.setIfInBounds j u)) } :=
    I.lstUpd hp ho (mapSeq_set its n j u) (r.set rv j) (by rw [List.length_set]; exact hz) s.toks
  by_cases h0 : 0 ≤ k
  · have hk : k.toNat = j := by
      rw [seqIndex_of h0 h4] at h1
      exact Option.some.inj h1
    exact PySem.W.ki_setAt ho h0 (by omega) (by rw [List.size_toArray, ← hl]; exact h4) (by rw [hk]; exact ⟨_, I', q⟩)
  · have hk : (k + (its.toArray.size : Int)).toNat = j := by
      rw [seqIndex_neg (by omega) h3] at h1
      rw [List.size_toArray, ← hl]
      exact Option.some.inj h1
    exact PySem.W.ki_setBack ho (by omega) (by rw [List.size_toArray, ← hl]; exact h3) (by omega) (by rw [hk]; exact ⟨_, I', q⟩)

/-! ### slices -/
theorem slice_bounds (lo hi : Option Int) (n : Nat) : (sliceBounds lo hi none n).1 = ((HT.sIx n 0 lo : Nat) : Int) ∧ (sliceBounds lo hi none n).2.1 = ((HT.sIx n n hi : Nat) : Int) ∧ (sliceBounds lo hi none n).2.2 = 1 := by
  refine ⟨?_, ?_, rfl⟩
  · cases lo with
    | none => simp [sliceBounds, HT.sIx]
    | some i =>
      simp only [sliceBounds, HT.sIx, Option.getD_none, show (1 : Int) > 0 by decide, if_true]
      by_cases h : i < 0
      · simp only [h, if_true] <;> omega
      · simp only [h, if_false] <;> omega
  · cases hi with
    | none => simp [sliceBounds, HT.sIx]
    | some i =>
      simp only [sliceBounds, HT.sIx, Option.getD_none, show (1 : Int) > 0 by decide, if_true]
      by_cases h : i < 0
      · simp only [h, if_true] <;> omega
      · simp only [h, if_false] <;> omega
theorem slicePick_cut (its : List Value) (lo hi : Option Int) : slicePick its.toArray lo hi none = ((its.drop (HT.sIx its.length 0 lo)).take (HT.sIx its.length its.length hi - HT.sIx its.length 0 lo)).toArray := by
  obtain ⟨h1, h2, h3⟩ := slice_bounds lo hi its.toArray.size
  unfold slicePick
  rw [h1, h2, h3]
  simp only [sliceRange_one, pick_run, List.size_toArray] <;> rfl
/-- xs[lo:hi] of a list: a new list -/
def rSlL (K : PySem.W.Frag) : V → Option Int → Option Int → Hp → VK → Prop := fun x lo hi H Q => ∃ a xs, x = .ref a ∧ SqL K H a xs ∧ ∀ p, H p = none → Q (.ref p) (upd H p (.lst (cutV xs lo hi)))
theorem sl_list : SlR X (rSlL X.K) := by
  intro pins s σ H x v vl vu lo hi sl Q I rx hs pl pu h
  obtain ⟨a, xs, rfl, hx, q⟩ := h
  cases rx
  obtain ⟨its, r, ht, hz⟩ := I.list hx
  have hlen := r.length
  refine ⟨"list", _, slot_list_getitem.lookup, ht.isList.typeIs, ?_⟩
  refine wpAny_getItem_list_slice ht.isList hs pl pu .none (by simp) ?_ (by rw [List.size_toArray] <;> omega)
  rw [slicePick_cut, ← hlen]
  refine ⟨.ref s.heap.objs.size, _, I.laid (t' := s.toks) (o := .lst (cutV xs lo hi)) (fun b ob q => Heap.get?_push_of_some _ q) (Nat.le_refl _) ?_, rfl, q _ (I.hok.fresh (Nat.le_refl _))⟩
  exact ⟨Nat.le_trans (cutV_length xs lo hi) hz, _, 0, (r.drop (HT.sIx xs.length 0 lo)).take (HT.sIx xs.length xs.length hi - HT.sIx xs.length 0 lo), Heap.get?_push_size _ rfl⟩

/-! ### in, not in: flat items -/
def flatV : V → Bool
  | .non => true
  | .bl _ => true
  | .int _ => true
  | .str _ => true
  | _ => false
/-- == of flat values -/
def eqV : V → V → Bool
  | .non, .non => true
  | .bl a, .bl b => a == b
  | .bl a, .int b => (if a then 1 else 0) == b
  | .int a, .bl b => a == (if b then 1 else 0)
  | .int a, .int b => a == b
  | .str a, .str b => a == b
  | _, _ => false
theorem eqAt_V {A : Around} {s : Shared} {y x : V} {u v : Value} (ry : RelV y u) (rx : RelV x v) (fy : flatV y = true) (fx : flatV x = true) : SeqAt.EqAt A s u v (eqV y x) := by
  cases y with
  | non =>
    cases ry
    cases x with
    | non => cases rx; exact SeqAt.EqAt.same _
    | bl b => cases rx; exact SeqAt.EqAt.none_bool b
    | int b => obtain ⟨t, rfl⟩ := rx; exact SeqAt.EqAt.none_int b t
    | str b => obtain ⟨t, rfl⟩ := rx; exact SeqAt.EqAt.none_str b t
    | _ => exact absurd (show false = true from fx) Bool.false_ne_true
  | bl a =>
    cases ry
    cases x with
    | non => cases rx; exact SeqAt.EqAt.bool_none a
    | bl b => cases rx; exact SeqAt.EqAt.bool_bool a b
    | int b => obtain ⟨t, rfl⟩ := rx; exact SeqAt.EqAt.bool_int a b t
    | str b => obtain ⟨t, rfl⟩ := rx; exact SeqAt.EqAt.bool_str a b t
    | _ => exact absurd (show false = true from fx) Bool.false_ne_true
  | int a =>
    obtain ⟨t', rfl⟩ := ry
    cases x with
    | non => cases rx; exact SeqAt.EqAt.int_none a t'
    | bl b => cases rx; exact SeqAt.EqAt.int_bool a t' b
    | int b => obtain ⟨t, rfl⟩ := rx; exact SeqAt.EqAt.int_int a t' b t
    | str b => obtain ⟨t, rfl⟩ := rx; exact SeqAt.EqAt.int_str a t' b t
    | _ => exact absurd (show false = true from fx) Bool.false_ne_true
  | str a =>
    obtain ⟨t', rfl⟩ := ry
    cases x with
    | non => cases rx; exact SeqAt.EqAt.str_none a t'
    | bl b => cases rx; exact SeqAt.EqAt.str_bool a t' b
    | int b => obtain ⟨t, rfl⟩ := rx; exact SeqAt.EqAt.str_int a t' b t
    | str b => obtain ⟨t, rfl⟩ := rx; exact SeqAt.EqAt.str_str a t' b t
    | _ => exact absurd (show false = true from fx) Bool.false_ne_true
  | _ => exact absurd (show false = true from fy) Bool.false_ne_true
/-- the items' answers, read off the values (a value's own answer does not lean on its token) -/
def eqU (x : V) (u : Value) : Bool := match u with
  | .none => eqV .non x
  | .bool b => eqV (.bl b) x
  | .int i _ => eqV (.int i) x
  | .str z _ => eqV (.str z) x
  | _ => false
theorem eqU_of {x y : V} {u : Value} (r : RelV y u) (f : flatV y = true) : eqU x u = eqV y x := by
  cases y with
  | non => cases r; rfl
  | bl b => cases r; rfl
  | int i => obtain ⟨t, rfl⟩ := r; rfl
  | str z => obtain ⟨t, rfl⟩ := r; rfl
  | _ => exact absurd (show false = true from f) Bool.false_ne_true
theorem any_eqU {x : V} : ∀ {xs : List V} {us : List Value}, Vals xs us → xs.all flatV = true → us.any (eqU x) = xs.any fun y => eqV y x
  | _, _, .nil, _ => rfl
  | y :: xs, u :: us, .cons r t, f => by
    rw [List.all_cons, Bool.and_eq_true] at f
    rw [List.any_cons, List.any_cons, eqU_of r f.1, any_eqU t f.2]
theorem mem_eqAt {A : Around} {s : Shared} {x : V} {v : Value} (rx : RelV x v) (fx : flatV x = true) : ∀ {xs : List V} {us : List Value}, Vals xs us → xs.all flatV = true → ∀ u ∈ us, SeqAt.EqAt A s u v (eqU x u)
  | _, _, .nil, _ => fun u hu => by cases hu
  | y :: xs, u :: us, .cons r t, f => fun u' hu => by
    rw [List.all_cons, Bool.and_eq_true] at f
    rcases List.mem_cons.mp hu with rfl | hu
    · rw [eqU_of r f.1]; exact eqAt_V r rx f.1 fx
    · exact mem_eqAt rx fx t f.2 u' hu
def inV (x : V) (xs : List V) : Bool := xs.any fun y => eqV y x
/-- x in a list or tuple of flat items -/
def rIn (K : PySem.W.Frag) (neg : Bool) : R2 := fun x y H Q => ∃ p xs, y = .ref p ∧ (SqL K H p xs ∨ SqT K H p xs) ∧ flatV x = true ∧ xs.all flatV = true ∧ Q (.bl (if neg then !inV x xs else inV x xs)) H
theorem op_in_seq : OpR X (compareOp .In) (rIn X.K false) := by
  intro pins s σ H x y v u Q I rx ry h
  obtain ⟨p, xs, rfl, hq, fx, fs, q⟩ := h
  cases ry
  rcases hq with hq | hq
  · obtain ⟨its, r, pl, hz⟩ := I.list hq
    refine SeqAt.in_listAt (eqU x) pl.isList (fun w hw => mem_eqAt rx fx r fs w (by simpa using hw)) ⟨.bl _, H, I, rfl, ?_⟩
    rw [show its.toArray.any (eqU x) = its.any (eqU x) by simp, any_eqU r fs]
    exact q
  · obtain ⟨its, r, pl, hz⟩ := I.tuple hq
    refine SeqAt.in_tupleAt (eqU x) pl (fun w hw => mem_eqAt rx fx r fs w (by simpa using hw)) ⟨.bl _, H, I, rfl, ?_⟩
    rw [show its.toArray.any (eqU x) = its.any (eqU x) by simp, any_eqU r fs]
    exact q
theorem op_notIn_seq : OpR X (compareOp .NotIn) (rIn X.K true) := by
  intro pins s σ H x y v u Q I rx ry h
  obtain ⟨p, xs, rfl, hq, fx, fs, q⟩ := h
  cases ry
  rcases hq with hq | hq
  · obtain ⟨its, r, pl, hz⟩ := I.list hq
    refine SeqAt.notIn_listAt (eqU x) pl.isList (fun w hw => mem_eqAt rx fx r fs w (by simpa using hw)) ⟨.bl _, H, I, rfl, ?_⟩
    rw [show its.toArray.any (eqU x) = its.any (eqU x) by simp, any_eqU r fs]
    exact q
  · obtain ⟨its, r, pl, hz⟩ := I.tuple hq
    refine SeqAt.notIn_tupleAt (eqU x) pl (fun w hw => mem_eqAt rx fx r fs w (by simpa using hw)) ⟨.bl _, H, I, rfl, ?_⟩
    rw [show its.toArray.any (eqU x) = its.any (eqU x) by simp, any_eqU r fs]
    exact q
theorem op_notIn_str : OpR X (compareOp .NotIn) (fun x y H Q => ∃ i j, x = .str i ∧ y = .str j ∧ Q (.bl (!(!(Builtin.Str.occurrences j i 0 j.length 1).isEmpty))) H) := by
  intro pins s σ H x y v u Q I rx ry h
  obtain ⟨i, j, rfl, rfl, q⟩ := h
  obtain ⟨t, rfl⟩ := rx
  obtain ⟨t', rfl⟩ := ry
  exact notIn_str ⟨.bl _, H, I, rfl, q⟩

/-! ### len, list(x), tuple(x) of any list or tuple that is read -/
theorem call_len_seq : CallR X (.builtin "len") (fun xs H Q => ∃ p ys, xs = [.ref p] ∧ (SqL X.K H p ys ∨ SqT X.K H p ys) ∧ Q (.int ys.length) H) := by
  intro pins s σ H xs us Q I r h
  obtain ⟨p, ys, rfl, hq, q⟩ := h
  obtain ⟨u, rfl, rx⟩ := vals1 r
  cases rx
  have hn := line63
  rcases hq with hq | hq
  · obtain ⟨its, r', pl, hz⟩ := I.list hq
    have hlen := r'.length
    exact Calls.call_len_list pl.isList (by simp only [List.size_toArray] <;> omega) ⟨.int ys.length, H, I.tok _, ⟨s.toks + 1, by rw [List.size_toArray, hlen]⟩, q⟩
  · obtain ⟨its, r', pl, hz⟩ := I.tuple hq
    have hlen := r'.length
    exact len_tuple pl (by simp only [List.size_toArray] <;> omega) ⟨.int ys.length, H, I.tok _, ⟨s.toks + 1, by rw [List.size_toArray, hlen]⟩, q⟩
theorem call_len_str : CallR X (.builtin "len") (fun xs H Q => ∃ z, xs = [.str z] ∧ z.length ≤ sizeLine ∧ Q (.int z.length) H) := by
  intro pins s σ H xs us Q I r h
  obtain ⟨z, rfl, hz, q⟩ := h
  obtain ⟨u, rfl, t, rfl⟩ := vals1 r
  have hn := line63
  exact len_str (by omega) ⟨.int z.length, H, I.tok _, ⟨_, rfl⟩, q⟩
theorem CallR.or {f : Value} {r r' : List V → Hp → VK → Prop} (h : CallR X f r) (h' : CallR X f r') : CallR X f (fun xs H Q => r xs H Q ∨ r' xs H Q) := by
  intro pins s σ H xs us Q I rs q
  rcases q with q | q
  · exact h pins s σ H xs us Q I rs q
  · exact h' pins s σ H xs us Q I rs q
theorem call_list_of : CallR X (.type "list") (fun xs H Q => ∃ p ys, xs = [.ref p] ∧ (SqL X.K H p ys ∨ SqT X.K H p ys) ∧ ∀ l, H l = none → Q (.ref l) (upd H l (.lst ys))) := by
  intro pins s σ H xs us Q I r h
  obtain ⟨p, ys, rfl, hq, q⟩ := h
  obtain ⟨u, rfl, rx⟩ := vals1 r
  cases rx
  have fin : ∀ (its : List Value), Vals ys its → ys.length ≤ sizeLine → ∀ (h' : Heap) (c' : Nat), (∀ b o', s.heap.get? b = some o' → h'.get? b = some o') →
      h'.get? s.heap.objs.size = some { cls := .type "list", dict := none, data := .seq its.toArray c', slots := #[] } → EP X pins σ Q (.ref s.heap.objs.size) { s with heap := h' } := fun its r' hz h' c' kp e =>
    ⟨.ref s.heap.objs.size, _, I.laid (t' := s.toks) kp (Nat.le_refl _) (show ObjOk X.prog X.w _ h' _ (.lst ys) from ⟨hz, its, c', r', e⟩), rfl, q _ (I.hok.fresh (Nat.le_refl _))⟩
  rcases hq with hq | hq
  · obtain ⟨its, r', pl, hz⟩ := I.list hq
    have hlen := r'.length
    obtain ⟨o, ho, hc, n, hd⟩ := pl.isList
    exact call_list_seq p (.inl rfl) ho hc hd (fun h' c' kp e => fin its r' hz h' c' kp e) (by simp only [List.size_toArray] <;> omega)
  · obtain ⟨its, r', pl, hz⟩ := I.tuple hq
    have hlen := r'.length
    obtain ⟨o, ho, hc, n, hd⟩ := pl
    exact call_list_seq p (.inr rfl) ho hc hd (fun h' c' kp e => fin its r' hz h' c' kp e) (by simp only [List.size_toArray] <;> omega)
theorem call_tuple_of : CallR X (.type "tuple") (fun xs H Q => ∃ p ys, xs = [.ref p] ∧ ((SqL X.K H p ys ∧ ∀ l, H l = none → Q (.ref l) (upd H l (.tup ys))) ∨ (SqT X.K H p ys ∧ Q (.ref p) H))) := by
  intro pins s σ H xs us Q I r h
  obtain ⟨p, ys, rfl, h⟩ := h
  obtain ⟨u, rfl, rx⟩ := vals1 r
  cases rx
  rcases h with ⟨hq, q⟩ | ⟨hq, q⟩
  · obtain ⟨its, r', pl, hz⟩ := I.list hq
    have hlen := r'.length
    refine call_tuple_list pl.isList (fun h' kp => ?_) (by simp only [List.size_toArray] <;> omega)
    have I1 : Inv X pins σ H { s with heap := h' } := I.kept (t' := s.toks) kp
    have I2 : Inv X pins σ (upd H h'.objs.size (.tup ys)) { s with heap := h'.push { cls := .type "tuple", data := .seq its.toArray } } :=
      I1.laid (t' := s.toks) (fun b o e => Heap.get?_push_of_some _ e) (Nat.le_refl _) (show ObjOk X.prog X.w _ _ _ (.tup ys) from ⟨hz, its, r', TupP.new _ _⟩)
    exact ⟨.ref h'.objs.size, _, I2, rfl, q _ (I1.hok.fresh (Nat.le_refl _))⟩
  · obtain ⟨its, r', pl, hz⟩ := I.tuple hq
    exact call_tuple_same pl ⟨.ref p, H, I, rfl, q⟩

/-! ### the call of a builtin's method: o.m(..) -/
/-- the value is of that builtin type -/
def tyV (K : PySem.W.Frag) (T : String) (x : V) (H : Hp) : Prop := match x with
  | .str _ => T = "str"
  | .int _ => T = "int"
  | .ref p => (T = "list" ∧ ∃ xs, SqL K H p xs) ∨ (T = "tuple" ∧ ∃ o, K.lookup p = some o ∧ o.cls = .type "tuple" ∧ o.dict = none) ∨
      (T = "dict" ∧ ((∃ kvs, H p = some (.dK kvs)) ∨ ∃ kvs, H p = some (.dT kvs))) ∨ (T = "set" ∧ ∃ S n, H p = some (.set S n))
  | _ => False
theorem tyV_is {pins : List (Addr × Obj)} {σ : St} {H : Hp} {s : Shared} {T : String} {x : V} {v : Value} (I : Inv X pins σ H s) (r : RelV x v) (ty : tyV X.K T x H) :
    s.TypeIs v T ∧ ∀ a, v = .ref a → ∃ ob, s.heap.get? a = some ob ∧ ob.dict = none := by
  cases x with
  | str z =>
    obtain ⟨t, rfl⟩ := r
    cases (show T = "str" from ty)
    exact ⟨typeIs_str s z t, fun _ e => nomatch e⟩
  | int i =>
    obtain ⟨t, rfl⟩ := r
    cases (show T = "int" from ty)
    exact ⟨typeIs_int s i t, fun _ e => nomatch e⟩
  | ref p =>
    cases r
    rcases ty with ⟨rfl, xs, hq⟩ | ⟨rfl, o, hk, hc, hd⟩ | ⟨rfl, hk⟩ | ⟨rfl, S, n, hk⟩
    · obtain ⟨its, _, pl, _⟩ := I.list hq
      refine ⟨pl.isList.typeIs, fun a e => ?_⟩
      cases e
      obtain ⟨o, n, e, c, hd, _⟩ := pl
      exact ⟨o, e, hd⟩
    · refine ⟨⟨o, I.kIn p o hk, hc⟩, fun a e => ?_⟩
      cases e
      exact ⟨o, I.kIn _ o hk, hd⟩
    · have z : ∃ o, s.heap.get? p = some o ∧ o.ExactDict := by
        rcases hk with ⟨kvs, hk⟩ | ⟨kvs, hk⟩
        · obtain ⟨_, _, _, _, o, _, _, e, ex, _⟩ := I.hok p _ hk
          exact ⟨o, e, ex⟩
        · obtain ⟨_, _, _, _, o, _, _, e, ex, _⟩ := I.hok p _ hk
          exact ⟨o, e, ex⟩
      obtain ⟨o, e, ex⟩ := z
      refine ⟨⟨o, e, ex.1⟩, fun a e2 => ?_⟩
      cases e2
      exact ⟨o, e, ex.2.1⟩
    · obtain ⟨o, _, _, _, e, ex, _⟩ := I.hok p _ hk
      refine ⟨⟨o, e, ex.1⟩, fun a e2 => ?_⟩
      cases e2
      exact ⟨o, e, ex.2.1⟩
  | _ => exact False.elim ty
def tBM0 (K : PySem.W.Frag) (T : String) (r : V → List V → Hp → VK → Prop) (to : TE) : TE := fun σ H Q => to σ H fun x H1 => tyV K T x H1 ∧ r x [] H1 Q
def tBM (K : PySem.W.Frag) (T : String) (r : V → List V → Hp → VK → Prop) (to : TE) (t : TA) : TE := fun σ H Q => to σ H fun x H1 => tyV K T x H1 ∧ t σ H1 fun xs H2 => r x xs H2 Q
variable {o e : Expr} {es : List Expr} {to : TE} {t : TA} {name : Str} {apos cpos : Pos} {T id : String} {r : V → List V → Hp → VK → Prop}
theorem pe_bm0 (pa : PlainAttrs T) (slot : Slot T name id) (hty : typeOf (.builtin id) = pure (.type "method_descriptor")) (hm : MtR X id r) (ho : PE X o to)
    (hbase : attributeBase o name X.env (eval o X.env) = eval o X.env := by rfl) (hline : (apos.endLine == cpos.line) = true := by rfl) : PE X (.Call (.Attribute o name apos) [] [] cpos) (tBM0 X.K T r to) := by
  intro pins s σ H Q I h
  refine wpAny_Call_method0_late hbase hline (thn (ho pins s σ H _ I h) fun v s1 ⟨x, H1, I1, r1, ty, q1⟩ => ?_)
  obtain ⟨h1, h2⟩ := tyV_is I1 r1 ty
  exact ⟨T, id, pa, slot, hty, h1, h2, Calls.callWith_builtin rfl (PySem.evalArgs_none (hm pins s1 σ H1 x [] v [] Q I1 r1 .nil q1))⟩
theorem pe_bm (pa : PlainAttrs T) (slot : Slot T name id) (hty : typeOf (.builtin id) = pure (.type "method_descriptor")) (hm : MtR X id r) (ho : PE X o to) (ha : PA X (e :: es) t)
    (hbase : attributeBase o name X.env (eval o X.env) = eval o X.env := by rfl)
    (hfew : ((backTo cpos (starEach (e :: es) X.env)).all (fun x => !x.1) && (backToKw cpos (keywordEach [] X.env)).all (fun x => x.1.isSome)
      && decide ((e :: es).length + ([] : List Keyword).length + (if ([] : List Keyword).isEmpty then 0 else 1) < 30)) = true := by rfl)
    (hline : (apos.endLine == cpos.line) = true := by rfl) (hs : starEach (e :: es) X.env = (false, eval e X.env) :: starEach es X.env := by rfl) (hplain : (backTo cpos (starEach es X.env)).any (·.1) = false := by rfl) :
    PE X (.Call (.Attribute o name apos) (e :: es) [] cpos) (tBM X.K T r to t) := by
  intro pins s σ H Q I h
  refine wpAny_Call_method_late hbase hfew hline rfl (thn (ho pins s σ H _ I h) fun v s1 ⟨x, H1, I1, r1, ty, q1⟩ => ?_)
  obtain ⟨h1, h2⟩ := tyV_is I1 r1 ty
  refine ⟨T, id, pa, slot, hty, h1, h2, ?_⟩
  have hA := ha cpos pins s1 σ H1 _ I1 q1
  rw [hs] at hA ⊢
  refine Calls.callWith_builtin (by show (false || (backTo cpos (starEach es X.env)).any (·.1)) = false; rw [hplain] <;> rfl) (Calls.evalArgs_plain ?_)
  exact thn hA fun us s2 ⟨vs, H2, I2, r2, q2⟩ => hm pins s2 σ H2 x vs v us Q I2 r1 r2 q2
/- xs.append(e), list.index on a module's tuple .. are MtR facts of 06m -/
end
end L2

namespace L2
open PySem PySem.Spec PyProof.Rows

def MtM (X : Cx) (id : String) (r : V → List V → Hp → VK → Prop) : Prop :=
  ∀ (pins : List (Addr × Obj)) (s : Shared) (σ : St) (H : Hp) (x : V) (xs : List V) (v : Value) (us : List Value) (Q : VK), Inv X pins σ H s → RelV x v → Vals xs us → r x xs H Q →
    wpAny (model X.prog X.w) X.A (call (.builtin id) (v :: us)) (EP X pins σ Q) X.xe s

/-! ### lists of values -/
theorem Vals.one : ∀ {x : V} {us : List Value}, Vals [x] us → ∃ u, us = [u] ∧ RelV x u
  | _, _, .cons r .nil => ⟨_, rfl, r⟩
theorem Vals.two : ∀ {x y : V} {us : List Value}, Vals [x, y] us → ∃ u v, us = [u, v] ∧ RelV x u ∧ RelV y v
  | _, _, _, .cons r (.cons q .nil) => ⟨_, _, rfl, r, q⟩
theorem Vals.zero : ∀ {us : List Value}, Vals [] us → us = []
  | _, .nil => rfl
theorem Vals.dropLast {xs : List V} {us : List Value} (h : Vals xs us) : Vals xs.dropLast us.dropLast := by
  induction h with
  | nil => exact .nil
  | cons r t ih =>
    cases t with
    | nil => exact .nil
    | cons q t' => exact .cons r ih
theorem Vals.eraseIdx : ∀ {xs : List V} {us : List Value} (i : Nat), Vals xs us → Vals (xs.eraseIdx i) (us.eraseIdx i)
  | _, _, _, .nil => .nil
  | _, _, 0, .cons _ t => t
  | _, _, i + 1, .cons r t => .cons r (Vals.eraseIdx i t)
theorem Vals.reverse {xs : List V} {us : List Value} (h : Vals xs us) : Vals xs.reverse us.reverse := by
  induction h with
  | nil => exact .nil
  | cons r t ih => rw [List.reverse_cons, List.reverse_cons]; exact Vals.append ih (.cons r .nil)
theorem Vals.rep {xs : List V} {us : List Value} (h : Vals xs us) : ∀ k : Nat, Vals (List.replicate k xs).flatten (List.replicate k us).flatten
  | 0 => .nil
  | k + 1 => by
    rw [List.replicate_succ, List.replicate_succ, List.flatten_cons, List.flatten_cons]
    exact Vals.append h (Vals.rep h k)
theorem erase_last {α : Type} (l : List α) : l.eraseIdx (l.length - 1) = l.dropLast := by
  induction l with
  | nil => rfl
  | cons a r ih =>
    cases r with
    | nil => rfl
    | cons b r =>
      have e : (a :: b :: r).length - 1 = ((b :: r).length - 1) + 1 := by
        have h1 : (a :: b :: r).length = r.length + 2 := rfl
        have h2 : (b :: r).length = r.length + 1 := rfl
        omega
      rw [e, List.eraseIdx_cons_succ, ih]
      all_goals rfl
theorem len_erase {α : Type} : ∀ (l : List α) (i : Nat), (l.eraseIdx i).length ≤ l.length
  | [], _ => Nat.le_refl _
  | _ :: _, 0 => Nat.le_succ _
  | _ :: r, i + 1 => Nat.succ_le_succ (len_erase r i)
theorem foldl_rep (its : List Value) : ∀ (k : Nat) (acc : List Value),
    List.foldl (fun x1 x2 => x1 ++ x2) acc.toArray (List.replicate k its.toArray) = (acc ++ (List.replicate k its).flatten).toArray
  | 0, acc => by simp
  | k + 1, acc => by
    have e : acc.toArray ++ its.toArray = (acc ++ its).toArray := by simp
    have e2 : (acc ++ its) ++ (List.replicate k its).flatten = acc ++ (List.replicate (k + 1) its).flatten := by
      rw [List.replicate_succ, List.flatten_cons, List.append_assoc]
    rw [← e2, ← foldl_rep its k (acc ++ its), ← e, List.replicate_succ, List.foldl_cons]

section
variable {X : Cx} {pins : List (Addr × Obj)} {σ : St} {H : Hp} {s : Shared} {l b : Addr} {xs ys zs : List V}

/-! ### the two steps: a tracked list is rewritten, a new list is laid -/
theorem Inv.lset {its its' : List Value} {n : Nat} {f : Array Value → Array Value} {t' : Nat} (I : Inv X pins σ H s) (hH : H l = some (.lst xs))
    (e : s.heap.get? l = some { cls := .type "list", data := .seq its.toArray n }) (hf : f its.toArray = its'.toArray) (hv : Vals ys its') (hz : ys.length ≤ sizeLine) :
    Inv X pins σ (upd H l (.lst ys)) { s with heap := s.heap.update l (Obj.mapSeq f), toks := t' } := by
  have q := PySem.IsL.update e f
  rw [hf] at q
  refine I.write (x := l) (e := l) (by rw [hH]; exact trivial) (.inl rfl) (fun b' u hb hu => (Heap.get?_update_other s.heap (Obj.mapSeq f) (Ne.symm hb)).trans hu) ⟨_, q⟩ ?_
  exact ⟨hz, its', _, hv, q⟩
theorem Inv.lnew {its : List Value} {t' : Nat} (I : Inv X pins σ H s) (hv : Vals ys its) (hz : ys.length ≤ sizeLine) :
    Inv X pins σ (upd H s.heap.objs.size (.lst ys)) { s with heap := s.heap.push { cls := .type "list", data := .seq its.toArray }, toks := t' } :=
  I.laid (fun _ _ q => Heap.get?_push_of_some _ q) (Nat.le_refl _) ⟨hz, its, 0, hv, Heap.get?_push_size _ rfl⟩
theorem Inv.fresh (I : Inv X pins σ H s) : H s.heap.objs.size = none := I.hok.fresh (Nat.le_refl _)
theorem Inv.lstM (I : Inv X pins σ H s) (hH : H l = some (.lst xs)) : xs.length ≤ sizeLine ∧ ∃ (its : List Value) (n : Nat), Vals xs its ∧ xs.length = its.length ∧ s.heap.get? l = some { cls := .type "list", data := .seq its.toArray n } := by
  obtain ⟨z, its, n, r, e⟩ := I.hok l _ hH
  exact ⟨z, its, n, r, r.length, e⟩

theorem notLongL {n : Nat} (h : n ≤ sizeLine) : Builtin.List.listTooLong n = false := by
  unfold Builtin.List.listTooLong
  exact decide_eq_false (by omega)
end

section
variable {X : Cx}

/-! ### methods -/
def rAppend : V → List V → Hp → VK → Prop := fun x vs H Q => ∃ l xs y, x = .ref l ∧ vs = [y] ∧ H l = some (.lst xs) ∧ xs.length < sizeLine ∧ Q .non (upd H l (.lst (xs ++ [y])))
theorem mt_append : MtM X "list.append" rAppend := by
  intro pins s σ H x vs v us Q I rx rv h
  obtain ⟨l, xs, y, rfl, rfl, hH, hz, q⟩ := h
  cases rx
  obtain ⟨u, rfl, ru⟩ := rv.one
  obtain ⟨z, its, n, r, hl, e⟩ := I.lstM hH
  refine call_meets F.slot_list_append ⟨_, e, rfl⟩ F.entry_list_append (F.args_list_append_2 _ _) (PySem.list_append l its.toArray n u (by rw [List.size_toArray]; omega)) ⟨e, ?_⟩
  refine ⟨.non, _, I.lset (its' := its ++ [u]) hH e (by simp) (r.append (.cons ru .nil)) ?_, rfl, q⟩
  rw [List.length_append, List.length_singleton]
  omega

def rExtend : V → List V → Hp → VK → Prop := fun x vs H Q => ∃ l b xs zs, x = .ref l ∧ vs = [.ref b] ∧ H l = some (.lst xs) ∧ H b = some (.lst zs) ∧ xs.length + zs.length ≤ sizeLine ∧ Q .non (upd H l (.lst (xs ++ zs)))
theorem mt_extend : MtM X "list.extend" rExtend := by
  intro pins s σ H x vs v us Q I rx rv h
  obtain ⟨l, b, xs, zs, rfl, rfl, hH, hB, hz, q⟩ := h
  cases rx
  obtain ⟨u, rfl, ru⟩ := rv.one
  cases ru
  obtain ⟨z, its, n, r, hl, e⟩ := I.lstM hH
  obtain ⟨z2, its2, n2, r2, hl2, e2⟩ := I.lstM hB
  have hsz : its.toArray.size + its2.toArray.size ≤ sizeLine := by rw [List.size_toArray, List.size_toArray]; omega
  have hlong : ¬ (!its.toArray.isEmpty && Builtin.List.listTooLong (its.toArray.size + its2.toArray.size)) = true := by
    rw [notLongL hsz, Bool.and_false]
    exact Bool.false_ne_true
  refine call_meets F.slot_list_extend ⟨_, e, rfl⟩ F.entry_list_extend (F.args_list_extend_2 _ _)
    (AutoSeq1.list_extend_list_list_0 l its.toArray n b its2.toArray n2 hlong (by rw [List.size_toArray]; omega) (by omega)) ⟨e, e2, ?_⟩
  refine ⟨.non, _, I.lset (its' := its ++ its2) hH e (by simp) (r.append r2) ?_, rfl, q⟩
  rw [List.length_append]
  omega

def rPop : V → List V → Hp → VK → Prop := fun x vs H Q => ∃ l xs y, x = .ref l ∧ vs = [] ∧ H l = some (.lst xs) ∧ xs[xs.length - 1]? = some y ∧ Q y (upd H l (.lst xs.dropLast))
theorem mt_pop : MtM X "list.pop" rPop := by
  intro pins s σ H x vs v us Q I rx rv h
  obtain ⟨l, xs, y, rfl, rfl, hH, hy, q⟩ := h
  cases rx
  have hus := rv.zero
  subst hus
  obtain ⟨z, its, n, r, hl, e⟩ := I.lstM hH
  obtain ⟨u, hu, ru⟩ := r.get hy
  have hy' : its.toArray[its.toArray.size - 1]? = some u := by
    show its.toArray[its.length - 1]? = some u
    rw [← Array.getElem?_toList, ← hl]
    exact hu
  refine call_meets F.slot_list_pop ⟨_, e, rfl⟩ F.entry_list_pop (F.args_list_pop_1 _) (MeetsSeq.list_pop_last l its.toArray n u hy' (by rw [List.size_toArray]; omega)) ⟨e, ?_⟩
  refine ⟨y, _, I.lset (its' := its.dropLast) hH e ?_ r.dropLast ?_, ru, q⟩
  · show its.toArray.eraseIdxIfInBounds (its.toArray.size - 1) = its.dropLast.toArray
    rw [List.size_toArray, List.eraseIdxIfInBounds_toArray, erase_last]
  · rw [List.length_dropLast]
    omega

def rPopAt : V → List V → Hp → VK → Prop := fun x vs H Q => ∃ l xs i k y, x = .ref l ∧ vs = [.int i] ∧ H l = some (.lst xs) ∧ -(2 ^ 63) ≤ i ∧ i < 2 ^ 63 ∧ seqIndex? i xs.length = some k ∧ xs[k]? = some y ∧ Q y (upd H l (.lst (xs.eraseIdx k)))
theorem mt_popAt : MtM X "list.pop" rPopAt := by
  intro pins s σ H x vs v us Q I rx rv h
  obtain ⟨l, xs, i, k, y, rfl, rfl, hH, h1, h2, hk, hy, q⟩ := h
  cases rx
  obtain ⟨u, rfl, ru⟩ := rv.one
  obtain ⟨t, rfl⟩ := ru
  obtain ⟨z, its, n, r, hl, e⟩ := I.lstM hH
  obtain ⟨w, hw, rw'⟩ := r.get hy
  refine call_meets F.slot_list_pop ⟨_, e, rfl⟩ F.entry_list_pop (F.args_list_pop_2 _ _)
    (MeetsSeq.list_pop_at l its.toArray n i t k w (fitsIndex_both h1 h2) (by rw [List.size_toArray, ← hl]; exact hk) (by rw [← Array.getElem?_toList]; exact hw) (by rw [List.size_toArray]; omega)) ⟨e, ?_⟩
  refine ⟨y, _, I.lset (its' := its.eraseIdx k) hH e ?_ (r.eraseIdx k) ?_, rw', q⟩
  · show its.toArray.eraseIdxIfInBounds k = (its.eraseIdx k).toArray
    rw [List.eraseIdxIfInBounds_toArray]
  · have := len_erase xs k
    omega

def rReverse : V → List V → Hp → VK → Prop := fun x vs H Q => ∃ l xs, x = .ref l ∧ vs = [] ∧ H l = some (.lst xs) ∧ Q .non (upd H l (.lst xs.reverse))
theorem mt_reverse : MtM X "list.reverse" rReverse := by
  intro pins s σ H x vs v us Q I rx rv h
  obtain ⟨l, xs, rfl, rfl, hH, q⟩ := h
  cases rx
  have hus := rv.zero
  subst hus
  obtain ⟨z, its, n, r, hl, e⟩ := I.lstM hH
  refine call_meets F.slot_list_reverse ⟨_, e, rfl⟩ F.entry_list_reverse (F.args_list_reverse_1 _) (AutoSeq1.list_reverse_list_0 l its.toArray n (by rw [List.size_toArray]; omega)) ⟨e, ?_⟩
  refine ⟨.non, _, I.lset (its' := its.reverse) hH e (by simp) r.reverse ?_, rfl, q⟩
  rw [List.length_reverse]
  omega

def rClear : V → List V → Hp → VK → Prop := fun x vs H Q => ∃ l xs, x = .ref l ∧ vs = [] ∧ H l = some (.lst xs) ∧ Q .non (upd H l (.lst []))
theorem mt_clear : MtM X "list.clear" rClear := by
  intro pins s σ H x vs v us Q I rx rv h
  obtain ⟨l, xs, rfl, rfl, hH, q⟩ := h
  cases rx
  have hus := rv.zero
  subst hus
  obtain ⟨z, its, n, r, hl, e⟩ := I.lstM hH
  refine call_meets F.slot_list_clear ⟨_, e, rfl⟩ F.entry_list_clear (F.args_list_clear_1 _) (AutoSeq1.list_clear_list_0 l its.toArray n (by rw [List.size_toArray]; omega)) ⟨e, ?_⟩
  exact ⟨.non, _, I.lset (its' := []) (ys := []) hH e rfl .nil (Nat.zero_le _), rfl, q⟩

/-! ### list + list, list += list, list * int -/
def rCat : R2 := fun x y H Q => ∃ l b xs zs, x = .ref l ∧ y = .ref b ∧ H l = some (.lst xs) ∧ H b = some (.lst zs) ∧ xs.length + zs.length ≤ sizeLine ∧ ∀ p, H p = none → Q (.ref p) (upd H p (.lst (xs ++ zs)))
theorem op_cat : OpR X (binaryOp .Add) rCat := by
  intro pins s σ H x y v u Q I rx ry h
  obtain ⟨l, b, xs, zs, rfl, rfl, hH, hB, hz, q⟩ := h
  cases rx
  cases ry
  obtain ⟨z, its, n, r, hl, e⟩ := I.lstM hH
  obtain ⟨z2, its2, n2, r2, hl2, e2⟩ := I.lstM hB
  refine PySem.P.add_list e e2 ?_ (by rw [List.size_toArray, List.size_toArray]; omega)
  have ea : its.toArray ++ its2.toArray = (its ++ its2).toArray := by simp
  rw [ea]
  exact ⟨.ref _, _, I.lnew (t' := s.toks) (r.append r2) (by rw [List.length_append]; omega), rfl, q _ I.fresh⟩
/-- a list times an int (a negative one is nothing) -/
def rRep : R2 := fun x y H Q => ∃ l k xs, x = .ref l ∧ y = .int k ∧ H l = some (.lst xs) ∧ -(2 ^ 63) ≤ k ∧ k < 2 ^ 63 ∧ xs.length * k.toNat ≤ sizeLine ∧
  ∀ p, H p = none → Q (.ref p) (upd H p (.lst (List.replicate k.toNat xs).flatten))
theorem len_rep {α : Type} (xs : List α) (k : Nat) : (List.replicate k xs).flatten.length = k * xs.length := by
  induction k with
  | zero => simp
  | succ k ih => rw [List.replicate_succ, List.flatten_cons, List.length_append, ih, Nat.succ_mul, Nat.add_comm]
theorem op_rep : OpR X (binaryOp .Mult) rRep := by
  intro pins s σ H x y v u Q I rx ry h
  obtain ⟨l, k, xs, rfl, rfl, hH, h1, h2, hz, q⟩ := h
  cases rx
  obtain ⟨t, rfl⟩ := ry
  obtain ⟨z, its, n, r, hl, e⟩ := I.lstM hH
  have hlen : its.toArray.size * k.toNat ≤ sizeLine := by rw [List.size_toArray, ← hl]; exact hz
  have hcap : ¬ its.toArray.size * k.toNat > (2 ^ 63 - 1) / 8 := by
    have : (sizeLine : Nat) ≤ (2 ^ 63 - 1) / 8 := by decide
    omega
  have hfit : ¬ (!Builtin.List.listFitsIndex k) = true := by
    rw [fitsIndex_both h1 h2]
    exact Bool.false_ne_true
  have hlong : ¬ Builtin.List.listTooLong (its.toArray.size * k.toNat) = true := by
    rw [notLongL hlen]
    exact Bool.false_ne_true
  have hnew : List.foldl (fun x1 x2 => x1 ++ x2) #[] (List.replicate (if its.toArray.isEmpty = true then 0 else k.toNat) its.toArray) = (List.replicate k.toNat its).flatten.toArray := by
    have f0 : ∀ m : Nat, List.foldl (fun x1 x2 => x1 ++ x2) #[] (List.replicate m its.toArray) = (List.replicate m its).flatten.toArray := fun m => by
      have := foldl_rep its m []
      rw [List.nil_append] at this
      exact this
    rw [f0]
    cases its with
    | nil => simp
    | cons a r' => rw [if_neg (by simp)]
  refine wpAny_binaryOp_repeat_ref (T := "list") (U := "int") (by decide) ⟨_, e, rfl⟩ (fun s' => typeIs_int s' k t) noFill_list_mul F.fills_int_mul F.slot_int_rmul repeat_list F.slot_int_index.lookup
    (call_meets F.slot_int_rmul (typeIs_int s k t) F.entry_int_rmul (F.args_int_rmul_2 _ _) (int___rmul___int_list k t l its.toArray n)
      ⟨e, rfl, ⟨_, e, rfl⟩, call_meets F.slot_list_mul ⟨_, e, rfl⟩ F.entry_list_mul (F.args_list_mul_2 _ _) (AutoListH.list___mul___list_int_3 l its.toArray n k t hfit hcap hlong) ⟨e, ?_⟩⟩)
  rw [hnew]
  exact ⟨.ref _, _, I.lnew (t' := s.toks) (r.rep k.toNat) (by rw [len_rep, Nat.mul_comm]; exact hz), rfl, q _ I.fresh⟩

/-! ### del xs[i] -/
theorem del_list {pins : List (Addr × Obj)} {s : Shared} {σ : St} {H : Hp} {l : Addr} {xs : List V} {i : Int} {t : Tok} {k : Nat} {Q : Unit → Shared → Prop} (I : Inv X pins σ H s) (hH : H l = some (.lst xs))
    (h1 : -(2 ^ 63) ≤ i) (h2 : i < 2 ^ 63) (hk : seqIndex? i xs.length = some k) (h : ∀ s', Inv X pins σ (upd H l (.lst (xs.eraseIdx k))) s' → Q () s') :
    wpAny (model X.prog X.w) X.A (delItem (.ref l) (.int i t)) Q X.xe s := by
  obtain ⟨z, its, n, r, hl, e⟩ := I.lstM hH
  refine PySem.P.delItem_list (k := k) e (fitsIndex_both h1 h2) (by rw [List.size_toArray, ← hl]; exact hk) (h _ ?_) (by rw [List.size_toArray]; omega)
  refine I.lset (its' := its.eraseIdx k) (t' := s.toks) hH e ?_ (r.eraseIdx k) ?_
  · show its.toArray.eraseIdxIfInBounds k = (its.eraseIdx k).toArray
    rw [List.eraseIdxIfInBounds_toArray]
  · have := len_erase xs k
    omega
end

/-! ### xs[a:b] = ys -/
section
variable {prog : Program} {w : World} {A : Around} {E : Value → Shared → Prop} {s : Shared}
theorem splice_eq (its its2 : List Value) (a c : Nat) : its.toArray.extract 0 a ++ its2.toArray ++ its.toArray.extract c its.toArray.size = (its.take a ++ its2 ++ its.drop c).toArray := by
  apply Array.toList_inj.mp
  first
    | (simp
       exact List.take_of_length_le (by simp))
    | simp [List.take_of_length_le]
    | simp
theorem bounds_run {a c n : Nat} (hac : a ≤ c) (hc : c ≤ n) : sliceBounds (some (a : Int)) (some (c : Int)) none n = ((a : Int), (c : Int), 1) := by
  simp only [sliceBounds, Option.getD_none]
  have h1 : ¬ ((a : Int) < 0) := by omega
  have h2 : ¬ ((c : Int) < 0) := by omega
  simp only [h1, h2, if_false, show (1 : Int) > 0 by decide, if_true]
  congr 1
  · omega
  · congr 1; omega
set_option maxRecDepth 100000 in
/-- list.__setitem__ with a slice of step one and another list -/
theorem setItem_slice {l b sl : Addr} {items new : Array Value} {n n2 : Nat} {vl vu : Value} {a c : Nat} {Q : Unit → Shared → Prop}
    (e : s.heap.get? l = some { cls := .type "list", data := .seq items n }) (e2 : s.heap.get? b = some { cls := .type "list", data := .seq new n2 }) (hne : l ≠ b)
    (hs : s.heap.IsSliceOf sl vl vu .none) (pl : IsPart vl (some (a : Int))) (pu : IsPart vu (some (c : Int))) (hac : a ≤ c) (hc : c ≤ items.size)
    (hsz : items.size + new.size ≤ sizeLine) (h : Q () { s with heap := s.heap.update l (Obj.mapSeq fun xs => xs.extract 0 a ++ new ++ xs.extract c xs.size) }) :
    wpAny (model prog w) A (setItem (.ref l) (.ref sl) (.ref b)) Q E s := by
  have hl : s.heap.IsList l items := PySem.IsL.isList e
  have hb : s.heap.IsList b new := PySem.IsL.isList e2
  obtain ⟨os, hos, hcs, hds⟩ := id hs
  have hTs : s.TypeIs (.ref sl) "slice" := ⟨os, hos, hcs⟩
  have hstep : ¬ ((rawPart none == rawInt 0) = true) := Bool.false_ne_true
  have hsame : Builtin.List.listSameRef (.ref l) (.ref b) = false := by
    unfold Builtin.List.listSameRef
    exact beq_eq_false_iff_ne.mpr hne
  have hmax : (max (a : Int) (c : Int)).toNat = c := by omega
  have hz' : ((fun xs : Array Value => xs.extract 0 a ++ new ++ xs.extract c xs.size) items).size ≤ sizeLine + 1 := by
    simp only [Array.size_append, Array.size_extract]
    omega
  unfold setItem
  try with_reducible refine wpAny_holding ?_
  first | refine wpAny_bind (wpAny_pure ?_) | skip
  refine wpAny_bind (wpAny_sequenceKey hl.typeIs (by decide) ?_)
  refine wpAny_bind (wpAny_callSpecial?_slot (name := Str.ofString "__setitem__") hl.typeIs slot_list_setitem
    (wpAny_call_entry slot_list_setitem hl.typeIs entry_list_setitem ?_ (args_list_setitem _ _ _)))
  show wpAny _ _ (Builtin.List.listSubscript? (.ref sl) >>= _) _ _ s
  refine wpAny_bind ?_
  unfold Builtin.List.listSubscript?
  refine wpAny_bind (wpAny_specialOf hTs slice_no_index ?_)
  simp only [Option.isNone_none, if_true]
  refine wpAny_pure ?_
  show wpAny _ _ (typeOf (.ref sl) >>= _) _ _ s
  refine wpAny_bind (wpAny_typeOf hTs ?_)
  first
    | rw [if_neg (by decide)]
    | refine PySem.W.KFB.if_not (by decide) ?_
  rw [listSliceParts_eq]
  refine wpAny_bind (wpAny_bind (wpAny_field hos hds (x := .none) rfl (wpAny_bind (wpAny_listPart .none ?_))))
  rw [if_neg hstep]
  refine wpAny_bind (wpAny_field hos hds (x := vl) rfl (wpAny_bind (wpAny_listPart pl ?_)))
  refine wpAny_bind (wpAny_field hos hds (x := vu) rfl (wpAny_bind (wpAny_listPart pu (wpAny_pure ?_))))
  first
    | simp only [hsame, Bool.false_eq_true, if_false]
    | refine PySem.W.KFB.if_not hsame ?_
    | (dsimp only
       rw [if_neg (by rw [hsame]; exact Bool.false_ne_true)])
  refine wpAny_bind (m := Builtin.List.listAllItems (.ref b) "must assign iterable to extended slice") ?_
  unfold Builtin.List.listAllItems
  refine wpAny_bind (wpAny_typeOf hb.typeIs ?_)
  first
    | refine PySem.W.KFB.if_so (by decide) ?_
    | rw [if_pos (by decide)]
    | simp only [beq_self_eq_true, Bool.true_or, if_true]
  unfold Builtin.List.listItems
  refine wpAny_bind (wpAny_seqItems e2 rfl (wpAny_pure ?_))
  refine wpAny_bind (wpAny_bind (wpAny_seqItems e rfl (wpAny_pure ?_)))
  refine wpAny_bind (wpAny_of_eq ((sliceIndices_raw (some (a : Int)) (some (c : Int)) none items.size (by simp)).trans (congrArg (pure : Int × Int × Int → Sem (Int × Int × Int)) (bounds_run hac hc))) ?_)
  show wpAny _ _ (if ((1 : Int) == 1) = true then _ else _) _ _ s
  rw [if_pos (by decide)]
  refine wpAny_bind (wpAny_rule ?_)
  first
    | simp only [notLongL hsz, Bool.false_eq_true, if_false]
    | refine PySem.W.KFB.if_not (notLongL hsz) ?_
  first | refine wpAny_bind (wpAny_pure ?_) | skip
  show wpAny _ _ (updateSeq l (fun xs => xs.extract 0 ((a : Int)).toNat ++ new ++ xs.extract (max (a : Int) (c : Int)).toNat xs.size) >>= _) _ _ s
  rw [hmax, Int.toNat_natCast]
  refine wpAny_bind (wpAny_updateSeq (hz := Nat.le_trans (Nat.le_add_right _ _) hsz) (_hz' := hz') e rfl ?_)
  refine wpAny_bind (wpAny_letGo ?_)
  first
    | exact wpAny_bind (wpAny_pure (wpAny_pure ⟨.none, rfl, wpAny_pure h⟩))
    | exact wpAny_pure ⟨.none, rfl, wpAny_pure h⟩
end

section
variable {X : Cx}
/-- xs[a:c] = ys of another list, at the value level: sl is the slice object that was just made -/
theorem set_slice {pins : List (Addr × Obj)} {s : Shared} {σ : St} {H : Hp} {l b sl : Addr} {xs ys : List V} {a c : Int} {vl vu : Value} {Q : Unit → Shared → Prop} (I : Inv X pins σ H s)
    (hH : H l = some (.lst xs)) (hB : H b = some (.lst ys)) (hne : l ≠ b) (hs : s.heap.IsSliceOf sl vl vu .none) (ra : RelV (.int a) vl) (rc : RelV (.int c) vu) (h0 : 0 ≤ a) (hac : a ≤ c) (hc : c ≤ xs.length)
    (hz : xs.length + ys.length ≤ sizeLine) (h : ∀ s', Inv X pins σ (upd H l (.lst (xs.take a.toNat ++ ys ++ xs.drop c.toNat))) s' → Q () s') :
    wpAny (model X.prog X.w) X.A (setItem (.ref l) (.ref sl) (.ref b)) Q X.xe s := by
  obtain ⟨ta, rfl⟩ := ra
  obtain ⟨tc, rfl⟩ := rc
  obtain ⟨z, its, n, r, hl, e⟩ := I.lstM hH
  obtain ⟨z2, its2, n2, r2, hl2, e2⟩ := I.lstM hB
  obtain ⟨a', rfl⟩ := Int.eq_ofNat_of_zero_le h0
  obtain ⟨c', rfl⟩ := Int.eq_ofNat_of_zero_le (Int.le_trans h0 hac)
  simp only [Int.toNat_natCast] at h
  refine setItem_slice (a := a') (c := c') e e2 hne hs (.int _ _) (.int _ _) (by omega) (by rw [List.size_toArray]; omega) (by rw [List.size_toArray, List.size_toArray]; omega) (h _ ?_)
  refine I.lset (its' := its.take a' ++ its2 ++ its.drop c') (t' := s.toks) hH e ?_ (Vals.append (Vals.append (r.take _) r2) (r.drop _)) ?_
  · exact splice_eq its its2 a' c'
  · rw [List.length_append, List.length_append, List.length_take, List.length_drop]
    omega
end
end L2

namespace Att
open PySem PySem.W PySem.Calls PyProof.Rows

/-! ### the script -/
theorem ints_of_wellAll {P : Params} {h : Heap} : ∀ (ns : List Int) (vs : List Value), WellAll P h vs (ns.map WData.int) → IntsAre vs ns := by
  intro ns
  induction ns with
  | nil =>
    intro vs w
    rw [List.map_nil] at w
    cases w
    exact .nil
  | cons n ns ih =>
    intro vs w
    rw [List.map_cons] at w
    cases w with
    | cons a b =>
      cases a
      exact .cons _ _ (ih _ b)

theorem script_of {l : OpenLaw} {n : Nat} (hn : l.most = some n) {P : Params} {h : Heap} {args : List WData} {vals : List Value}
    (hpre : l.row.toRowW.claim.pre args = true) (hwl : WellAll P h vals args) :
    ∃ a vs ns, vals = [Value.ref a] ∧ args = [WData.list (ns.map WData.int)] ∧ h.get? a = some { cls := .type "list", data := .seq vs.toArray } ∧ IntsAre vs ns ∧ ns.length ≤ n := by
  have hsh : WShape.hasAll [] args [.list .int] = true := (pre_splitW hpre).1
  have hc : l.pre.holds [] { args := args } = true := (pre_splitW hpre).2
  obtain ⟨d, r, rfl, h1, h2⟩ := hasAllW_cons hsh
  obtain rfl := hasAllW_nil h2
  obtain ⟨xs, rfl, h3⟩ := hasW_list h1
  obtain ⟨ns, rfl⟩ := items_int h3
  have hlen : ns.length ≤ n := by
    unfold OpenLaw.pre at hc
    have h4 : (WTm.not (.lt (.lit (.int (n : Int))) (.len (.arg 0)))).holds [] { args := [.list (ns.map .int)] } = true := by
      have h4 := (holds_andW hc).1
      rw [hn] at h4
      exact h4
    have h5 := condW_of h4 (w_not (w_lt w_lit (w_len_list (w_arg rfl))))
    rw [List.length_map] at h5
    refine Nat.le_of_not_lt fun q => ?_
    have q' : (n : Int) < ((ns.length : Nat) : Int) := by omega
    first
      | (rw [decide_eq_true q'] at h5; exact absurd h5 (by decide))
      | (simp at h5; omega)
  cases hwl with
  | cons w1 w2 =>
    cases w2
    cases w1 with
    | list ho hall => exact ⟨_, _, ns, rfl, rfl, ho, ints_of_wellAll ns _ hall, hlen⟩

theorem post_true (l : OpenLaw) (args : List WData) : l.row.toRowW.claim.post args (.bool true) args = true :=
  postW_of (r := l.row.toRowW) (X := (true == true))
    (show WShape.has [] (.bool true) .bool = true by first | rfl | decide | simp [WShape.has, WShape.arms, WShape.armsAll])
    (show (WTm.eq .res (.lit (.bool true))).value [] { args := args, res := some (.bool true), after := args } = some (.bool (true == true)) from w_eq_bool (w_res rfl) w_lit) rfl

/-! ### the attachment: holds_open's last premise (the goal 'hc' behind k_head) from a wpAny of the law's body -/
theorem attach {l : OpenLaw} {n : Nat} {q : Program} {loose : List Str} {XP : (Str → Option Value) → Heap → Prop} {YP : World → Heap → Prop} {d : DefRec} {x : Str}
    (hn : l.most = some n) (hdf : d.params.defaults = [])
    (hbind : ∀ pm cd doc v : Value, bindArgs (docDef d.name d.params d.body d.scope pm cd doc) ⟨[v], []⟩ = pure [(x, v)])
    (hx : d.scope.names.lookup x = some .local ∨ d.scope.names.lookup x = some .cell)
    (hk : d.scope.kind = .function) (hco : d.scope.isCoroutine = false) (hgen : d.scope.isGenerator = false)
    (body : ∀ (w : World) (s₀ s₁ s : Shared) (mg mb : Str → Option Value) (fa : Addr) (o : Obj) (pm cd doc : Value) (a : Addr) (vs : List Value) (ns : List Int),
      Ground q loose [] XP w s₀ mg mb s₁.heap → YP w s₁.heap →
      s₁.heap.get? fa = some o → o.data = .func (docDef d.name d.params d.body d.scope pm cd doc) → s₁.heap.CodeRec cd d.name → mg d.name = some (.ref fa) →
      s₁.heap.get? a = some { cls := .type "list", data := .seq vs.toArray } → IntsAre vs ns → ns.length ≤ n →
      s.gens = #[] → s.os = s₁.os →
      Fr s₁.heap s₁.heap.objs.size s.heap (bindL (envOfC d.name d.scope s₁.heap.objs.size fa cd).kindOf [(x, .ref a)] fun _ => none) →
      Cl s₁.heap.objs.size (cellsFrom (s₁.heap.objs.size + 1) d.scope.names []) s.heap (bindC (envOfC d.name d.scope s₁.heap.objs.size fa cd).kindOf [(x, .ref a)] fun _ => none) →
      wpAny (model l.prog w) (callerA.deeper (envOfC d.name d.scope s₁.heap.objs.size fa cd)) (execs d.body (envOfC d.name d.scope s₁.heap.objs.size fa cd))
        (fun f s' => f = .ret (.bool true) ∧ OldK s₁.heap s'.heap ∧ s'.os = s₁.os ∧ AllBare s'.gens) (fun _ _ => False) s) :
    WalkO q loose XP YP l.row.toRowW d [] (fun f vs => PySem.call f vs) := by
  intro w s₀ s₁ mg mb G Y fa o pm cd doc dV kV ho hd hcd hD hmg hg args vals as hpre hlay hrd hwl hlo
  obtain rfl : dV = .none := Dflts.none hD hdf
  obtain rfl : kV = .none := Dflts.noKw hD
  obtain ⟨a, vs, ns, rfl, rfl, hobj, hints, hlen⟩ := script_of hn hpre hwl
  refine enter_call ?_
  refine call_cells_ret (o := o) (by rw [depth_caller]; decide) ho (fd_plain hd) G.T.nolimit hcd (hbind pm cd doc (.ref a)) (fun y hy => ?_) (fun h₁ tk F X => ?_) hco hgen hk
  · obtain rfl : y = (x, Value.ref a) := List.mem_singleton.mp hy
    rcases hx with e | e
    · exact .inl e
    · exact .inr ⟨e, cellsFrom_some _ _ _ (.inl e)⟩
  · refine wpAny_mono (body w s₀ s₁ { s₁ with heap := h₁, toks := tk } mg mb fa o pm cd doc a vs ns G Y ho (fd_plain hd) hcd hmg hobj hints hlen hg rfl F X) (fun f s' hq => ?_) (fun _ _ hq => hq)
    obtain ⟨rfl, h2, h3, h4⟩ := hq
    exact ⟨.inl ⟨.bool true, .bool true, [], rfl, fun _ => rfl, .bool true, post_true l _, fun _ => ⟨List.Pairwise.nil, fun _ hm => (nomatch hm)⟩⟩, h2, h3, h4⟩

/-- the same from a codeAny of the CALL (for a layer whose function contracts speak of calls) -/
theorem attach_call {l : OpenLaw} {n : Nat} {q : Program} {loose : List Str} {XP : (Str → Option Value) → Heap → Prop} {YP : World → Heap → Prop} {d : DefRec}
    (hn : l.most = some n) (hdf : d.params.defaults = [])
    (call : ∀ (w : World) (s₀ s₁ : Shared) (mg mb : Str → Option Value) (fa : Addr) (o : Obj) (pm cd doc : Value) (a : Addr) (vs : List Value) (ns : List Int),
      Ground q loose [] XP w s₀ mg mb s₁.heap → YP w s₁.heap →
      s₁.heap.get? fa = some o → o.data = .func (docDef d.name d.params d.body d.scope pm cd doc) → s₁.heap.CodeRec cd d.name → mg d.name = some (.ref fa) →
      s₁.heap.get? a = some { cls := .type "list", data := .seq vs.toArray } → IntsAre vs ns → ns.length ≤ n → s₁.gens = #[] →
      codeAny (model l.prog w) callerA (.call (.ref fa) ⟨[.ref a], []⟩) (fun r s' => r = .ok (.ret (.bool true)) ∧ OldK s₁.heap s'.heap ∧ s'.os = s₁.os ∧ AllBare s'.gens) s₁) :
    WalkO q loose XP YP l.row.toRowW d [] (fun f vs => PySem.call f vs) := by
  intro w s₀ s₁ mg mb G Y fa o pm cd doc dV kV ho hd hcd hD hmg hg args vals as hpre hlay hrd hwl hlo
  obtain rfl : dV = .none := Dflts.none hD hdf
  obtain rfl : kV = .none := Dflts.noKw hD
  obtain ⟨a, vs, ns, rfl, rfl, hobj, hints, hlen⟩ := script_of hn hpre hwl
  refine enter_call (codeAny_mono (call w s₀ s₁ mg mb fa o pm cd doc a vs ns G Y ho (fd_plain hd) hcd hmg hobj hints hlen hg) fun r s' hq => ?_)
  obtain ⟨rfl, h2, h3, h4⟩ := hq
  exact ⟨.inl ⟨.bool true, .bool true, [], rfl, fun _ => rfl, .bool true, post_true l _, fun _ => ⟨List.Pairwise.nil, fun _ hm => (nomatch hm)⟩⟩, h2, h3, h4⟩

/-- the same where the top left finished generators (o_head chose holds_openN): nothing may have changed at all and no generator may be left -/
theorem attachN {l : OpenLaw} {n : Nat} {q : Program} {loose : List Str} {XP : (Str → Option Value) → Heap → Prop} {YP : World → Heap → Prop} {d : DefRec} {x : Str}
    (hn : l.most = some n) (hdf : d.params.defaults = [])
    (hbind : ∀ pm cd doc v : Value, bindArgs (docDef d.name d.params d.body d.scope pm cd doc) ⟨[v], []⟩ = pure [(x, v)])
    (hx : d.scope.names.lookup x = some .local ∨ d.scope.names.lookup x = some .cell)
    (hk : d.scope.kind = .function) (hco : d.scope.isCoroutine = false) (hgen : d.scope.isGenerator = false)
    (body : ∀ (w : World) (s₀ s₁ s : Shared) (mg mb : Str → Option Value) (fa : Addr) (o : Obj) (pm cd doc : Value) (a : Addr) (vs : List Value) (ns : List Int),
      Ground q loose [] XP w s₀ mg mb s₁.heap → YP w s₁.heap →
      s₁.heap.get? fa = some o → o.data = .func (docDef d.name d.params d.body d.scope pm cd doc) → s₁.heap.CodeRec cd d.name → mg d.name = some (.ref fa) →
      s₁.heap.get? a = some { cls := .type "list", data := .seq vs.toArray } → IntsAre vs ns → ns.length ≤ n →
      s.gens = #[] → s.os = s₁.os →
      Fr s₁.heap s₁.heap.objs.size s.heap (bindL (envOfC d.name d.scope s₁.heap.objs.size fa cd).kindOf [(x, .ref a)] fun _ => none) →
      Cl s₁.heap.objs.size (cellsFrom (s₁.heap.objs.size + 1) d.scope.names []) s.heap (bindC (envOfC d.name d.scope s₁.heap.objs.size fa cd).kindOf [(x, .ref a)] fun _ => none) →
      wpAny (model l.prog w) (callerA.deeper (envOfC d.name d.scope s₁.heap.objs.size fa cd)) (execs d.body (envOfC d.name d.scope s₁.heap.objs.size fa cd))
        (fun f s' => f = .ret (.bool true) ∧ (∀ b o, s₁.heap.get? b = some o → s'.heap.get? b = some o) ∧ s'.os = s₁.os ∧ s'.gens = #[]) (fun _ _ => False) s) :
    WalkN q loose XP YP l.row.toRowW d [] (fun f vs => PySem.call f vs) := by
  intro w s₀ s₁ mg mb G Y fa o pm cd doc dV kV ho hd hcd hD hmg hg args vals as hpre hlay hrd hwl hlo
  obtain rfl : dV = .none := Dflts.none hD hdf
  obtain rfl : kV = .none := Dflts.noKw hD
  obtain ⟨a, vs, ns, rfl, rfl, hobj, hints, hlen⟩ := script_of hn hpre hwl
  refine enter_callW ?_
  refine call_cells_ret (o := o) (by rw [depth_caller]; decide) ho (fd_plain hd) G.T.nolimit hcd (hbind pm cd doc (.ref a)) (fun y hy => ?_) (fun h₁ tk F X => ?_) hco hgen hk
  · obtain rfl : y = (x, Value.ref a) := List.mem_singleton.mp hy
    rcases hx with e | e
    · exact .inl e
    · exact .inr ⟨e, cellsFrom_some _ _ _ (.inl e)⟩
  · refine wpAny_mono (body w s₀ s₁ { s₁ with heap := h₁, toks := tk } mg mb fa o pm cd doc a vs ns G Y ho (fd_plain hd) hcd hmg hobj hints hlen hg rfl F X) (fun f s' hq => ?_) (fun _ _ hq => hq)
    obtain ⟨rfl, h2, h3, h4⟩ := hq
    exact ⟨.inl ⟨.bool true, .bool true, [], rfl, fun _ => rfl, .bool true, post_true l _, fun _ => ⟨List.Pairwise.nil, fun _ hm => (nomatch hm)⟩⟩, h2, h3, h4⟩

/-! ### rules over ANY heap (no ledger) from facts about the written part K: the library's own take a ledger (News) for what they write -/
section
variable {prog : Program} {w : World} {A : Around} {E : Value → Shared → Prop} {s : Shared} {K : Frag}

/-- a def of the module, or a method (qual 'C.m'), entered: the frame is the next address; cells behind it -/
theorem call_fn {R : Result → Shared → Prop} {name qual : Str} {params : Arguments} {body : List Stmt} {scope : Scope} {dV kV doc pm cdv ct oc : Value} {an od : Option Addr} {osl : Array (Option Value)} {f : Addr} {args : Args} {binds : List (Str × Value)}
    (X : K.In s.heap) (hlim : s.heap.NoLimit) (ho : K.lookup f = some ⟨oc, od, .func (fnOf name qual params body scope dV kV doc pm an cdv ct), osl⟩) (hcd : codeIn K cdv qual = true) (hroom : A.depth < recursionLimit)
    (hbind : BindsTo s (fnOf name qual params body scope dV kV doc pm an cdv ct) args binds)
    (hkind : (binds.all fun y => scope.names.lookup y.1 == some .local || scope.names.lookup y.1 == some .cell) = true)
    (h : ∀ s₁, InCallC s s.heap.objs.size (bindL (envOfC qual scope s.heap.objs.size f cdv).kindOf binds fun _ => none) (cellsFrom (s.heap.objs.size + 1) scope.names [])
        (bindC (envOfC qual scope s.heap.objs.size f cdv).kindOf binds fun _ => none) s₁ →
      wpAny (model prog w) (A.deeper (envOfC qual scope s.heap.objs.size f cdv)) (execs body (envOfC qual scope s.heap.objs.size f cdv))
        (fun fl s' => R (.ok (.ret (match fl with | .ret v => v | _ => .none))) s')
        (fun e s' => wpAny (model prog w) (A.deeper (envOfC qual scope s.heap.objs.size f cdv)) (leaving (envOfC qual scope s.heap.objs.size f cdv) e) (fun _ s'' => R (.error e) s'') (fun e' s'' => R (.error e') s'') s') s₁)
    (hco : scope.isCoroutine = false) (hgen : scope.isGenerator = false) (hk : scope.kind = .function) : codeAny (model prog w) A (.call (.ref f) args) R s := by
  refine codeAny_call_function hroom (X _ _ ho) rfl hco hgen rfl (codeRec_of X hcd) (hbind _ _ _ _ ?_)
  refine wpAny_newFunctionEnv_cells hk (kindsX hkind _) fun env he s₁ x => ?_
  subst he
  exact ⟨hlim.keeps x.toInCall.keep, codeAny_func (h s₁ x)⟩

/-- C(..): dict at size, instance at size + 1, then __init__ -/
theorem make_obj {R : Result → Shared → Prop} {C fI : Addr} {rest : List Value} {kw : List (Str × Value)}
    (X : K.In s.heap) (hm : makesIn K C = true) (hi : findIn K (.ref C) "__init__" = some (some (.ref fI))) (hf : isFn K (.ref fI) = true)
    (h : codeAny (model prog w) (A.under (.builtin "type.__call__" ⟨.ref C :: rest, kw⟩)) (.call (.ref fI) ⟨.ref (s.heap.objs.size + 1) :: rest, kw⟩) (InitBack (s.heap.objs.size + 1) R)
      { s with heap := (s.heap.push emptyDict).push (instObj C s.heap.objs.size) }) : codeAny (model prog w) A (.call (.ref C) ⟨rest, kw⟩) R s := by
  obtain ⟨hh, g, d, t, os⟩ := s
  exact make_core (makes_of X hm) (looks_findIn X hi) (fun self => bind_fn X self (beq_iff_eq.mp hf)) (.inl rfl) h

/-- x.name where the instance's dict holds the name and the class does not -/
theorem get_field {x C : Addr} {ox : Obj} {es : List DictEntry} {n : Nat} {name : Str} {expr : Bool} {v : Value} {Q : Value → Shared → Prop}
    (X : K.In s.heap) (I : PySem.W.InstAt s.heap x ox C (some (dictOf es n))) (hg : plainGet K C name = true) (hh : hasDictIn K C = true) (ha : findIn K (.ref C) name = some none)
    (hl : getL name es = some (some v)) (hv : handedIn v = true) (h : Q v { s with toks := s.toks + 1 }) : wpAny (model prog w) A (getAttr (.ref x) name expr) Q E s :=
  get_value X I (plainGet_of hg).1 (findObj_own hh ha rfl hl) hv h

/-- x.m(..): the method found in the class -/
theorem get_method {x C f : Addr} {ox : Obj} {es : List DictEntry} {n : Nat} {name : Str} {pl : Sem Bool} {Q : Value × List Value → Shared → Prop}
    (X : K.In s.heap) (I : PySem.W.InstAt s.heap x ox C (some (dictOf es n))) (hg : plainGet K C name = true) (hf : findIn K (.ref C) name = some (some (.ref f))) (ht : isFn K (.ref f) = true)
    (hl : getL name es = some none) (h : Q (.ref f, [.ref x]) s) : wpAny (model prog w) A (getMethod (.ref x) name pl) Q E s :=
  method_fn X I (plainGet_of hg).1 (plainGet_of hg).2 hf (beq_iff_eq.mp ht) (by show (lookIn name (dictOf es n)).map _ = _; rw [lookIn_dict, hl]; rfl) h

/-! the whole heap as the ledger: makes every rule that writes through a ledger a rule over any heap -/
def noObjs (h : Heap) : Heap := { h with objs := #[] }
theorem noObjs_get (h : Heap) (b : Addr) : (noObjs h).get? b = none := by
  cases e : (noObjs h).get? b with
  | none => rfl
  | some o => exact absurd (Heap.lt_size e) (Nat.not_lt_zero _)
def ledger (h : Heap) (L d : Addr) : List (Addr × Obj) := (List.range h.objs.size).filterMap fun a => if a = L ∨ a = d then none else (h.get? a).map fun o => (a, o)
theorem mem_ledger {h : Heap} {L d a : Addr} {o : Obj} : (a, o) ∈ ledger h L d ↔ a ≠ L ∧ a ≠ d ∧ h.get? a = some o := by
  unfold ledger
  rw [List.mem_filterMap]
  constructor
  · rintro ⟨b, _, e⟩
    split at e
    · cases e
    · rename_i hb
      obtain ⟨o', ho, e'⟩ := Option.map_eq_some_iff.mp e
      cases e'
      exact ⟨fun q => hb (.inl q), fun q => hb (.inr q), ho⟩
  · rintro ⟨n1, n2, ho⟩
    refine ⟨a, List.mem_range.mpr (Heap.lt_size ho), ?_⟩
    rw [if_neg (show ¬ (a = L ∨ a = d) from fun q => q.elim n1 n2), ho] <;> rfl
theorem news_ledger {h : Heap} {L d : Addr} {od : Obj} (hne : d ≠ L) (ho : h.get? d = some od) : News (noObjs h) L h ([] ++ (d, od) :: ledger h L d) := by
  rintro ⟨a, o⟩ hp
  rcases List.mem_cons.mp hp with e | hp
  · cases e
    exact ⟨ho, hne, noObjs_get _ _⟩
  · obtain ⟨n1, n2, e⟩ := mem_ledger.mp hp
    exact ⟨e, n1, noObjs_get _ _⟩
theorem fr_all {h : Heap} {L : Addr} {m : Str → Option Value} (n : h.Ns L m) : Fr (noObjs h) L h m :=
  ⟨n, fun b o e => (by rw [noObjs_get] at e; cases e), Nat.zero_le _⟩
/-- Upd of the head entry (for append_K, setItem_K ..) -/
theorem upd_ledger {h : Heap} {L d : Addr} {o o' : Obj} : Upd d o o' ((d, o) :: ledger h L d) ((d, o') :: ledger h L d) :=
  .head fun ⟨_, _⟩ hp => (mem_ledger.mp hp).2.1

/-- x.name = v over any heap: L is any namespace of the heap (the frame's, say): its map stays, its object is not told; all else but the dict stays -/
theorem set_field {x C dx L : Addr} {ox : Obj} {m : Str → Option Value} {es es' : List DictEntry} {n n' : Nat} {name : Str} {v : Value} {Q : Unit → Shared → Prop}
    (X : K.In s.heap) (I : PySem.W.InstAt s.heap x ox C (some (dictOf es n))) (hd : ox.dict = some dx) (hL : s.heap.Ns L m) (hne : dx ≠ L)
    (hs : findIn K (.ref C) "__setattr__" = some (some (.builtin "object.__setattr__"))) (hp : plainOver K C = true) (ht : takerIn K C name = some none) (hh : hasDictIn K C = true) (hl : (getL name es).isSome = true)
    (e : (putL name (PyData.keyHash w.params name) (.str name (s.toks + 1)) v es, putN name es n) = (es', n')) (hz : es'.length ≤ 1000)
    (h : ∀ h' : Heap, h'.Ns L m → h'.get? dx = some (dictOf es' n') → (∀ b o, b ≠ dx → b ≠ L → s.heap.get? b = some o → h'.get? b = some o) → Q () { s with heap := h', toks := s.toks + 2 }) :
    wpAny (model prog w) A (setAttr (.ref x) name v) Q E s := by
  obtain ⟨e1, e2⟩ := Prod.mk.inj e
  have hdx : s.heap.get? dx = some (dictOf es n) := by
    have := I.dict
    rw [hd] at this
    exact this
  refine set_plain X I hs (osa_dict (s := { s with toks := s.toks + 1 }) (h₀ := noObjs s.heap) (L := L) (m := m) (od := dictOf es n) (od' := dictOf es' n') (es := es') (n := n') (pre := []) (post := ledger s.heap L dx)
    (fr_all hL) (news_ledger hne hdx) X I hd hp ht hh hl (fun _ q => nomatch q) (fun ⟨_, _⟩ q => (mem_ledger.mp q).2.1) (by rw [putName_dict, e1, e2]) rfl hz fun h' F' N' => ?_)
  exact h h' F'.ns (N'.get (List.Mem.head _)) fun b o n1 n2 ho => N'.get (List.Mem.tail _ (mem_ledger.mpr ⟨n2, n1, ho⟩))
end
end Att

namespace L2
open PySem PySem.Spec PyProof.Rows

theorem vals_ints : ∀ {vs : List Value} {ns : List Int}, IntsAre vs ns → Vals (ns.map V.int) vs
  | _, _, .nil => .nil
  | _, _, .cons n t h => .cons ⟨t, rfl⟩ (vals_ints h)

/-- nothing is tracked but the script, known to the object (or it is an object of the module) -/
def Only (H : Hp) : Prop := ∀ b, H b = none ∨ ∃ o xs, H b = some (.frz o (.lst xs))

/-- THE HEAD: the law's promise, at the heap behind the top. F, the promise of the law's def, may use that base is part of the heap (so K.In base, base.Ns mainGlobals mg stand in Mod) -/
theorem law_call {P : Program} {w : World} {K : PySem.W.Frag} {mg mb : Str → Option Value} {CX : CXT} {k : Nat} {fa a : Addr} {fd : FuncData} {x : Str} {sp : Sp} {s₁ : Shared} {vs : List Value} {ns : List Int}
    (KX : K.In s₁.heap) (hns : s₁.heap.Ns mainGlobals mg) (hb : s₁.heap.Ns builtinsNs mb) (hbb : ∀ x : Str, x ≠ "__name__" → mb x = bootBuiltins x) (hlim : s₁.heap.NoLimit) (hg : s₁.gens = #[])
    (ha : s₁.heap.get? a = some { cls := .type "list", data := .seq vs.toArray }) (hi : IntsAre vs ns) (hl : ns.length ≤ sizeLine) (hr : Room k callerA)
    (F : ∀ base : Heap, K.In base → base.Ns mainGlobals mg → FnOk P w K mg base CX k fa fd [x] sp) (hbind : ∀ (s : Shared) (u : Value), BindsTo s fd ⟨[u], []⟩ [(x, u)])
    (hsp : ∀ H : Hp, Only H → SqL K H a (ns.map V.int) → sp [.ref a] H (fun v _ => v = .bl true) fun _ _ _ => False)
    (hCX : ∀ H e s', CX [] H s₁ (fun _ _ _ => False) e s' → False) :
    codeAny (model P w) callerA (.call (.ref fa) ⟨[.ref a], []⟩) (fun r s' => r = .ok (.ret (.bool true)) ∧ OldK s₁.heap s'.heap ∧ s'.os = s₁.os ∧ AllBare s'.gens) s₁ := by
  have rv := vals_ints hi
  have lenV := hi.length
  -- from an abstract heap in which nothing but the script may be tracked
  have core : ∀ H : Hp, Only H → SqL K H a (ns.map V.int) → HOk P w H s₁.heap → (∀ b, H b ≠ none → b = a) → (H a ≠ none → K.lookup a = none) →
      codeAny (model P w) callerA (.call (.ref fa) ⟨[.ref a], []⟩) (fun r s' => r = .ok (.ret (.bool true)) ∧ OldK s₁.heap s'.heap ∧ s'.os = s₁.os ∧ AllBare s'.gens) s₁ := by
    intro H hO hS hok hA hK
    have base_of : ∀ {b : Addr} {o : Obj}, s₁.heap.get? b = some o → H b = none → (hidT s₁.heap H).get? b = some o := fun e n => hidT_get e n
    have noA : ∀ {b : Addr} {o : Obj} {es : Array DictEntry} {ep : Nat}, s₁.heap.get? b = some o → o.data = .dict es ep → H b = none := fun {b o es ep} e d => by
      cases q : H b with
      | none => rfl
      | some u =>
        have e' : b = a := hA b (by rw [q]; simp)
        subst e'
        rw [ha] at e; cases e
        have d' : Data.seq vs.toArray _ = Data.dict es ep := d
        cases d'
    have nsK : ∀ {b : Addr} {m : Str → Option Value}, s₁.heap.Ns b m → (hidT s₁.heap H).Ns b m := fun {b m} ⟨o, es, ep, e, d, r⟩ => ⟨o, es, ep, base_of e (noA e d), d, r⟩
    have hKb : K.In (hidT s₁.heap H) := fun b o e => base_of (KX b o e) (by
      cases q : H b with
      | none => rfl
      | some u =>
        have e' : b = a := hA b (by rw [q]; simp)
        subst e'
        rw [hK (by rw [q]; simp)] at e; cases e)
    have hM : Mod K mg (hidT s₁.heap H) := ⟨hKb, nsK hns, ⟨mb, nsK hb, hbb⟩, let ⟨mc, h1, h2⟩ := hlim; ⟨mc, nsK h1, h2⟩⟩
    have e0 : Env0 P w K mg (hidT s₁.heap H) callerA [] s₁ H := ⟨rfl, hM, fun b o e => of_hidT e, Nat.le_of_eq (hidT_size _ _), trivial, fun b hb => absurd (show b ∈ ([] : List Addr) from hb) (by simp), hok, .of_eq hg⟩
    refine codeAny_mono ((F _ hKb (nsK hns)).run callerA [] s₁ H ⟨[.ref a], []⟩ [.ref a] [.ref a] _ _ hr e0 (hbind s₁ (.ref a)) (.cons rfl .nil) (hsp H hO hS)) fun r s' h => ?_
    cases r with
    | error e => exact (hCX H e s' h).elim
    | ok fl =>
      cases fl with
      | next => exact False.elim h
      | brk => exact False.elim h
      | cont => exact False.elim h
      | ret u =>
        obtain ⟨v, H', os, bare, un, hok', r', q⟩ := h
        have q' : v = .bl true := q
        subst q'
        obtain rfl : u = Value.bool true := r'
        refine ⟨rfl, OldK.of_keep fun b o e => ?_, os, bare⟩
        cases q : H b with
        | none => exact un.keep b o e q (by intro z; exact absurd (show b ∈ ([] : List Addr) from z) (by simp)) (by simp)
        | some u =>
          rcases hO b with z | ⟨ob, xs, z⟩
          · rw [q] at z; cases z
          · have z2 := un.frzs b ob _ z
            obtain ⟨e1, _⟩ := hok b _ z
            obtain ⟨e2, _⟩ := hok' b _ z2
            rw [e] at e1; cases e1
            exact e2
  cases hk : K.lookup a with
  | some o =>
    -- the script is one of the module's own objects
    have e := KX a o hk
    rw [ha] at e
    cases e
    refine core (fun _ => none) (fun _ => .inl rfl) (.inr ⟨_, vs.toArray, _, hk, rfl, rfl, rfl, by rw [List.size_toArray, lenV]; exact hl, by simpa using rv⟩) (fun b u z => by have z' : (none : Option HO) = some u := z; cases z') (fun b z => absurd rfl z) fun z => absurd rfl z
  | none =>
    refine core (fun b => if b = a then some (.frz { cls := .type "list", data := .seq vs.toArray } (.lst (ns.map V.int))) else none) (fun b => ?_) (.inl (.inr ⟨{ cls := .type "list", data := .seq vs.toArray }, if_pos rfl⟩)) (fun b u z => ?_) (fun b z => ?_) fun _ => hk
    · by_cases hb : b = a
      · exact .inr ⟨_, _, if_pos hb⟩
      · exact .inl (if_neg hb)
    · by_cases hb : b = a
      · have z' := (if_pos hb).symm.trans z
        cases z'
        subst hb
        exact ⟨ha, by rw [List.length_map]; exact hl, vs, _, rv, ha⟩
      · have z' := (if_neg hb).symm.trans z
        cases z'
    · by_cases hb : b = a
      · exact hb
      · exact absurd (if_neg hb) z
end L2

namespace L2
open PySem PySem.Spec PyProof.Rows

abbrev KOf {K : PySem.W.Frag} {h : Heap} (_ : K.In h) : PySem.W.Frag := K

/-- the goal that k_head leaves (case hc), from the law's promise. F gives the function object fd (K's own) once, then the promise over every base -/
theorem walk_of {l : PySem.W.OpenLaw} {n k : Nat} {q : Program} {loose : List Str} {XP : (Str → Option Value) → Heap → Prop} {YP : World → Heap → Prop} {d : DefRec} {K : Params → PySem.W.Frag} {CX : World → CXT} {sp : World → Sp} {x : Str}
    (hn : l.most = some n) (hn2 : n ≤ sizeLine) (hdf : d.params.defaults = []) (hr : Room k callerA)
    (hY : ∀ (w : World) (h : Heap), YP w h → (K w.params).In h)
    (F : ∀ (w : World) (mg : Str → Option Value) (fa : Addr) (h : Heap), (K w.params).In h → h.Ns mainGlobals mg → mg d.name = some (.ref fa) →
      ∃ fd : FuncData, (∀ (s : Shared) (u : Value), BindsTo s fd ⟨[u], []⟩ [(x, u)]) ∧
        ∀ base : Heap, (K w.params).In base → base.Ns mainGlobals mg → FnOk l.prog w (K w.params) mg base (CX w) k fa fd [x] (sp w))
    (hsp : ∀ (w : World) (H : Hp) (a : Addr) (ns : List Int), ns.length ≤ n → Only H → SqL (K w.params) H a (ns.map V.int) → sp w [.ref a] H (fun v _ => v = .bl true) fun _ _ _ => False)
    (hCX : ∀ (w : World) (H : Hp) (s : Shared) (e : Value) (s' : Shared), CX w [] H s (fun _ _ _ => False) e s' → False) :
    PySem.W.WalkO q loose XP YP l.row.toRowW d [] (fun f vs => PySem.call f vs) := by
  refine Att.attach_call hn hdf fun w s₀ s₁ mg mb fa o pm cd doc a vs ns G Y ho hd hcd hmg hobj hints hlen hg => ?_
  have KX := hY w _ Y
  obtain ⟨fd, hb, hF⟩ := F w mg fa _ KX G.T.g hmg
  exact law_call KX G.T.g G.T.b G.T.builtins G.T.nolimit hg hobj hints (Nat.le_trans hlen hn2) hr hF hb (fun H hO hS => hsp w H a ns hlen hO hS) fun H e s' => hCX w H s₁ e s'
/-- the same where the promise hangs on the written part alone: (sp := My.sp_law), no hole under a binder -/
theorem walk_ofK {l : PySem.W.OpenLaw} {n k : Nat} {q : Program} {loose : List Str} {XP : (Str → Option Value) → Heap → Prop} {YP : World → Heap → Prop} {d : DefRec} {K : Params → PySem.W.Frag} {CX : CXT} {sp : PySem.W.Frag → Sp} {x : Str}
    (hn : l.most = some n) (hn2 : n ≤ sizeLine) (hdf : d.params.defaults = []) (hr : Room k callerA)
    (hY : ∀ (w : World) (h : Heap), YP w h → (K w.params).In h)
    (F : ∀ (w : World) (mg : Str → Option Value) (fa : Addr) (h : Heap), (K w.params).In h → h.Ns mainGlobals mg → mg d.name = some (.ref fa) →
      ∃ fd : FuncData, (∀ (s : Shared) (u : Value), BindsTo s fd ⟨[u], []⟩ [(x, u)]) ∧
        ∀ base : Heap, (K w.params).In base → base.Ns mainGlobals mg → FnOk l.prog w (K w.params) mg base CX k fa fd [x] (sp (K w.params)))
    (hsp : ∀ (K : PySem.W.Frag) (H : Hp) (a : Addr) (ns : List Int), ns.length ≤ n → Only H → SqL K H a (ns.map V.int) → sp K [.ref a] H (fun v _ => v = .bl true) fun _ _ _ => False)
    (hCX : ∀ (H : Hp) (s : Shared) (e : Value) (s' : Shared), CX [] H s (fun _ _ _ => False) e s' → False) :
    PySem.W.WalkO q loose XP YP l.row.toRowW d [] (fun f vs => PySem.call f vs) :=
  walk_of (K := K) (CX := fun _ => CX) (sp := fun w => sp (K w.params)) hn hn2 hdf hr hY F (fun w H a ns h1 h2 h3 => hsp (K w.params) H a ns h1 h2 h3) fun _ H s e s' => hCX H s e s'
end L2

/- THE LAST THEOREM (shape; LID, My.* are yours):
   My.Adr: a structure of the addresses that your layer names (classes, functions); My.Txt K t: a structure (Prop) of the equations over K;
   My.txt_mk : {K} {implicit addresses ..} (e1 : nsIn K mainGlobals "law" = some (some (.ref f))) (e2 : K.lookup f = some ⟨oc, od, .func (fnOf "law" "law" params body scope dV kV doc pm an cdv ct), sl⟩) (e3 : codeIn K cdv "law" = true) .. : ∃ t, My.Txt K t

set_option maxRecDepth 100000 in
set_option maxHeartbeats 0 in
theorem PySem.Challenge.cw_LID_holds : PySem.Challenge.rw_LID.Holds := by
  w_on; o_law; k_head; (case hw => w_witness2)
  k_fill
  refine L2.walk_of (l := PySem.Challenge.rw_LID) (n := 63) (k := 40) (x := "script") (CX := fun w => ..) (sp := fun _ => My.sp_law) rfl (by decide) rfl ⟨rfl, by decide, by decide⟩ (fun w h Y => PySem.W.kIn_of Y) ?F ?S ?C
  case F =>
    intro w mg fa h KX G hmg
    have T : ∃ t, My.Txt (L2.KOf KX) t := by
      dsimp only [L2.KOf]                          -- K must stand as «<heap const> w.params» for k_is
      refine' My.txt_mk ?e1 ?e2 ?e3 ..
      (case e1 => PySem.W.k_is)                    -- in the order: a name -> its address -> its object -> its parts
      (case e2 => PySem.W.k_is)
      ..
    obtain ⟨t, T⟩ := T
    have e0 := hmg.symm.trans (PySem.W.mg_of KX G T.law)
    cases e0                                       -- fa is the law's own address
    exact ⟨_, fun s u => .of_eq rfl, fun base kb nb => My.law_fn T kb nb⟩     -- if «.of_eq rfl» comes too early: refine' ⟨_, ?b, fun base kb nb => My.law_fn T kb nb⟩; exact fun s u => .of_eq rfl
  case S => exact fun w H a ns hl hO hS => ..
  case C => exact ..
(the tactic k_is has no namespace: write k_is) -/

/-! SHORT WORDS over the layer: a def of the text, its body, what a loop and a test want. -/
namespace L2
open PySem PySem.Spec PyProof.Rows

/-! ### the text by places -/
/-- the j-th statement of a class's body -/
def inClass (s : Stmt) (j : Nat) : Stmt := match s with
  | .ClassDef _ _ _ body _ _ _ _ _ _ _ => body.getD j (.Pass ⟨0, 0, 0, 0⟩)
  | _ => .Pass ⟨0, 0, 0, 0⟩
def defArgs (s : Stmt) : Arguments := match s with
  | .FunctionDef _ a _ _ _ _ _ _ _ _ => a
  | _ => { posonlyargs := [], args := [], vararg := none, kwonlyargs := [], kw_defaults := [], kwarg := none, defaults := [] }
def defBody (s : Stmt) : List Stmt := match s with
  | .FunctionDef _ _ b _ _ _ _ _ _ _ => b
  | _ => []
def defScope (s : Stmt) : Scope := match s with
  | .FunctionDef _ _ _ _ _ _ sc _ _ _ => sc
  | _ => { kind := .function, names := [], isGenerator := false, isCoroutine := false }

/-! ### no exception leaves a def -/
abbrev CX0 : CXT := fun _ _ _ _ _ _ => False
abbrev E0 : XK := fun _ _ _ => False
theorem pass0 {X : Cx} : Passes CX0 X E0 := fun _ _ _ _ _ _ _ h => h.elim

/-! ### a def (or method) of the text as it stands behind the top -/
structure Fun (K : PySem.W.Frag) (x qual : Str) (st : Stmt) (f : Addr) (fd : FuncData) : Prop where
  ex : ∃ (oc : Value) (od : Option Addr) (kV doc pm : Value) (an : Option Addr) (cdv ct : Value) (osl : Array (Option Value)),
    fd = PySem.W.fnOf x qual (defArgs st) (defBody st) (defScope st) .none kV doc pm an cdv ct ∧ K.lookup f = some ⟨oc, od, .func fd, osl⟩ ∧ PySem.W.codeIn K cdv qual = true
  kp : PySem.W.keepIn K (.ref f) = true
section
variable {P : Program} {w : World} {K : PySem.W.Frag} {mg : Str → Option Value} {base : Heap}
/-- THE RULE for a def: its body as a term of rules, and the reading of that term -/
theorem Fun.ok {x qual : Str} {st : Stmt} {f : Addr} {fd : FuncData} {N ps : List Str} {k : Nat} {sp : Sp} (F : Fun K x qual st f fd) (S : FnScope N ps (defScope st)) (len : ∀ vs H Q E, sp vs H Q E → vs.length = ps.length)
    (hbody : ∀ (cdv : Value) (A : Around) (outer : List Env) (s : Shared) (H : Hp) (vs : List V) (Q : VK) (E : XK), Room k (A.deeper (envOfC qual (defScope st) s.heap.objs.size f cdv)) → sp vs H Q E →
      ∃ t, PSs (cxOf CX0 P w K mg base N qual (defScope st) f cdv A outer s H E).nox (defBody st) t ∧ t { nx := fun _ H' => Q .non H', rt := Q } (start N vs) H) : FnOk P w K mg base CX0 (k + 1) f fd ps sp := by
  obtain ⟨oc, od, kV, doc, pm, an, cdv, ct, osl, rfl, lk, hcd⟩ := F.ex
  refine fn_of lk hcd S len fun A outer s H vs Q E hr hsp => ?_
  obtain ⟨t, h, q⟩ := hbody cdv A outer s H vs Q E hr hsp
  exact ⟨t, h.nox, q⟩
/-- how its arguments bind (no defaults): h is «fun _ _ _ _ _ _ us hl => match us, hl with | [_, _], _ => rfl», one _ a parameter -/
theorem Fun.binds {x qual : Str} {st : Stmt} {f : Addr} {fd : FuncData} {ps : List Str} (F : Fun K x qual st f fd)
    (h : ∀ (kV doc pm : Value) (an : Option Addr) (cdv ct : Value) (us : List Value), us.length = ps.length → bindArgs (PySem.W.fnOf x qual (defArgs st) (defBody st) (defScope st) .none kV doc pm an cdv ct) ⟨us, []⟩ = pure (ps.zip us)) : Binds K fd ps [] := by
  obtain ⟨oc, od, kV, doc, pm, an, cdv, ct, osl, rfl, lk, hcd⟩ := F.ex
  exact .all (h kV doc pm an cdv ct)
theorem fun_mk {x qual : Str} {st : Stmt} {f : Addr} {oc : Value} {od an : Option Addr} {osl : Array (Option Value)} {kV doc pm cdv ct : Value} (l : K.lookup f = some ⟨oc, od, .func (PySem.W.fnOf x qual (defArgs st) (defBody st) (defScope st) .none kV doc pm an cdv ct), osl⟩)
    (c : PySem.W.codeIn K cdv qual = true) (k : PySem.W.keepIn K (.ref f) = true) : Fun K x qual st f (PySem.W.fnOf x qual (defArgs st) (defBody st) (defScope st) .none kV doc pm an cdv ct) := ⟨⟨oc, od, kV, doc, pm, an, cdv, ct, osl, rfl, l, c⟩, k⟩
end
theorem hu_of {A : Around} {k : Nat} (hr : Room k A) : A.units + 1 < cLine := Nat.lt_of_le_of_lt (Nat.add_le_add_left (by decide : 1 ≤ 64) _) hr.units
theorem small1000 {n : Nat} (h : n ≤ 1000) : n < sizeLine := Nat.lt_of_le_of_lt h (by decide)

/-! ### expressions in short: the name that stands in the i-th slot -/
section
variable {X : Cx}
theorem pv (i : Nat) {x : Str} {pos : Pos} (hN : X.N[i]? = some x := by rfl) (hv : Vis X.env.scope x := by first | exact Or.inl rfl | exact Or.inr (Or.inl rfl) | exact Or.inr (Or.inr rfl)) (hd : (x == ("__debug__" : Str)) = false := by decide)
    (hcd : (x == ("__classdict__" : Str)) = false := by decide) : PE X (.Name x pos) (tVar i) := pe_var hN hv hd hcd
end

/-! ### tests -/
theorem iteF {A B : Prop} (h : B) : if false = true then A else B := by
  rw [if_neg Bool.false_ne_true]
  exact h
theorem iteT {A B : Prop} (h : A) : if true = true then A else B := by
  rw [if_pos rfl]
  exact h
theorem ite2 {c A B : Prop} [Decidable c] (h1 : c → A) (h2 : ¬ c → B) : if c then A else B := by
  by_cases h : c
  · rw [if_pos h]
    exact h1 h
  · rw [if_neg h]
    exact h2 h
theorem iteNS {c A B : Prop} [Decidable c] (hc : c) (h : B) : if (!decide c) = true then A else B := by
  rw [decide_eq_true hc]
  exact iteF h

/-! ### heaps -/
/-- all that was tracked is as it was -/
def Same (H H' : Hp) : Prop := ∀ b o, H b = some o → H' b = some o
theorem Same.refl (H : Hp) : Same H H := fun _ _ h => h
theorem Same.trans {H H1 H2 : Hp} (a : Same H H1) (b : Same H1 H2) : Same H H2 := fun c o h => b c o (a c o h)
theorem Same.free {H H' : Hp} (e : Same H H') {l : Addr} (h : H' l = Option.none) : H l = Option.none := by
  cases q : H l with
  | none => rfl
  | some o =>
    rw [e l o q] at h
    cases h
theorem Same.seq {K : PySem.W.Frag} {H H' : Hp} {a : Addr} {xs : List V} (e : Same H H') (h : SqL K H a xs) : SqL K H' a xs := by
  rcases h with (h | ⟨o, h⟩) | h
  · exact .inl (.inl (e _ _ h))
  · exact .inl (.inr ⟨o, e _ _ h⟩)
  · exact .inr h

end L2

/-! OWN PART 1: a comprehension's block as a reading, all(..), isinstance(..), == of lists. -/
namespace L2
open PySem PySem.Spec PyProof.Rows

/-- the cells of a block's free names -/
def closOf (cells : List (Str × Addr)) : List (Str × NameKind) → List (Str × Addr) → List (Str × Addr)
  | [], cs => cs
  | (n, k) :: r, cs => closOf cells r (if (k == .free) = true then (match cells.lookup n with | some a => (n, a) :: cs | none => cs) else cs)
theorem closOf_good {cells : List (Str × Addr)} : ∀ (names : List (Str × NameKind)) (cs : List (Str × Addr)), (∀ x c, cs.lookup x = some c → cells.lookup x = some c) →
    ∀ x c, (closOf cells names cs).lookup x = some c → cells.lookup x = some c
  | [], _, h => h
  | (n, k) :: r, cs, h => by
    refine closOf_good r _ fun x c e => ?_
    split at e
    · split at e
      · rename_i a ha
        rw [List.lookup_cons] at e
        split at e
        · rename_i hx
          have hx' : x = n := by simpa using hx
          subst hx'
          cases e
          exact ha
        · exact h x c e
      · exact h x c e
    · exact h x c e
theorem closOf_keep {cells : List (Str × Addr)} : ∀ (names : List (Str × NameKind)) (cs : List (Str × Addr)) (x : Str), (cs.lookup x).isSome = true → ((closOf cells names cs).lookup x).isSome = true
  | [], _, _, h => h
  | (n, k) :: r, cs, x, h => by
    refine closOf_keep r _ x ?_
    split
    · split
      · rw [List.lookup_cons]
        split
        · rfl
        · exact h
      · exact h
    · exact h
theorem closOf_has {cells : List (Str × Addr)} : ∀ (names : List (Str × NameKind)) (cs : List (Str × Addr)) (x : Str), (x, NameKind.free) ∈ names → (cells.lookup x).isSome = true → ((closOf cells names cs).lookup x).isSome = true
  | [], _, _, h, _ => by cases h
  | (n, k) :: r, cs, x, h, hc => by
    rcases List.mem_cons.mp h with e | h
    · cases e
      refine closOf_keep r _ _ ?_
      obtain ⟨a, ha⟩ := Option.isSome_iff_exists.mp hc
      rw [if_pos (by rfl), ha]
      simp
    · exact closOf_has r _ x h hc
theorem closureFor_eq {scope : Scope} {env : Env} (h : ∀ x ∈ scope.names, x.2 = .free → ∃ c, env.cells.lookup x.1 = some c) : closureFor scope env = pure (closOf env.cells scope.names []) := by
  have key : ∀ (l : List (Str × NameKind)) (cs : List (Str × Addr)), (∀ x ∈ l, x.2 = .free → ∃ c, env.cells.lookup x.1 = some c) →
      (forIn l cs fun (x : Str × NameKind) (r : List (Str × Addr)) => (match x with | (name, kind) => if (kind == NameKind.free) = true then (do let a ← cellOf env name; pure (ForInStep.yield ((name, a) :: r)) : Sem (ForInStep (List (Str × Addr)))) else pure (ForInStep.yield r))) = (pure (closOf env.cells l cs) : Sem (List (Str × Addr))) := by
    intro l
    induction l with
    | nil => intro cs _; rfl
    | cons x r ih =>
      intro cs hx
      obtain ⟨n, k⟩ := x
      have ih' := fun cs => ih cs fun y hy => hx y (List.mem_cons_of_mem _ hy)
      rw [List.forIn_cons]
      unfold closOf
      by_cases hk : (k == NameKind.free) = true
      · obtain ⟨c, hc⟩ := hx (n, k) List.mem_cons_self (by simpa using hk)
        dsimp only at hc
        simp only [hk, if_true, cellOf, hc]
        exact ih' _
      · simp only [hk, Bool.false_eq_true, if_false]
        exact ih' _
  have e := key scope.names [] h
  show (do let r ← forIn scope.names [] _; pure r) = _
  refine Eq.trans (congrArg (fun m : Sem (List (Str × Addr)) => m >>= fun r => pure r) e) ?_
  rfl

theorem lookup_relabel {env : Env} : ∀ {names : List (Str × NameKind)} {x : Str}, (∀ y ∈ names, y.2 ≠ NameKind.cell) →
    (names.map fun (n, k) => if (k == NameKind.free && env.scope.kind == .function && env.kindOf n == some .cell) then (n, NameKind.cell) else (n, k)).lookup x = some .cell ∨
    (names.map fun (n, k) => if (k == NameKind.free && env.scope.kind == .function && env.kindOf n == some .cell) then (n, NameKind.cell) else (n, k)).lookup x = some .free → names.lookup x = some .free
  | [], _, _, h => by simp at h
  | (n, k) :: r, x, hn, h => by
    have ih := @lookup_relabel env r x fun y hy => hn y (List.mem_cons_of_mem _ hy)
    have hk : k ≠ NameKind.cell := hn (n, k) List.mem_cons_self
    by_cases hx : (x == n) = true
    · simp only [List.map_cons, List.lookup_cons] at h ⊢
      simp only [hx]
      by_cases hc : (k == NameKind.free && env.scope.kind == .function && env.kindOf n == some .cell) = true
      · have : k = NameKind.free := by
          simp only [Bool.and_eq_true] at hc
          simpa using hc.1.1
        rw [this]
      · simp only [hc, List.lookup_cons, Bool.false_eq_true, if_false, hx] at h
        rcases h with h | h
        · exact absurd (Option.some.inj h) hk
        · exact h
    · have hx' : (x == n) = false := by simpa using hx
      simp only [List.map_cons, List.lookup_cons] at h ⊢
      simp only [hx']
      refine ih ?_
      by_cases hc : (k == NameKind.free && env.scope.kind == .function && env.kindOf n == some .cell) = true
      · simpa only [hc, List.lookup_cons, if_true, hx'] using h
      · simpa only [hc, List.lookup_cons, Bool.false_eq_true, if_false, hx'] using h
theorem lookup_relabel_free {env : Env} : ∀ {names : List (Str × NameKind)} {x : Str}, names.lookup x = some .free →
    (names.map fun (n, k) => if (k == NameKind.free && env.scope.kind == .function && env.kindOf n == some .cell) then (n, NameKind.cell) else (n, k)).lookup x = some .cell ∨
    (names.map fun (n, k) => if (k == NameKind.free && env.scope.kind == .function && env.kindOf n == some .cell) then (n, NameKind.cell) else (n, k)).lookup x = some .free
  | [], _, h => by simp at h
  | (n, k) :: r, x, h => by
    have ih := @lookup_relabel_free env r x
    by_cases hx : (x == n) = true
    · simp only [List.lookup_cons, hx] at h
      simp only [List.map_cons, List.lookup_cons]
      by_cases hc : (k == NameKind.free && env.scope.kind == .function && env.kindOf n == some .cell) = true
      · simp only [hc, List.lookup_cons, if_true, hx]
        exact .inl trivial
      · simp only [hc, List.lookup_cons, Bool.false_eq_true, if_false, hx]
        exact .inr h
    · have hx' : (x == n) = false := by simpa using hx
      simp only [List.lookup_cons, hx'] at h
      simp only [List.map_cons, List.lookup_cons]
      by_cases hc : (k == NameKind.free && env.scope.kind == .function && env.kindOf n == some .cell) = true
      · simp only [hc, List.lookup_cons, if_true, hx']
        exact ih h
      · simp only [hc, List.lookup_cons, Bool.false_eq_true, if_false, hx']
        exact ih h

/-- the context of a comprehension's block: its own names N, its map at C -/
abbrev compCx (X : Cx) (scope : Scope) (N : List Str) (C : Addr) (s₃ : Shared) (H₃ : Hp) (fp : List Addr) : Cx where
  prog := X.prog
  w := X.w
  K := X.K
  mg := X.mg
  base := X.base
  A := X.A
  N := N
  s₀ := s₃
  H₀ := H₃
  env := compEnvC scope (closOf X.env.cells scope.names []) C X.env
  outer := X.stack
  stack := X.stack
  ex := fp
  fn := fun _ => false
  calm := X.calm
  pn := []
  xe := fun _ _ => False
/-- the block's names' values at its start: js tells which slot of the def around each free name has -/
def cst (js : List (Option Nat)) (σ : St) : St := js.map fun j => match j with
  | none => none
  | some k => σ.getD k none
def jsOk (M : List Str) (names : List (Str × NameKind)) : List Str → List (Option Nat) → Bool
  | [], [] => true
  | x :: N, j :: js => (match j with
    | none => true
    | some k => M[k]? == some x && names.lookup x == some .free) && jsOk M names N js
  | _, _ => false
theorem jsOk_length {M : List Str} {names : List (Str × NameKind)} : ∀ {N : List Str} {js : List (Option Nat)}, jsOk M names N js = true → js.length = N.length
  | [], [], _ => rfl
  | x :: N, j :: js, h => by
    unfold jsOk at h
    rw [Bool.and_eq_true] at h
    simp [jsOk_length h.2]
  | [], _ :: _, h => by cases h
  | _ :: _, [], h => by cases h
theorem jsOk_get {M : List Str} {names : List (Str × NameKind)} : ∀ {N : List Str} {js : List (Option Nat)}, jsOk M names N js = true → ∀ (i : Nat) (k : Nat) (x : Str), js[i]? = some (some k) → N[i]? = some x → M[k]? = some x ∧ names.lookup x = some .free
  | [], [], _ => fun i k x e _ => by simp at e
  | y :: N, j :: js, h => fun i k x e1 e2 => by
    unfold jsOk at h
    rw [Bool.and_eq_true] at h
    cases i with
    | zero =>
      simp at e1 e2
      subst e1
      subst e2
      have h1 := h.1
      simp only [Bool.and_eq_true] at h1
      exact ⟨by simpa using h1.1, by simpa using h1.2⟩
    | succ i => exact jsOk_get h.2 i k x (by simpa using e1) (by simpa using e2)
  | [], _ :: _, h => by cases h
  | _ :: _, [], h => by cases h
def compOk (M : List Str) (around scope : Scope) (N : List Str) (js : List (Option Nat)) : Bool :=
  (scope.kind == .function) && (scope.names.all fun x => !(x.2 == .cell)) && (scope.names.all fun x => !(x.2 == .local) || scope.names.lookup x.1 == some .local) &&
  (scope.names.all fun x => !(x.2 == .free) || (around.names.lookup x.1 == some .cell || around.names.lookup x.1 == some .free)) && jsOk M scope.names N js
structure CompOk (M : List Str) (around scope : Scope) (N : List Str) (js : List (Option Nat)) : Prop where
  kind : scope.kind = .function
  nocell : ∀ x ∈ scope.names, x.2 ≠ .cell
  locs : ∀ x ∈ scope.names, x.2 = .local → scope.names.lookup x.1 = some .local
  frees : ∀ x ∈ scope.names, x.2 = .free → around.names.lookup x.1 = some .cell ∨ around.names.lookup x.1 = some .free
  js : jsOk M scope.names N js = true
theorem CompOk.of {M : List Str} {around scope : Scope} {N : List Str} {js : List (Option Nat)} (h : compOk M around scope N js = true) : CompOk M around scope N js := by
  unfold compOk at h
  simp only [Bool.and_eq_true, List.all_eq_true] at h
  obtain ⟨⟨⟨⟨h1, h2⟩, h3⟩, h4⟩, h5⟩ := h
  refine ⟨by simpa using h1, fun x hx e => ?_, fun x hx e => ?_, fun x hx e => ?_, h5⟩
  · have := h2 x hx
    rw [e] at this
    cases this
  · have := h3 x hx
    rw [e] at this
    simpa using this
  · have := h4 x hx
    rw [e] at this
    simpa using this
/-- the slots that were known stay known -/
def Ext (σ σ' : St) : Prop := σ.length = σ'.length ∧ ∀ (i : Nat) v, σ[i]? = some (some v) → σ'[i]? = some (some v)
theorem Ext.set {σ : St} {i : Nat} {v : V} (h : σ[i]? = some none) : Ext σ (σ.set i (some v)) := by
  refine ⟨by simp, fun j w e => ?_⟩
  by_cases hj : i = j
  · subst hj
    rw [h] at e
    cases e
  · rw [List.getElem?_set_ne hj]
    exact e
/-- a block's tests -/
def PTs (X : Cx) (ifs : List Expr) (t : TT) : Prop :=
  ∀ (pins : List (Addr × Obj)) (s : Shared) (σ : St) (H : Hp) (Q : Bool → Hp → Prop), Inv X pins σ H s → t σ H Q →
    wpAny (model X.prog X.w) X.A (forIn ifs true fun c r => if r = true then do let ok ← isTrue c X.env (eval c X.env); pure (ForInStep.yield ok) else pure (ForInStep.yield r)) (TP X pins σ Q) X.xe s
def tYes : TT := fun _ H Q => Q true H
theorem pts_nil {X : Cx} : PTs X [] tYes := fun _ _ _ H _ I h => wpAny_pure ⟨H, I, h⟩
theorem pts_one {X : Cx} {c : Expr} {t : TT} (h : PT X c t) : PTs X [c] t := fun pins s σ H Q I hw => by
  simp only [List.forIn_cons, List.forIn_nil, if_true]
  exact wpAny_bind (wpAny_bind (wpAny_mono (h pins s σ H Q I hw) (fun b s' hb => wpAny_pure (wpAny_pure hb)) fun _ _ x => x))
/-- what is to be shown of a block: W the invariant by the turn, a measure, the items so far and the heap; D the new list -/
def tBlock (js : List (Option Nat)) (g : TG) (tc : TT) (te : TE) (σ : St) (R : VK) (J : It) (H1 : Hp) : Prop := ∀ D, H1 D = none → ∃ W : Nat → Nat → List V → Hp → Prop, (∃ m, W 0 m [] (upd H1 D (.lst []))) ∧
  ∀ i m ys H2, W i m ys H2 → H2 D = some (.lst ys) → (J.stop i H2 ∧ R (.ref D) H2) ∨ (J.go i H2 ∧ ∀ x H3, J.yld i H2 x H3 → g x (cst js σ) H3 fun σ2 H4 => Ext (cst js σ) σ2 ∧ tc σ2 H4 fun c H5 =>
    if c = true then te σ2 H5 fun y H6 => H6 D = some (.lst ys) ∧ ys.length < sizeLine ∧ ∃ m', m' < m ∧ W (i + 1) m' (ys ++ [y]) (upd H6 D (.lst (ys ++ [y]))) else H5 D = some (.lst ys) ∧ ∃ m', m' < m ∧ W (i + 1) m' ys H5)
def tComp (js : List (Option Nat)) (wi : TI) (g : TG) (tc : TT) (te : TE) : TE := fun σ H Q => wi σ H fun J H1 => tBlock js g tc te σ Q J H1

section
variable {prog : Program} {w : World} {A : Around} {R : Result → Shared → Prop} {s : Shared}
theorem codeAny_compLoop_go {elt target iter : Expr} {ifs : List Expr} {scope : Scope} {pos : Pos} {it acc : Value} {env : Env} (I : Nat → Shared → Prop)
    (turn : ∀ n s, I n s → wpAny (model prog w) A (pyNext it) (fun r s₁ => match r with
      | none => R (.ok .next) s₁
      | some v => wpAny (model prog w) A (letOwnedTupleGo target it v) (fun _ s₁' => wpAny (model prog w) A (assign target env v) (fun _ s₂ =>
          wpAny (model prog w) A (forIn ifs true fun c r => if r = true then do let ok ← isTrue c env (eval c env); pure (ForInStep.yield ok) else pure (ForInStep.yield r)) (fun ok s₃ =>
            if ok = true then wpAny (model prog w) A (eval elt env) (fun x s₄ =>
              wpAny (model prog w) A (call (.builtin "list.append") [acc, x]) (fun _ s₅ => ∃ m, m < n ∧ I m s₅) (fun _ _ => False) s₄) (fun _ _ => False) s₃
            else ∃ m, m < n ∧ I m s₃) (fun _ _ => False) s₂) (fun _ _ => False) s₁') (fun _ _ => False) s₁) (fun _ _ => False) s)
    (n : Nat) (h : I n s) :
    codeAny (model prog w) A (.compLoop (.ListComp elt [⟨target, iter, ifs, 0⟩] scope pos) 0 it acc env) R s := by
  refine codeAny_loop rfl I (fun n s hI => ?_) n h
  show wpAny _ A ((compTurn (.ListComp elt [⟨target, iter, ifs, 0⟩] scope pos) 0 it acc env).onRaise (fun x => do noteFrame x env; theTreesLotGoes x)) _ _ s
  refine wpAny_noted ?_
  rw [compTurn_list]
  have up : ∀ {α : Type} {t : Sem α} {Q : α → Shared → Prop} {s : Shared}, wpAny (model prog w) A t Q (fun _ _ => False) s →
      wpAny (model prog w) A t Q (notedBy (model prog w) A env fun e s' => R (.error e) s') s := fun h => wpAny_mono h (fun _ _ x => x) fun _ _ z => False.elim z
  refine wpAny_bind (wpAny_standAt (wpAny_bind (wpAny_mono (up (turn n s hI)) (fun r s₁ h₁ => ?_) fun _ _ h' => h')))
  cases r with
  | none => exact wpAny_pure h₁
  | some v =>
    refine wpAny_bind (wpAny_mono (up h₁) (fun _ s₁' h₁' => ?_) fun _ _ h' => h')
    refine wpAny_bind (wpAny_mono (up h₁') (fun _ s₂ h₂ => wpAny_bind (wpAny_mono (up h₂) (fun ok s₃ h₃ => ?_) fun _ _ h' => h')) fun _ _ h' => h')
    cases ok with
    | false => exact wpAny_pure ⟨rfl, h₃⟩
    | true =>
      exact wpAny_bind (wpAny_bind (wpAny_mono (up h₃) (fun x s₄ h₄ => wpAny_bind (wpAny_mono (up h₄) (fun _ s₅ h₅ => wpAny_pure (wpAny_pure ⟨rfl, h₅⟩)) fun _ _ h' => h')) fun _ _ h' => h'))
end

section
variable {X : Cx} {elt iter tg : Expr} {ifs : List Expr} {scope : Scope} {pos cpos : Pos} {N : List Str} {js : List (Option Nat)} {wi : TI} {g : TG} {tc : TT} {te : TE}
theorem comp_run {use : Option (Value → Sem Unit)} (hok : CompOk X.N X.env.scope scope N js) (hc : X.calm = true) (hi : PI X tg iter wi)
    (hg : ∀ C s₃ H₃ fp, PG (compCx X scope N C s₃ H₃ fp) tg g) (ht : ∀ C s₃ H₃ fp, PTs (compCx X scope N C s₃ H₃ fp) ifs tc) (he : ∀ C s₃ H₃ fp, PE (compCx X scope N C s₃ H₃ fp) elt te)
    {pins : List (Addr × Obj)} {s : Shared} {σ : St} {H : Hp} {R : VK} {Q : Value → Shared → Prop} (I : Inv X pins σ H s) (h : tComp js wi g tc te σ H R)
    (hend : ∀ C D s' H', Inv X pins σ H' s' → R (.ref D) H' → (∃ m, s'.heap.Ns C m) → FpOk X pins H' C → compPost (model X.prog X.w) X.A X.xe use Q (.ref D) C (.ok .next) s')
    (hs : ∀ x, foldedSetIterable iter X.env x = pure x := by intro _; rfl) :
    wpAny (model X.prog X.w) X.A (comprehension (.ListComp elt [⟨tg, iter, ifs, 0⟩] scope pos) scope X.env cpos (newList []) false (eval iter X.env) use) Q X.xe s := by
  have hcells : ∀ x ∈ scope.names, x.2 = .free → ∃ c, X.env.cells.lookup x.1 = some c := fun x hx e => I.ok.has x.1 (hok.frees x hx e)
  refine wpAny_comprehension_free (use := use) rfl hs (closureFor_eq hcells) hok.kind hok.locs ?_
  refine thn (hi pins s σ H _ I h) fun xv s1 h1 => thn h1 fun itv s2 h2 => ?_
  obtain ⟨it, fp, tn, J, H2, e, I2, T, st2, f2, hR⟩ := h2
  subst e
  refine wpAny_newObj_type ?_
  obtain ⟨W, ⟨m0, w0⟩, turn⟩ := hR s2.heap.objs.size I2.fresh
  have I3 : Inv X pins σ (upd H2 s2.heap.objs.size (.lst [])) { s2 with heap := s2.heap.push { cls := .type "list", dict := none, data := .seq ([] : List Value).toArray } } := I2.lnew (t' := s2.toks) .nil (Nat.zero_le _)
  have lt2 : ∀ b ∈ fp, b < s2.heap.objs.size := fun b hb => by
    obtain ⟨o, ho, _⟩ := T.obj _ _ st2 b hb
    exact Heap.lt_size ho
  have st3 : tn 0 (s2.heap.push { cls := .type "list", dict := none, data := .seq ([] : List Value).toArray }) := T.keep _ _ _ st2 fun b _ o e => Heap.get?_push_of_some _ e
  have lt3 : ∀ b ∈ fp, b < (s2.heap.push { cls := .type "list", dict := none, data := .seq ([] : List Value).toArray }).objs.size := fun b hb => by
    rw [Heap.size_push]
    exact Nat.lt_succ_of_lt (lt2 b hb)
  have fr3 : ∀ b ∈ fp, upd H2 s2.heap.objs.size (.lst []) b = none := fun b hb => by
    rw [upd_ne (Nat.ne_of_lt (lt2 b hb))]
    exact (f2 b hb).1
  have hD3 : upd H2 s2.heap.objs.size (.lst []) s2.heap.objs.size = some (.lst []) := upd_same
  generalize hs3 : ({ s2 with heap := s2.heap.push { cls := .type "list", dict := none, data := .seq ([] : List Value).toArray } } : Shared) = s3 at I3 ⊢
  have eh3 : s3.heap = s2.heap.push { cls := .type "list", dict := none, data := .seq ([] : List Value).toArray } := by rw [← hs3]
  rw [← eh3] at st3 lt3
  generalize upd H2 s2.heap.objs.size (.lst []) = H3 at I3 w0 fr3 hD3
  generalize s2.heap.objs.size = D at turn hD3 ⊢
  refine wpAny_newFunctionEnv hok.nocell (by intro y hy; simp at hy) (fun h4 ns4 sb4 => ?_) hok.kind
  have old : ∀ b o, s3.heap.get? b = some o → h4.get? b = some o := fun b o e => sb4.extBut b o (Nat.ne_of_lt (Heap.lt_size e)) (Heap.get?_push_of_some _ e)
  have good := closOf_good (cells := X.env.cells) scope.names [] (fun x c e => by simp at e)
  have hasc : ∀ x, scope.names.lookup x = some .free → ∃ c, (closOf X.env.cells scope.names []).lookup x = some c := fun x e => by
    have hm := PySem.mem_of_lookup e
    obtain ⟨c, hc⟩ := hcells _ hm rfl
    exact Option.isSome_iff_exists.mp (closOf_has scope.names [] x hm (by rw [hc]; rfl))
  have I4 : Inv (compCx X scope N s3.heap.objs.size s3 H3 fp) [] (cst js σ) H3 { s3 with heap := h4, toks := s3.toks + ([] : List (Str × Value)).length } := by
    refine ⟨⟨I3.mod, hok.kind, I3.ok.glob, I3.ok.blt, Nat.le_refl _, fun x y c e1 e2 => I3.ok.inj x y c (good x c e1) (good y c e2), fun x hx => hasc x (lookup_relabel hok.nocell hx), (fun x c e => by cases e), I3.ok.hd, I3.ok.frames, .inl rfl, fun b hb => ⟨Nat.ne_of_lt (lt3 b hb), fun x c e => (f2 b hb).2.2.2.2.1 x c (good x c e)⟩,
        fun b o e => I3.bs b o e, Nat.le_trans I3.ok.bsz I3.sz, fun b o e hb => ?_, fun b hb z => ?_, I3.stack, I3.stkFree⟩,
      rfl, I3.bare, Un.kept old, ⟨_, ns4, fun i x v e1 e2 e3 => ?_⟩, fun x c e => ?_, I3.fresh, fun x c e => I3.freeC x c (good x c e), (fun p hp => by cases hp), I3.hok.kept old, ?_⟩
    · rcases (f2 b hb).2.2.2.1 with z | z
      · exact I3.ok.noex b o e z
      · exact absurd (Nat.lt_of_lt_of_le (Heap.lt_size e) (Nat.le_trans I3.ok.bsz z)) (Nat.lt_irrefl _)
    · rcases List.mem_cons.mp (I3.stkSub b z) with z | z
      · exact (f2 b hb).2.1 z
      · exact (f2 b hb).2.2.1 z
    · have e2' : (js.map fun j => match j with | none => (none : Option V) | some k => σ.getD k none)[i]? = some (some v) := e2
      rw [List.getElem?_map] at e2'
      cases ej : js[i]? with
      | none => rw [ej] at e2'; cases e2'
      | some j =>
        rw [ej] at e2'
        cases j with
        | none => cases e2'
        | some k =>
          have eσ : σ.getD k none = some v := Option.some.inj e2'
          obtain ⟨hk, hfr⟩ := jsOk_get hok.js i k x ej e1
          have eσ' : σ[k]? = some (some v) := by
            rw [List.getD_eq_getElem?_getD] at eσ
            cases ek : σ[k]? with
            | none => rw [ek] at eσ; cases eσ
            | some o => rw [ek] at eσ; simp at eσ; rw [eσ]
          have hvis := hok.frees _ (PySem.mem_of_lookup hfr) rfl
          obtain ⟨m, hn, hl⟩ := I3.loc
          obtain ⟨u, r, l⟩ := hl k x v hk eσ' (.inr hvis)
          refine ⟨u, r, .inr ⟨lookup_relabel_free hfr, ?_⟩⟩
          rcases l with ⟨l, _⟩ | ⟨_, c, ec, z⟩
          · rcases hvis with q | q
            · exact absurd (l.symm.trans q) (by decide)
            · exact absurd (l.symm.trans q) (by decide)
          · obtain ⟨c', ec'⟩ := hasc x hfr
            have := good x c' ec'
            rw [ec] at this
            cases this
            exact ⟨c, ec', z.keeps old⟩
    · obtain ⟨v, z⟩ := I3.cell x c (good x c e)
      exact ⟨v, z.keeps old⟩
    · show (js.map _).length = N.length
      rw [List.length_map]
      exact jsOk_length hok.js
  have st4 : tn 0 h4 := T.keep _ _ _ st3 fun b _ o e => old b o e
  have stat : ∀ {H' : Hp}, (∀ b ∈ fp, H' b = none) → ∀ b ∈ fp, FpOk (compCx X scope N s3.heap.objs.size s3 H3 fp) [] H' b := fun hn b hb =>
    ⟨hn b hb, Nat.ne_of_lt (lt3 b hb), fun z => (List.mem_cons.mp (I3.stkSub b z)).elim (f2 b hb).2.1 (f2 b hb).2.2.1, .inl hb, fun x c e => (f2 b hb).2.2.2.2.1 x c (good x c e), (fun p hp => by cases hp)⟩
  have fin : ∀ {i m : Nat} {ys : List V} {H5 : Hp} {s6 : Shared}, Inv (compCx X scope N s3.heap.objs.size s3 H3 fp) [] (cst js σ) H5 s6 → R (.ref D) H5 → compPost (model X.prog X.w) X.A X.xe use Q (.ref D) s3.heap.objs.size (.ok .next) s6 := fun {i m ys H5 s6} I6 q => by
    obtain ⟨m6, hn6, _⟩ := I6.loc
    refine hend _ _ _ H5 (I3.call' I6.os I6.base I6.hok I6.bare fun b hb => ⟨(f2 b hb).2.2.2.1, (f2 b hb).2.1, (f2 b hb).2.2.2.2.1, (f2 b hb).2.2.2.2.2⟩) q ⟨m6, hn6⟩ (I3.fpOk (Nat.le_refl _) I6.free)
  have loop : codeAny (model X.prog X.w) X.A (.compLoop (.ListComp elt [⟨tg, iter, ifs, 0⟩] scope pos) 0 (.ref it) (.ref D) (compCx X scope N s3.heap.objs.size s3 H3 fp).env)
      (compPost (model X.prog X.w) X.A X.xe use Q (.ref D) s3.heap.objs.size) { s3 with heap := h4, toks := s3.toks + ([] : List (Str × Value)).length } := by
    refine codeAny_compLoop_go (fun n s' => ∃ i ys H', Inv (compCx X scope N s3.heap.objs.size s3 H3 fp) [] (cst js σ) H' s' ∧ tn i s'.heap ∧ (∀ b ∈ fp, H' b = none) ∧ H' D = some (.lst ys) ∧ W i n ys H') ?_ m0 ⟨0, [], H3, I4, st4, fr3, hD3, w0⟩
    rintro n s5 ⟨i, ys, H5, I5, st5, fr5, hD5, w5⟩
    rcases turn i n ys H5 w5 hD5 with ⟨stop, q⟩ | ⟨go, step⟩
    · refine thn (T.done (compCx X scope N s3.heap.objs.size s3 H3 fp) rfl rfl rfl hc i [] s5 (cst js σ) H5 _ I5 (stat fr5) st5 stop) fun r s6 ⟨hr, I6⟩ => ?_
      subst hr
      exact fin (i := i) (m := n) (ys := ys) I6 q
    · refine thn (T.item (compCx X scope N s3.heap.objs.size s3 H3 fp) rfl rfl rfl hc i [] s5 (cst js σ) H5 _ I5 (stat fr5) st5 go) fun r s6 ⟨u, hr, h6⟩ => ?_
      subst hr
      refine thn h6 fun _ s7 ⟨x, H7, I7, r7, y7, st7, fr7⟩ => ?_
      have I7' := I7.pinned (stat fr7) (T.obj _ _ st7)
      have again : ∀ {σ8 : St} {H8 : Hp} {s8 : Shared} {zs : List V}, Ext (cst js σ) σ8 → Inv (compCx X scope N s3.heap.objs.size s3 H3 fp) ([] ++ pinsAt fp s7.heap) σ8 H8 s8 → H8 D = some (.lst zs) → (∃ m', m' < n ∧ W (i + 1) m' zs H8) →
          ∃ m, m < n ∧ ∃ i ys H', Inv (compCx X scope N s3.heap.objs.size s3 H3 fp) [] (cst js σ) H' s8 ∧ tn i s8.heap ∧ (∀ b ∈ fp, H' b = none) ∧ H' D = some (.lst ys) ∧ W i m ys H' := fun {σ8 H8 s8 zs} ex I8 hD8 w8 => by
        obtain ⟨m', hm, w8⟩ := w8
        refine ⟨m', hm, i + 1, zs, H8, I8.unpinned.weak ex.1 ex.2, T.keep _ _ _ st7 fun b hb o e => (I8.pin (b, o) (List.mem_append_right _ (List.mem_append_right _ (mem_pinsAt hb e)))).1, fun b hb => ?_, hD8, w8⟩
        obtain ⟨o, e, d⟩ := T.obj _ _ st7 b hb
        exact (I8.pin (b, o) (List.mem_append_right _ (List.mem_append_right _ (mem_pinsAt hb e)))).2.1
      refine thn (hg _ _ _ _ _ s7 (cst js σ) H7 x u _ I7' r7 (step x H7 y7)) fun _ s8 ⟨σ8, H8, I8, ex8, q8⟩ => ?_
      refine thn (ht _ _ _ _ _ s8 σ8 H8 _ I8 q8) fun c s9 ⟨H9, I9, q9⟩ => ?_
      cases c with
      | false =>
        rw [if_neg (by decide)] at q9 ⊢
        exact again ex8 I9 q9.1 q9.2
      | true =>
        rw [if_pos rfl] at q9 ⊢
        refine thn (he _ _ _ _ _ s9 σ8 H9 _ I9 q9) fun y s10 ⟨v10, H10, I10, r10, hD10, hz10, w10⟩ => ?_
        refine thn (mt_append _ s10 σ8 H10 (.ref D) [v10] (.ref D) [y] (fun _ H11 => H11 = upd H10 D (.lst (ys ++ [v10]))) I10 rfl (.cons r10 .nil) ⟨D, ys, v10, rfl, rfl, hD10, hz10, rfl⟩) fun _ s11 ⟨_, H11, I11, _, e11⟩ => ?_
        subst e11
        exact again ex8 I11 upd_same w10
  exact codeAny_compStart_list loop (T.self _ _ _ _ _ st4 loop)
/-- [elt for tg in iter if ..] -/
theorem pe_comp (hok : compOk X.N X.env.scope scope N js = true) (hc : X.calm = true) (hi : PI X tg iter wi)
    (hg : ∀ C s₃ H₃ fp, PG (compCx X scope N C s₃ H₃ fp) tg g) (ht : ∀ C s₃ H₃ fp, PTs (compCx X scope N C s₃ H₃ fp) ifs tc) (he : ∀ C s₃ H₃ fp, PE (compCx X scope N C s₃ H₃ fp) elt te)
    (hs : ∀ x, foldedSetIterable iter X.env x = pure x := by intro _; rfl) : PE X (.ListComp elt [⟨tg, iter, ifs, 0⟩] scope pos) (tComp js wi g tc te) := by
  intro pins s σ H Q I h
  rw [eval_ListComp]
  refine comp_run (use := none) (R := Q) (CompOk.of hok) hc hi hg ht he I h (fun C D s' H' I' q hn hf => ?_) hs
  obtain ⟨m, hn⟩ := hn
  refine ⟨m, hn, fun h' hs' => ⟨.ref D, H', ?_, rfl, q⟩⟩
  exact I'.turned (t' := s'.toks) (it := C) (fun b o hb e => (hs'.2 b hb).trans e) hf.1 hf.2.1 hf.2.2.2.1 hf.2.2.2.2.1 hf.2.2.2.2.2
/-- name = [elt for tg in iter if ..], on one row -/
theorem ps_setC {i : Nat} {x : Str} {pos' spos : Pos} (hN : X.N.Nodup) (hx : X.N[i]? = some x) (hl : X.env.scope.names.lookup x = some .local) (hok : compOk X.N X.env.scope scope N js = true) (hc : X.calm = true) (hi : PI X tg iter wi)
    (hg : ∀ C s₃ H₃ fp, PG (compCx X scope N C s₃ H₃ fp) tg g) (ht : ∀ C s₃ H₃ fp, PTs (compCx X scope N C s₃ H₃ fp) ifs tc) (he : ∀ C s₃ H₃ fp, PE (compCx X scope N C s₃ H₃ fp) elt te)
    (hsw : swapsWith (.ListComp elt [⟨tg, iter, ifs, 0⟩] scope pos) (some (.Name x pos')) spos.line X.env = pure true := by rfl) (hs : ∀ x, foldedSetIterable iter X.env x = pure x := by intro _; rfl) :
    PS X (.Assign [.Name x pos'] (.ListComp elt [⟨tg, iter, ifs, 0⟩] scope pos) spos) (tAsg (tComp js wi g tc te) (gName i)) := by
  intro pins s σ H D I h
  rw [exec_Assign_Name_used _ _ _ _ hsw]
  refine wpAny_bind (wpAny_standAt (wpAny_bind ?_))
  have run := comp_run (pos := pos) (cpos := firstIterPos [⟨tg, iter, ifs, 0⟩] pos) (use := some (assign (.Name x pos') X.env)) (R := fun v H1 => D.nx (σ.set i (some v)) H1) (Q := fun _ s' => SP X pins D .next s') (CompOk.of hok) hc hi hg ht he I h (fun C L s' H' I' q hn hf => ?_) hs
  · show wpAny _ X.A (do let _ ← comprehension (.ListComp elt [⟨tg, iter, ifs, 0⟩] scope pos) scope X.env _ (newList []) false (eval iter X.env) (some (assign (.Name x pos') X.env))) _ _ s
    exact wpAny_bind (wpAny_mono run (fun _ s' hq => wpAny_pure (wpAny_pure hq)) fun _ _ e => e)
  · obtain ⟨m, o, es, ep, ho, hd, hr⟩ := hn
    have I2 : Inv X (pins ++ pinsAt [C] s'.heap) σ H' s' := I'.pinned (fp := [C]) (fun b hb => by rw [List.mem_singleton.mp hb]; exact hf) (fun b hb => by rw [List.mem_singleton.mp hb]; exact ⟨o, ho, fun v z => by rw [hd] at z; cases z⟩)
    refine wpAny_assign_Name (store_ok (v := .ref L) I2 hN hx (.inl hl) rfl (fun s2 I3 => ?_) (.inr hl))
    have hC : s2.heap.get? C = some o := (I3.pin (C, o) (List.mem_append_right _ (List.mem_append_right _ (mem_pinsAt (List.mem_singleton.mpr rfl) ho)))).1
    refine ⟨m, ⟨o, es, ep, hC, hd, hr⟩, fun h' hs' => ⟨_, H', ?_, q⟩⟩
    exact I3.unpinned.turned (t' := s2.toks) (it := C) (fun b o hb e => (hs'.2 b hb).trans e) hf.1 hf.2.1 hf.2.2.2.1 hf.2.2.2.2.1 hf.2.2.2.2.2
end
end L2

namespace L2
open PySem PySem.Spec PyProof.Rows
section
variable {X : Cx}
/-- all(bools) -/
theorem call_all (hc : X.calm = true) : CallR X (.builtin "all") (fun xs H Q => ∃ (p : Addr) (bs : List Bool), xs = [.ref p] ∧ SqL X.K H p (bs.map V.bl) ∧ Q (.bl (bs.all id)) H) := by
  intro pins s σ H xs us Q I r h
  obtain ⟨p, bs, rfl, hq, q⟩ := h
  obtain ⟨u, rfl, rx⟩ := vals1 r
  cases rx
  obtain ⟨its, rv, pl, hz⟩ := I.list hq
  have hl := pl.isList
  have hb : LSm.BoolsAre its bs := by
    clear hz hq q hl pl I
    induction bs generalizing its with
    | nil => cases rv; exact .nil
    | cons b bs ih =>
      cases rv with
      | cons r1 r2 => cases r1; exact .cons b (ih _ r2)
  have hlt : p < s.heap.objs.size := by obtain ⟨_, e, _⟩ := hl; exact Heap.lt_size e
  refine call_all_walk (wpAny_pyIter_list hl ?_)
  refine ⟨s.heap.objs.size, [s.heap.objs.size, p], [s.heap.objs.size], its.toArray.size, _, _, fun i => (bs[i]?).getD true, rfl, Walks.list (A := X.A.in1) (I.ok.hd hc) _ p (Nat.ne_of_lt hlt) its.toArray,
    ⟨⟨_, Heap.get?_push_size _ rfl, rfl, rfl⟩, hl.push _⟩, fun i v s' Q' E' hP hQ => ?_, fun h' tk hk => ?_⟩
  · obtain ⟨b, e, rfl⟩ := hb.get i v (by simpa using hP)
    simp only [e, Option.getD_some] at hQ
    exact wpAny_truthy_bool hQ
  · have e : ((List.range its.toArray.size).all fun i => (bs[i]?).getD true) = bs.all id := by
      rw [List.size_toArray, hb.length]; exact LSm.range_all bs
    rw [e]
    exact ⟨.bl _, H, I.kept (t' := tk) (LSm.kept_iter hk), rfl, q⟩
/-- isinstance(x, T), T a built-in type -/
theorem call_isinst : CallR X (.builtin "isinstance") (fun xs H Q => ∃ x T t b, xs = [x, .ty T] ∧ TyOf X.K H x t ∧ PySem.W.kitOne X.K t (.type T) = some b ∧ Q (.bl b) H) := by
  intro pins s σ H xs us Q I r h
  obtain ⟨x, T, t, b, rfl, ty, hk, q⟩ := h
  obtain ⟨u, w', rfl, rx, ry⟩ := vals2 r
  obtain rfl : w' = Value.type T := ry
  exact isinst_ok I rx ty hk fun tk => ⟨.bl b, H, I.tok tk, rfl, q⟩
theorem call_isinstK (K : PySem.W.Frag) (hK : X.K = K := by rfl) : CallR X (.builtin "isinstance") (fun xs H Q => ∃ x T t b, xs = [x, .ty T] ∧ TyOf K H x t ∧ PySem.W.kitOne K t (.type T) = some b ∧ Q (.bl b) H) := hK ▸ call_isinst
theorem ix_tupK (K : PySem.W.Frag) (hK : X.K = K := by rfl) : IxR X (rIxT K) := hK ▸ ix_tup
theorem ix_listK (K : PySem.W.Frag) (hK : X.K = K := by rfl) : IxR X (rIxL K) := hK ▸ ix_list
theorem call_lenK (K : PySem.W.Frag) (hK : X.K = K := by rfl) : CallR X (.builtin "len") (fun xs H Q => ∃ p ys, xs = [.ref p] ∧ (SqL K H p ys ∨ SqT K H p ys) ∧ Q (.int ys.length) H) := hK ▸ call_len_seq
end
/-! ### data: what a value is, through the heap -/
mutual
inductive Rep (K : PySem.W.Frag) (H : Hp) : V → PyData → Prop
  | int (i : Int) : Rep K H (.int i) (.int i)
  | bl (b : Bool) : Rep K H (.bl b) (.bool b)
  | non : Rep K H .non .none
  | lst {a : Addr} {xs : List V} {ds : List PyData} : SqL K H a xs → RepAll K H xs ds → Rep K H (.ref a) (.list ds)
  | tup {a : Addr} {xs : List V} {ds : List PyData} : SqT K H a xs → RepAll K H xs ds → Rep K H (.ref a) (.tuple ds)
inductive RepAll (K : PySem.W.Frag) (H : Hp) : List V → List PyData → Prop
  | nil : RepAll K H [] []
  | cons {x : V} {xs : List V} {d : PyData} {ds : List PyData} : Rep K H x d → RepAll K H xs ds → RepAll K H (x :: xs) (d :: ds)
end
mutual
theorem Rep.reads {X : Cx} {pins : List (Addr × Obj)} {σ : St} {H : Hp} {s : Shared} (I : Inv X pins σ H s) : ∀ {x : V} {d : PyData}, Rep X.K H x d → ∀ {u : Value}, RelV x u → ∃ as, Reads s.heap u d as
  | _, _, .int i, u, r => by obtain ⟨t, rfl⟩ := r; exact ⟨_, .int i t⟩
  | _, _, .bl b, u, r => by cases r; exact ⟨_, .bool b⟩
  | _, _, .non, u, r => by cases r; exact ⟨_, .none⟩
  | _, _, .lst h hs, u, r => by
    cases r
    obtain ⟨its, rv, ⟨o, n, e, hc, _, hd⟩, _⟩ := I.list h
    obtain ⟨as, q⟩ := RepAll.reads I hs rv
    exact ⟨_, .list e hc hd (by simpa using q)⟩
  | _, _, .tup h hs, u, r => by
    cases r
    obtain ⟨its, rv, ⟨o, e, hc, n, hd⟩, _⟩ := I.tuple h
    obtain ⟨as, q⟩ := RepAll.reads I hs rv
    exact ⟨_, .tuple e hc hd (by simpa using q)⟩
theorem RepAll.reads {X : Cx} {pins : List (Addr × Obj)} {σ : St} {H : Hp} {s : Shared} (I : Inv X pins σ H s) : ∀ {xs : List V} {ds : List PyData}, RepAll X.K H xs ds → ∀ {us : List Value}, Vals xs us → ∃ as, ReadsAll s.heap us ds as
  | _, _, .nil, us, r => by cases r; exact ⟨_, .nil⟩
  | _, _, .cons h hs, us, r => by
    cases r with
    | cons r1 r2 =>
      obtain ⟨as, q⟩ := Rep.reads I h r1
      obtain ⟨bs, q'⟩ := RepAll.reads I hs r2
      exact ⟨_, .cons q q'⟩
end
/-- data that == takes, not deep -/
structure Plain (d : PyData) : Prop where
  lay : d.canLay0 = true
  deep : d.depth ≤ 60
section
variable {X : Cx}
def rEqD (K : PySem.W.Frag) : R2 := fun x y H Q => ∃ d e, Rep K H x d ∧ Rep K H y e ∧ Plain d ∧ Plain e ∧ Q (.bl (PyData.eqv d e)) H
def rNeD (K : PySem.W.Frag) : R2 := fun x y H Q => ∃ d e, Rep K H x d ∧ Rep K H y e ∧ Plain d ∧ Plain e ∧ Q (.bl (!PyData.eqv d e)) H
theorem op_eqD (hu : X.A.units + 64 < cLine) : OpR X (compareOp .Eq) (rEqD X.K) := by
  intro pins s σ H x y v u Q I rx ry h
  obtain ⟨d, e, hd, he, pd, pe, q⟩ := h
  obtain ⟨as, r1⟩ := Rep.reads I hd rx
  obtain ⟨bs, r2⟩ := Rep.reads I he ry
  refine SeqAt.compareEq_reads r1 r2 pd.lay pe.lay ?_ ⟨.bl _, H, I, rfl, q⟩
  have h1 := pd.deep
  have h2 : min d.depth e.depth ≤ d.depth := Nat.min_le_left _ _
  omega
theorem op_neD (hu : X.A.units + 64 < cLine) : OpR X (compareOp .NotEq) (rNeD X.K) := by
  intro pins s σ H x y v u Q I rx ry h
  obtain ⟨d, e, hd, he, pd, pe, q⟩ := h
  obtain ⟨as, r1⟩ := Rep.reads I hd rx
  obtain ⟨bs, r2⟩ := Rep.reads I he ry
  refine SeqAt.compareNe_reads r1 r2 pd.lay pe.lay ?_ ⟨.bl _, H, I, rfl, q⟩
  have h1 := pd.deep
  have h2 : min d.depth e.depth ≤ d.depth := Nat.min_le_left _ _
  omega
end
theorem RepAll.ints {K : PySem.W.Frag} {H : Hp} : ∀ ns : List Int, RepAll K H (ns.map V.int) (ns.map PyData.int)
  | [] => .nil
  | n :: ns => .cons (.int n) (RepAll.ints ns)
theorem Rep.ints {K : PySem.W.Frag} {H : Hp} {a : Addr} {ns : List Int} (h : SqL K H a (ns.map V.int)) : Rep K H (.ref a) (.list (ns.map PyData.int)) := .lst h (.ints ns)
theorem canLay_ints : ∀ ns : List Int, PyData.canLayAll0 (ns.map PyData.int) = true
  | [] => by simp [PyData.canLayAll0]
  | n :: ns => by simp [PyData.canLayAll0, PyData.canLay0, canLay_ints ns]
theorem depthAll_ints : ∀ ns : List Int, PyData.depthAll (ns.map PyData.int) = 0
  | [] => by simp [PyData.depthAll]
  | n :: ns => by simp [PyData.depthAll, PyData.depth, depthAll_ints ns]
theorem Plain.ints (ns : List Int) : Plain (.list (ns.map PyData.int)) := ⟨by simp [PyData.canLay0, canLay_ints], by simp [PyData.depth, depthAll_ints]⟩
theorem eqv_ints : ∀ xs ys : List Int, PyData.eqvAll (xs.map PyData.int) (ys.map PyData.int) = decide (xs = ys)
  | [], [] => by simp [PyData.eqvAll]
  | [], y :: ys => by simp [PyData.eqvAll]
  | x :: xs, [] => by simp [PyData.eqvAll]
  | x :: xs, y :: ys => by
    have ih := eqv_ints xs ys
    simp only [List.map_cons, PyData.eqvAll, PyData.eqv, ih]
    by_cases h1 : x = y
    · by_cases h2 : xs = ys <;> simp [h1, h2]
    · simp [h1]
theorem eqv_lists (xs ys : List Int) : PyData.eqv (.list (xs.map PyData.int)) (.list (ys.map PyData.int)) = decide (xs = ys) := by
  simp only [PyData.eqv, eqv_ints]
end L2

namespace L2
open PySem PySem.Spec PyProof.Rows
/-! ### walks that the heap's growth does not disturb -/
theorem Same.seqT {K : PySem.W.Frag} {H H' : Hp} {a : Addr} {xs : List V} (e : Same H H') (h : SqT K H a xs) : SqT K H' a xs := by
  rcases h with (h | ⟨o, h⟩) | h
  · exact .inl (.inl (e _ _ h))
  · exact .inl (.inr ⟨o, e _ _ h⟩)
  · exact .inr h
theorem Same.put {H H' : Hp} {l : Addr} {o : HO} (s : Same H H') (h : H l = none) : Same H (upd H' l o) := fun b u e => by
  rw [upd_ne (ne_of_none e h)]
  exact s b u e
theorem Same.new {H : Hp} {a : Addr} {o : HO} (h : H a = none) : Same H (upd H a o) := (Same.refl H).put h
/-- n items, the k-th one as Is tells, however the heap has grown -/
structure Walk (J : It) (H1 : Hp) (n : Nat) (Is : Nat → V → Hp → Prop) : Prop where
  go : ∀ k H2, Same H1 H2 → k < n → J.go k H2
  yld : ∀ k H2 x H3, Same H1 H2 → k < n → J.yld k H2 x H3 → Same H2 H3 ∧ Is k x H3
  stop : ∀ H2, Same H1 H2 → J.stop n H2
theorem getD_some {α : Type} {xs : List α} {k : Nat} {d : α} (h : k < xs.length) : xs[k]? = some (xs.getD k d) := by
  rw [List.getD_eq_getElem?_getD, List.getElem?_eq_getElem h]
  rfl
theorem Walk.tup {K : PySem.W.Frag} {H1 : Hp} {a : Addr} {xs : List V} (h : SqT K H1 a xs) : Walk (Itt K a) H1 xs.length (fun k x _ => x = xs.getD k .non) where
  go := fun k H2 s hk => ⟨xs, _, s.seqT h, getD_some (d := V.non) hk⟩
  yld := fun k H2 x H3 s hk y => ⟨by rw [y.1]; exact Same.refl _, by
    have := y.2 xs (s.seqT h)
    rw [getD_some (d := V.non) hk] at this
    exact (Option.some.inj this).symm⟩
  stop := fun H2 s => ⟨xs, s.seqT h, Nat.le_refl _⟩
theorem Walk.lst {K : PySem.W.Frag} {H1 : Hp} {a : Addr} {xs : List V} (h : SqL K H1 a xs) : Walk (Itl K a) H1 xs.length (fun k x _ => x = xs.getD k .non) where
  go := fun k H2 s hk => ⟨xs, _, s.seq h, getD_some (d := V.non) hk⟩
  yld := fun k H2 x H3 s hk y => ⟨by rw [y.1]; exact Same.refl _, by
    have := y.2 xs (s.seq h)
    rw [getD_some (d := V.non) hk] at this
    exact (Option.some.inj this).symm⟩
  stop := fun H2 s => ⟨xs, s.seq h, Nat.le_refl _⟩
theorem Walk.rng {H1 : Hp} (lo : Int) (n : Nat) : Walk (Itr lo n) H1 n (fun k x _ => x = .int (lo + k)) where
  go := fun k H2 _ hk => hk
  yld := fun k H2 x H3 _ _ y => ⟨by rw [y.1]; exact Same.refl _, y.2⟩
  stop := fun _ _ => Nat.le_refl n
/-- a block by an invariant of the turn, the items and the heap -/
theorem block_gen {J : It} {H1 : Hp} {n : Nat} {Is : Nat → V → Hp → Prop} {js : List (Option Nat)} {g : TG} {tc : TT} {te : TE} {σ : St} {R : VK} (Wk : Walk J H1 n Is) (Pv : Addr → Nat → List V → Hp → Prop)
    (h0 : ∀ D, H1 D = none → Pv D 0 [] (upd H1 D (.lst [])))
    (step : ∀ D k x ys H2 H3 (Keep : VK) (Drop : Hp → Prop), H1 D = none → k < n → Same H1 H2 → Same H2 H3 → H3 D = some (.lst ys) → Pv D k ys H2 → Is k x H3 →
      (∀ y H6, Same H3 H6 → ys.length < sizeLine → Pv D (k + 1) (ys ++ [y]) (upd H6 D (.lst (ys ++ [y]))) → Keep y H6) → (∀ H5, Same H3 H5 → Pv D (k + 1) ys H5 → Drop H5) →
      g x (cst js σ) H3 fun σ2 H4 => Ext (cst js σ) σ2 ∧ tc σ2 H4 fun c H5 => if c = true then te σ2 H5 Keep else Drop H5)
    (fin : ∀ D ys H2, H1 D = none → Same H1 H2 → H2 D = some (.lst ys) → Pv D n ys H2 → R (.ref D) H2) : tBlock js g tc te σ R J H1 := by
  intro D hD
  refine ⟨fun i m ys H2 => m = n - i ∧ i ≤ n ∧ Same H1 H2 ∧ Pv D i ys H2, ⟨n, rfl, Nat.zero_le _, Same.new hD, h0 D hD⟩, ?_⟩
  rintro i m ys H2 ⟨rfl, hi, s, p⟩ hys
  by_cases hlt : i < n
  · refine .inr ⟨Wk.go i H2 s hlt, fun x H3 y => ?_⟩
    obtain ⟨s3, ix⟩ := Wk.yld i H2 x H3 s hlt y
    exact step D i x ys H2 H3 _ _ hD hlt s s3 (s3 _ _ hys) p ix (fun z H6 s6 hl p6 => ⟨s6 _ _ (s3 _ _ hys), hl, n - (i + 1), by omega, rfl, hlt, ((s.trans s3).trans s6).put hD, p6⟩)
      (fun H5 s5 p5 => ⟨s5 _ _ (s3 _ _ hys), n - (i + 1), by omega, rfl, hlt, (s.trans s3).trans s5, p5⟩)
  · have e : i = n := by omega
    subst e
    exact .inl ⟨Wk.stop H2 s, fin D ys H2 hD s hys p⟩
/-- [y(x) for x in .. if p(x)], the values told ahead -/
theorem block_fm {J : It} {H1 : Hp} {n : Nat} {item : Nat → V} {js : List (Option Nat)} {i : Nat} {tc : TT} {te : TE} {σ : St} {R : VK} (Wk : Walk J H1 n (fun k x _ => x = item k)) (hn : n ≤ 1000) (hi : (cst js σ)[i]? = some none)
    (p : Nat → Bool) (y : Nat → V)
    (test : ∀ k H2 (Q : Bool → Hp → Prop), k < n → Same H1 H2 → (∀ H3, Same H2 H3 → Q (p k) H3) → tc ((cst js σ).set i (some (item k))) H2 Q)
    (step : ∀ k H2 (Q : VK), k < n → p k = true → Same H1 H2 → (∀ H3, Same H2 H3 → Q (y k) H3) → te ((cst js σ).set i (some (item k))) H2 Q)
    (fin : ∀ D H2, H1 D = none → Same H1 H2 → H2 D = some (.lst (((List.range n).filter p).map y)) → R (.ref D) H2) : tBlock js (gName i) tc te σ R J H1 := by
  refine block_gen Wk (fun D k ys H2 => ys = ((List.range k).filter p).map y) (fun D hD => rfl) (fun D k x ys H1' H2 Keep Drop hD hk s1 s2 hys e ex keep drop => ?_) (fun D ys H2 hD s hys e => fin D H2 hD s (e ▸ hys))
  subst ex
  have s := s1.trans s2
  have hl : ys.length < sizeLine := by
    have h1 : (((List.range k).filter p).map y).length ≤ k := by
      rw [List.length_map]
      exact Nat.le_trans (List.length_filter_le _ _) (by simp)
    rw [e]
    exact Nat.lt_of_le_of_lt h1 (small1000 (by omega))
  have e1 : List.range (k + 1) = List.range k ++ [k] := List.range_succ
  refine ⟨Ext.set hi, test k H2 _ hk s fun H3 s3 => ?_⟩
  cases hp : p k with
  | true =>
    rw [if_pos rfl]
    refine step k H3 _ hk hp (s.trans s3) fun H4 s4 => keep _ _ (s3.trans s4) hl ?_
    rw [e1, List.filter_append, List.map_append, e]
    simp [hp]
  | false =>
    rw [if_neg (by decide)]
    refine drop _ s3 ?_
    rw [e1, List.filter_append, List.map_append, e]
    simp [hp]
/-- [y(x) for x in ..] -/
theorem block_map {J : It} {H1 : Hp} {n : Nat} {item : Nat → V} {js : List (Option Nat)} {i : Nat} {te : TE} {σ : St} {R : VK} (Wk : Walk J H1 n (fun k x _ => x = item k)) (hn : n ≤ 1000) (hi : (cst js σ)[i]? = some none) (y : Nat → V)
    (step : ∀ k H2 (Q : VK), k < n → Same H1 H2 → (∀ H3, Same H2 H3 → Q (y k) H3) → te ((cst js σ).set i (some (item k))) H2 Q)
    (fin : ∀ D H2, H1 D = none → Same H1 H2 → H2 D = some (.lst ((List.range n).map y)) → R (.ref D) H2) : tBlock js (gName i) tYes te σ R J H1 :=
  block_fm Wk hn hi (fun _ => true) y (fun k H2 Q _ _ q => q H2 (Same.refl _)) (fun k H2 Q hk _ => step k H2 Q hk) fun D H2 hD s e => fin D H2 hD s (by
    rw [e, List.filter_eq_self.mpr (fun _ _ => rfl)])
theorem range_map_getD {α β : Type} (xs : List α) (d : α) (f : α → β) : ((List.range xs.length).map fun k => f (xs.getD k d)) = xs.map f := by
  apply List.ext_getElem?
  intro k
  rw [List.getElem?_map, List.getElem?_map]
  by_cases h : k < xs.length
  · rw [List.getElem?_range h, getD_some (d := d) h]
    rfl
  · rw [List.getElem?_eq_none (by simpa using h), List.getElem?_eq_none (by omega)]
    rfl
/-! ### a def of the text, ready to be called -/
def Has (P : Program) (w : World) (K : PySem.W.Frag) (mg : Str → Option Value) (base : Heap) (x : Str) (k : Nat) (ps : List Str) (sp : Sp) : Prop :=
  ∃ f fd, mg x = some (.ref f) ∧ PySem.W.keepIn K (.ref f) = true ∧ Binds K fd ps [] ∧ FnOk P w K mg base CX0 k f fd ps sp
section
variable {X : Cx} {x : Str} {k : Nat} {ps : List Str} {sp : Sp} {e : Expr} {es : List Expr} {t : TA} {p pos : Pos}
theorem pe_fn (h : Has X.prog X.w X.K X.mg X.base x k ps sp) (hr : Room k X.A) (ha : PA X (e :: es) t) (hg : Gl X x := by rfl) (hdb : (x == ("__debug__" : Str)) = false := by decide)
    (he : starEach (e :: es) X.env = (false, eval e X.env) :: starEach es X.env := by rfl) (hpl : (backTo pos (starEach es X.env)).any (·.1) = false := by rfl) : PE X (.Call (.Name x p) (e :: es) [] pos) (tCall sp [] E0 t) := by
  obtain ⟨f, fd, hm, hk, hb, F⟩ := h
  exact pe_call F hr hg hm hk hb .nil pass0 ha hdb he hpl
end
theorem pe_ty {X : Cx} {x : Str} {T : String} {pos : Pos} (hm : X.mg x = none) (hv : bootBuiltins x = some (.type T)) (hg : Gl X x := by rfl) (hn : x ≠ "__name__" := by decide) (hd : (x == ("__debug__" : Str)) = false := by decide) : PE X (.Name x pos) (tC (.ty T)) :=
  pe_bltn (v := .ty T) hg hm hv rfl hn hd
theorem ndOf {N : List Str} (h : N.Nodup) : N.Nodup := h
/-- a def as the top has written it -/
structure Def (K : PySem.W.Frag) (x : Str) (st : Stmt) (f : Addr) (fd : FuncData) : Prop where
  a : PySem.W.nsIn K mainGlobals x = some (some (.ref f))
  F : Fun K x x st f fd
theorem def_mk {K : PySem.W.Frag} {x : Str} {st : Stmt} {f : Addr} {oc : Value} {od an : Option Addr} {osl : Array (Option Value)} {kV doc pm cdv ct : Value} (a : PySem.W.nsIn K mainGlobals x = some (some (.ref f)))
    (l : K.lookup f = some ⟨oc, od, .func (PySem.W.fnOf x x (defArgs st) (defBody st) (defScope st) .none kV doc pm an cdv ct), osl⟩) (c : PySem.W.codeIn K cdv x = true) (k : PySem.W.keepIn K (.ref f) = true) : ∃ f fd, Def K x st f fd :=
  ⟨f, _, a, fun_mk l c k⟩
/-- the built-in names that the text leaves as they are -/
structure Blt (mg : Str → Option Value) : Prop where
  len : mg "len" = none
  isi : mg "isinstance" = none
  tInt : mg "int" = none
  tBool : mg "bool" = none
  tTuple : mg "tuple" = none
  tList : mg "list" = none
  all : mg "all" = none
  range : mg "range" = none
  enum : mg "enumerate" = none
  sum : mg "sum" = none
theorem kit_int_bool {K : PySem.W.Frag} : PySem.W.kitOne K (.type "int") (.type "bool") = some false := by with_unfolding_all rfl
theorem kit_int_int {K : PySem.W.Frag} : PySem.W.kitOne K (.type "int") (.type "int") = some true := by with_unfolding_all rfl
theorem kit_bool_bool {K : PySem.W.Frag} : PySem.W.kitOne K (.type "bool") (.type "bool") = some true := by with_unfolding_all rfl
theorem kit_tup_tup {K : PySem.W.Frag} : PySem.W.kitOne K (.type "tuple") (.type "tuple") = some true := by with_unfolding_all rfl
theorem kit_lst_lst {K : PySem.W.Frag} : PySem.W.kitOne K (.type "list") (.type "list") = some true := by with_unfolding_all rfl
end L2

namespace ET
open PySem PyProof.Rows
open AutoSeq1 (wpAny_loadPart')
/-! ### enumerate(t), t a tuple -/
theorem made_enumT (t : Addr) (its : Array Value) (n : Nat) (dct : Option Addr) (sl : Array (Option Value)) :
    Meets (Builtin.«enumerate.__new__» ⟨[.type "enumerate", .ref t], []⟩) (fun _ R s => s.heap.get? t = some { cls := .type "tuple", dict := dct, data := .seq its n, slots := sl } ∧
      R (.ok (.ret (.ref (s.heap.push { cls := .type "tuple_iterator", data := .fields #[.ref t, .int 0 0] }).objs.size)))
        { s with heap := (s.heap.push { cls := .type "tuple_iterator", data := .fields #[.ref t, .int 0 0] }).push { cls := .type "enumerate", data := .fields #[.none, .bool false, .ref s.heap.objs.size, rawInt 0, .none, .none] } }) :=
  .of_wp fun prog w A R s h => by
    obtain ⟨hp, g, d, tk, os⟩ := s
    obtain ⟨ht, h⟩ := h
    have hsub := sub_enumerate
    have hT : Heap.IsTuple (Shared.heap ⟨hp, g, d, tk, os⟩) t its := ⟨_, ht, rfl, n, rfl⟩
    wp_walk using wpAny_loadPart' ht
    refine wpAny_stack_any fun st => wpAny_pure ?_
    split
    · rename_i c _ _ _ _ _
      cases (c == Value.type "enumerate") <;> (wp_walk using wpAny_loadPart' ht, wpAny_pyIter_tuple hT; exact ⟨_, rfl, h⟩)
    · wp_walk using wpAny_loadPart' ht, wpAny_pyIter_tuple hT
      exact ⟨_, rfl, h⟩
section
variable {prog : Program} {w : World} {A : Around} {E : Value → Shared → Prop} {s : Shared}
theorem call_enumT {t : Addr} {its : Array Value} {Q : Value → Shared → Prop} (hT : s.heap.IsTuple t its)
    (h : ∀ h', IsEnum h' (s.heap.objs.size + 1) s.heap.objs.size 0 .none → h'.IsTupleIter s.heap.objs.size t 0 → (∀ b o, s.heap.get? b = some o → h'.get? b = some o) → Q (.ref (s.heap.objs.size + 1)) { s with heap := h' }) :
    wpAny (model prog w) A (call (.type "enumerate") [.ref t]) Q E s := by
  obtain ⟨⟨c, dct, dt, sl⟩, ht, hc, n, hd⟩ := hT
  obtain rfl : c = .type "tuple" := hc
  obtain rfl : dt = .seq its n := hd
  refine callType_new F.called_enumerate (by decide) (F.typeCall_enumerate_1 _) (F.newCall_enumerate_1 _) (fun obj => F.args_object_init_2 obj _) F.entry_enumerate_new (made_enumT t its n dct sl) ⟨ht, ?_⟩
  have hz : (s.heap.push { cls := .type "tuple_iterator", data := .fields #[.ref t, .int 0 0] }).objs.size = s.heap.objs.size + 1 := Heap.size_push ..
  show _ ∧ _
  rw [hz]
  have he : IsEnum ((s.heap.push { cls := .type "tuple_iterator", data := .fields #[.ref t, .int 0 0] }).push { cls := .type "enumerate", data := .fields #[.none, .bool false, .ref s.heap.objs.size, rawInt 0, .none, .none] }) (s.heap.objs.size + 1) s.heap.objs.size 0 .none := by
    have q := Heap.get?_push_size (s.heap.push { cls := .type "tuple_iterator", data := .fields #[.ref t, .int 0 0] }) (o := { cls := .type "enumerate", data := .fields #[.none, .bool false, .ref s.heap.objs.size, rawInt 0, .none, .none] }) rfl
    rwa [hz] at q
  exact ⟨⟨_, he, rfl⟩, h _ he ⟨_, Heap.get?_push_of_some _ (Heap.get?_push_size _ rfl), rfl, rfl⟩ fun b o x => Heap.get?_push_of_some _ (Heap.get?_push_of_some _ x)⟩
/-- the next item of the tuple within -/
theorem nextT_item {it t : Addr} {i : Nat} {its : Array Value} {x : Value} {Q : Value → Shared → Prop} (hit : s.heap.IsTupleIter it t i) (ht : s.heap.IsTuple t its) (hx : its[i]? = some x)
    (hQ : ∀ h', h'.IsTupleIter it t (i + 1) → Heap.SameBut it s.heap h' → Q x { s with heap := h' }) : wpAny (model prog w) A (Builtin.SmallTypes.nextOf (.ref it)) Q E s := by
  obtain ⟨o, ho, hc, hd⟩ := id hit
  obtain ⟨ot, hot, _, nt, hdt⟩ := ht
  unfold Builtin.SmallTypes.nextOf
  refine wpAny_bind (wpAny_callSpecial?_slot (name := Str.ofString "__next__") hit.typeIs F.slot_tuple_iterator_next (wpAny_call_entry F.slot_tuple_iterator_next hit.typeIs F.entry_tuple_iterator_next ?_ (F.args_tuple_iterator_next_1 _)))
  show wpAny _ _ (field (.ref it) 0 >>= _) _ _ s
  refine wpAny_bind (wpAny_field ho hd (x := .ref t) rfl ?_)
  show wpAny _ _ (if (Value.ref t == Value.none) = true then _ else _) _ _ s
  rw [if_neg (show ¬ ((Value.ref t == Value.none) = true) from Bool.false_ne_true)]
  show wpAny _ _ (field (.ref it) 1 >>= _) _ _ s
  refine wpAny_bind (wpAny_field ho hd (x := .int i 0) rfl ?_)
  show wpAny _ _ (seqItems? (.ref t) >>= _) _ _ s
  refine wpAny_bind (wpAny_seqItems hot hdt ?_)
  simp only [Int.toNat_natCast, hx]
  refine wpAny_bind (wpAny_setField ho hd (by simp) (wpAny_pure ⟨x, rfl, wpAny_pure (hQ _ ?_ (Heap.SameBut.update ..))⟩))
  exact ⟨_, Heap.get?_update_self _ ho (Obj.isFreed_of_fields (Obj.data_mapFields hd _)), (Obj.cls_mapFields ..).trans hc, by rw [Obj.data_mapFields hd]; simp [rawInt]⟩
theorem nextT_end {it t : Addr} {i : Nat} {its : Array Value} {Q : Value → Shared → Prop} (hh : A.handled = none) (hit : s.heap.IsTupleIter it t i) (ht : s.heap.IsTuple t its) (hx : its[i]? = none)
    (hE : ∀ h' e, Heap.ExtBut it s.heap h' → (∃ o, h'.get? e = some o ∧ o.cls = .type "StopIteration") → E (.ref e) { s with heap := h' }) : wpAny (model prog w) A (Builtin.SmallTypes.nextOf (.ref it)) Q E s := by
  obtain ⟨o, ho, hc, hd⟩ := id hit
  obtain ⟨ot, hot, _, nt, hdt⟩ := ht
  unfold Builtin.SmallTypes.nextOf
  refine wpAny_bind (wpAny_callSpecial?_slot (name := Str.ofString "__next__") hit.typeIs F.slot_tuple_iterator_next (wpAny_call_entry F.slot_tuple_iterator_next hit.typeIs F.entry_tuple_iterator_next ?_ (F.args_tuple_iterator_next_1 _)))
  show wpAny _ _ (field (.ref it) 0 >>= _) _ _ s
  refine wpAny_bind (wpAny_field ho hd (x := .ref t) rfl ?_)
  show wpAny _ _ (if (Value.ref t == Value.none) = true then _ else _) _ _ s
  rw [if_neg (show ¬ ((Value.ref t == Value.none) = true) from Bool.false_ne_true)]
  show wpAny _ _ (field (.ref it) 1 >>= _) _ _ s
  refine wpAny_bind (wpAny_field ho hd (x := .int i 0) rfl ?_)
  show wpAny _ _ (seqItems? (.ref t) >>= _) _ _ s
  refine wpAny_bind (wpAny_seqItems hot hdt ?_)
  simp only [Int.toNat_natCast, hx]
  refine wpAny_bind (wpAny_rule (wpAny_bind (wpAny_setField ho hd (by simp) ?_)))
  show wpAny _ _ (newExc (.type "StopIteration") [] >>= _) _ _ _
  refine wpAny_bind ?_
  simp only [newExc, newTuple]
  refine wpAny_bind (wpAny_newObj_type ?_ (by size_fits))
  refine wpAny_bind (m := firstArgMember _ _) (wpAny_of_eq (a := Value.none) (by first | rfl | (simp only [firstArgMember]; rfl)) ?_)
  refine wpAny_newObj_type ?_ (by size_fits)
  simp only [raiseNew]
  refine wpAny_bind (wpAny_handled ?_)
  first | rw [show A.in1.handled = none from hh] | rw [hh]
  refine wpAny_bind (wpAny_pure (wpAny_throw ?_))
  exact hE _ _ (((Heap.SameBut.update ..).extBut.push _).push _) ⟨_, Heap.get?_push_size _ rfl, rfl⟩
theorem enumT_next {e it t : Addr} {i : Nat} {its : Array Value} {x old : Value} {Q : Value → Shared → Prop} (he : IsEnum s.heap e it i old) (hit : s.heap.IsTupleIter it t i) (ht : s.heap.IsTuple t its) (hx : its[i]? = some x) (hne : e ≠ it)
    (hQ : ∀ h', IsEnumOut h' e it ((i : Int) + 1) x s.heap.objs.size → h'.IsTupleIter it t (i + 1) → h'.get? s.heap.objs.size = some { cls := .type "tuple", data := .seq #[.int i s.toks, x] } →
      (∀ b o, b ≠ e → b ≠ it → s.heap.get? b = some o → h'.get? b = some o) → Q (.ref s.heap.objs.size) { s with heap := h', toks := s.toks + 1 }) :
    wpAny (model prog w) A (Builtin.«enumerate.__next__» ⟨[.ref e], []⟩) (fun fin s' => ∃ v, fin = .done (.ret v) ∧ Q v s') E s := by
  obtain ⟨hp, g, d, tk, os⟩ := s
  show wpAny _ _ (field (.ref e) 2 >>= _) _ _ _
  refine wpAny_bind (wpAny_field he rfl (x := .ref it) rfl (wpAny_bind (nextT_item hit ht hx fun h₁ hit₁ hs₁ => ?_)))
  replace hs₁ : Heap.SameBut it hp h₁ := hs₁
  have he₁ : IsEnum h₁ e it i old := (hs₁.2 e hne).trans he
  show wpAny _ _ (field (.ref e) 3 >>= _) _ _ ⟨h₁, g, d, tk, os⟩
  refine wpAny_bind (wpAny_field he₁ rfl (x := rawInt i) rfl ?_)
  show wpAny _ _ (field (.ref e) 4 >>= _) _ _ ⟨h₁, g, d, tk, os⟩
  refine wpAny_bind (wpAny_field he₁ rfl (x := .none) rfl ?_)
  show wpAny _ _ (mkInt i >>= _) _ _ ⟨h₁, g, d, tk, os⟩
  refine wpAny_bind (wpAny_mkInt ?_)
  show wpAny _ _ (setField (.ref e) 3 (rawInt ((i : Int) + 1)) >>= _) _ _ ⟨h₁, g, d, tk + 1, os⟩
  refine wpAny_bind (wpAny_setField_rec he₁ (by simp) fun h₂ he₂ hs₂ => ?_)
  replace hs₂ : Heap.SameBut e h₁ h₂ := hs₂
  replace he₂ : IsEnum h₂ e it ((i : Int) + 1) old := he₂
  show wpAny _ _ (setField (.ref e) 4 .none >>= _) _ _ ⟨h₂, g, d, tk + 1, os⟩
  refine wpAny_bind (wpAny_setField_rec he₂ (by simp) fun h₃ he₃ hs₃ => ?_)
  replace hs₃ : Heap.SameBut e h₂ h₃ := hs₃
  replace he₃ : IsEnum h₃ e it ((i : Int) + 1) old := he₃
  show wpAny _ _ (newTuple [.int i tk, x] >>= _) _ _ ⟨h₃, g, d, tk + 1, os⟩
  refine wpAny_bind (wpAny_newTuple ?_)
  have he₄ : IsEnum (h₃.push { cls := .type "tuple", data := .seq #[.int i tk, x] }) e it ((i : Int) + 1) old := Heap.get?_push_of_some _ he₃
  generalize hh₄ : h₃.push { cls := .type "tuple", data := .seq #[.int i tk, x] } = h₄ at he₄
  have hsz : h₃.objs.size = hp.objs.size := by rw [hs₃.1, hs₂.1, hs₁.1]
  have hel : e < hp.objs.size := Heap.lt_size he
  have ht₄ : h₄.get? hp.objs.size = some { cls := .type "tuple", data := .seq #[.int i tk, x] } := by rw [← hh₄, ← hsz]; exact Heap.get?_push_size _ rfl
  have hk₄ : ∀ b o, b ≠ e → b ≠ it → hp.get? b = some o → h₄.get? b = some o := fun b o hbe hbi hb => by
    rw [← hh₄]
    exact Heap.get?_push_of_some _ (hs₃.extBut b o hbe (hs₂.extBut b o hbe (hs₁.extBut b o hbi hb)))
  have hit₄ : h₄.IsTupleIter it t (i + 1) := by
    rw [← hh₄]
    obtain ⟨o, ho, r⟩ := (hit₁.extBut hs₂.extBut (Ne.symm hne)).extBut hs₃.extBut (Ne.symm hne)
    exact ⟨o, Heap.get?_push_of_some _ ho, r⟩
  show wpAny _ _ (Builtin.SmallTypes.ownedTupleIsFree (.ref e) >>= _) _ _ ⟨h₄, g, d, tk + 1, os⟩
  rw [hsz]
  clear hh₄ he₃ hs₃ he₂ hs₂ he₁ hs₁ hit₁ hsz h₃ h₂ h₁
  refine wpAny_bind ?_
  unfold Builtin.SmallTypes.ownedTupleIsFree
  refine wpAny_bind (wpAny_field he₄ rfl (x := .none) rfl (wpAny_pure ?_))
  simp only [if_true]
  refine wpAny_bind (wpAny_rule (wpAny_bind (wpAny_field he₄ rfl (x := old) rfl (wpAny_bind (wpAny_setField_rec he₄ (by simp) fun h₅ he₅ hs₅ => ?_)))))
  replace hs₅ : Heap.SameBut e h₄ h₅ := hs₅
  replace he₅ : IsEnum h₅ e it ((i : Int) + 1) x := he₅
  show wpAny _ _ (Builtin.SmallTypes.ownedTupleHandOut (.ref e) (.ref hp.objs.size) >>= _) _ _ ⟨h₅, g, d, tk + 1, os⟩
  refine wpAny_bind ?_
  unfold Builtin.SmallTypes.ownedTupleHandOut
  refine wpAny_bind (wpAny_setField_rec he₅ (by simp) fun h₆ he₆ hs₆ => ?_)
  replace hs₆ : Heap.SameBut e h₅ h₆ := hs₆
  replace he₆ : IsEnumOut h₆ e it ((i : Int) + 1) x hp.objs.size := he₆
  refine wpAny_setField_rec he₆ (by simp) fun h₇ he₇ hs₇ => ?_
  replace hs₇ : Heap.SameBut e h₆ h₇ := hs₇
  replace he₇ : IsEnumOut h₇ e it ((i : Int) + 1) x hp.objs.size := he₇
  refine wpAny_bind (wpAny_letGo (wpAny_pure ⟨_, rfl, hQ h₇ he₇ ?_ ?_ ?_⟩))
  · exact ((hit₄.extBut hs₅.extBut (Ne.symm hne)).extBut hs₆.extBut (Ne.symm hne)).extBut hs₇.extBut (Ne.symm hne)
  · exact hs₇.extBut _ _ (Nat.ne_of_gt hel) (hs₆.extBut _ _ (Nat.ne_of_gt hel) (hs₅.extBut _ _ (Nat.ne_of_gt hel) ht₄))
  · exact fun b o hbe hbi hb => hs₇.extBut b o hbe (hs₆.extBut b o hbe (hs₅.extBut b o hbe (hk₄ b o hbe hbi hb)))
theorem pyNext_enumT {e it t : Addr} {i : Nat} {its : Array Value} {x old : Value} {Q : Option Value → Shared → Prop} (he : IsEnum s.heap e it i old) (hit : s.heap.IsTupleIter it t i) (ht : s.heap.IsTuple t its) (hx : its[i]? = some x) (hne : e ≠ it)
    (hQ : ∀ h', IsEnumOut h' e it ((i : Int) + 1) x s.heap.objs.size → h'.IsTupleIter it t (i + 1) → h'.get? s.heap.objs.size = some { cls := .type "tuple", data := .seq #[.int i s.toks, x] } →
      (∀ b o, b ≠ e → b ≠ it → s.heap.get? b = some o → h'.get? b = some o) → Q (some (.ref s.heap.objs.size)) { s with heap := h', toks := s.toks + 1 }) : wpAny (model prog w) A (pyNext (.ref e)) Q E s := by
  have hT : s.TypeIs (.ref e) "enumerate" := ⟨_, he, rfl⟩
  unfold pyNext
  exact wpAny_bind (wpAny_attempt (wpAny_callSpecial?_slot (name := Str.ofString "__next__") hT F.slot_enumerate_next (wpAny_call_entry F.slot_enumerate_next hT F.entry_enumerate_next
    (enumT_next he hit ht hx hne fun h' a b c k => wpAny_pure (hQ h' a b c k)) (F.args_enumerate_next_1 _))))
theorem pyNext_enumT_end {e it t : Addr} {i : Nat} {its : Array Value} {old : Value} {Q : Option Value → Shared → Prop} (hh : A.handled = none) (he : IsEnum s.heap e it i old) (hit : s.heap.IsTupleIter it t i) (ht : s.heap.IsTuple t its) (hx : its[i]? = none)
    (hQ : ∀ h', Heap.ExtBut it s.heap h' → Q none { s with heap := h' }) : wpAny (model prog w) A (pyNext (.ref e)) Q E s := by
  have hT : s.TypeIs (.ref e) "enumerate" := ⟨_, he, rfl⟩
  unfold pyNext
  refine wpAny_bind (wpAny_attempt (wpAny_callSpecial?_slot (name := Str.ofString "__next__") hT F.slot_enumerate_next (wpAny_call_entry F.slot_enumerate_next hT F.entry_enumerate_next ?_ (F.args_enumerate_next_1 _))))
  show wpAny _ _ (field (.ref e) 2 >>= _) _ _ _
  refine wpAny_bind (wpAny_field he rfl (x := .ref it) rfl (wpAny_bind (nextT_end hh hit ht hx fun h' x he' hx' => ?_)))
  obtain ⟨o, ho, hc⟩ := hx'
  exact wpAny_bind (wpAny_isInstance (T := "StopIteration") (b := true) ⟨o, ho, hc⟩ isSubtype_stop (wpAny_pure (hQ _ he')))
end
end ET
namespace L2
open PySem PySem.Spec PyProof.Rows
/-- (0, x0), (1, x1), .. of the tuple at a: a new pair each turn -/
def Ite (K : PySem.W.Frag) (a : Addr) : It :=
  ⟨fun i H => ∃ xs x, SqT K H a xs ∧ xs[i]? = some x, fun i H x H' => ∃ p y, x = .ref p ∧ H p = none ∧ (∀ xs, SqT K H a xs → xs[i]? = some y) ∧ H' = upd H p (.tup [.int i, y]), fun i H => ∃ xs, SqT K H a xs ∧ xs.length ≤ i⟩
theorem turn_enumT {P : Program} {w : World} {K : PySem.W.Frag} {es : List Expr} {kk : Nat} {tp : Pos} (a e it : Addr) (hne : e ≠ it) :
    Turn P w K (.Tuple es kk tp) (Ite K a) [e, it] e (fun i h => (∃ old, IsEnum h e it i old) ∧ h.IsTupleIter it a i) where
  mem := by simp
  obj := fun i h st b hb => by
    obtain ⟨⟨old, he⟩, ⟨o, ho, hc, hd⟩⟩ := st
    rcases List.mem_cons.mp hb with rfl | hb
    · exact ⟨_, he, fun v z => by
        have z' : Data.fields _ = Data.cell v := z
        cases z'⟩
    · rw [List.mem_singleton.mp hb]
      exact ⟨o, ho, fun v z => by rw [hd] at z; cases z⟩
  keep := fun i h h' st k => by
    obtain ⟨⟨old, he⟩, hit⟩ := st
    exact ⟨⟨old, k e (by simp) _ he⟩, hit.at fun o x => k it (by simp) o x⟩
  item := by
    intro X hP hw hK hc i pins s σ H E I hf st hg
    subst hP hw hK
    obtain ⟨⟨old, he⟩, hit⟩ := st
    obtain ⟨xs, x, hq, hx⟩ := hg
    obtain ⟨its, rv, p, hz⟩ := I.tuple hq
    obtain ⟨u, hu, ru⟩ := rv.get hx
    obtain ⟨f0, f1, f2, f3, f4, f5⟩ := hf e (by simp)
    obtain ⟨g0, g1, g2, g3, g4, g5⟩ := hf it (by simp)
    refine ET.pyNext_enumT he hit (show s.heap.IsTuple a its.toArray from p) (x := u) (by simpa using hu) hne fun h' ho hit' htp kp => ⟨_, rfl, ?_⟩
    refine wpAny_letOwnedTupleGo_enum ho fun h2 he2 hs2 => ?_
    have kp2 : ∀ b o, b ∉ [e, it] → s.heap.get? b = some o → h2.get? b = some o := fun b o hb e1 => (hs2.2 b (fun z => hb (by simp [z]))).trans (kp b o (fun z => hb (by simp [z])) (fun z => hb (by simp [z])) e1)
    have fr : H s.heap.objs.size = none := I.fresh
    have nit : ∀ {b : Addr} {v : HO}, H b = some v → b ∉ [e, it] := fun {b v} q z => by
      rcases List.mem_cons.mp z with rfl | z
      · rw [f0] at q; cases q
      · rw [List.mem_singleton.mp z, g0] at q; cases q
    have lte : e < s.heap.objs.size := Heap.lt_size he
    have ht2 : h2.get? s.heap.objs.size = some { cls := .type "tuple", data := .seq #[.int i s.toks, u] } := (hs2.2 _ (Nat.ne_of_gt lte)).trans htp
    have I1 : Inv X pins σ (upd H s.heap.objs.size (.tup [.int i, x])) { s with heap := h2, toks := s.toks + 1 } := by
      have un : Un (frs X.stack) [e, it] H (upd H s.heap.objs.size (.tup [.int i, x])) s.heap h2 :=
        ⟨fun b o q _ _ hx => kp2 b o hx q, fun b o q _ _ hx => ⟨o.slots, kp2 b o hx q⟩, fun b o q n _ => by rw [upd_ne (Nat.ne_of_lt (Heap.lt_size q))]; exact n, fun b o q hx => ⟨o, kp2 b o hx q⟩,
          fun b ys q => by rw [upd_ne (ne_of_none q fr)]; exact q, fun b o v q => by rw [upd_ne (ne_of_none q fr)]; exact q, fun b ps q => ⟨#[], by rw [upd_ne (ne_of_none q fr), q]; simp⟩⟩
      refine I.call (g' := s.gens) (d' := s.drawn) un (fun b v q => ?_) I.bare fun b hb => ?_
      · by_cases hb : b = s.heap.objs.size
        · subst hb
          rw [upd_same] at q
          cases q
          exact ⟨by show 2 ≤ sizeLine; decide, [.int i s.toks, u], .cons ⟨_, rfl⟩ (.cons ru .nil), ⟨_, ht2, ⟨rfl, _, rfl⟩, rfl⟩⟩
        · rw [upd_ne hb] at q
          refine (I.hok b v q).stay (fun c o hc e1 => kp2 c o ?_ e1) (fun c e1 => ?_) fun c ys e1 => ?_
          · rcases hc with z | z
            · rw [z]; exact nit q
            · exact nit z
          · rw [upd_ne (ne_of_none e1 fr)]; exact e1
          · rw [upd_ne (ne_of_none e1 fr)]; exact e1
      · rcases List.mem_cons.mp hb with rfl | hb
        · exact ⟨f3, f1, f4, f5⟩
        · rw [List.mem_singleton.mp hb]; exact ⟨g3, g1, g4, g5⟩
    refine ⟨.ref s.heap.objs.size, _, I1, rfl, ⟨_, x, rfl, fr, fun ys hy => by rw [I.tuple_inj hy hq]; exact hx, rfl⟩, ⟨⟨_, by simpa using he2⟩, hit'.at fun o y => (hs2.2 it (Ne.symm hne)).trans y⟩, fun b hb => ?_⟩
    have hb' : b < s.heap.objs.size := by
      rcases List.mem_cons.mp hb with rfl | hb
      · exact lte
      · rw [List.mem_singleton.mp hb]
        obtain ⟨_, y, _⟩ := hit
        exact Heap.lt_size y
    rw [upd_ne (Nat.ne_of_lt hb')]
    exact (hf b hb).1
  done := by
    intro X hP hw hK hc i pins s σ H E I hf st hg
    subst hP hw hK
    obtain ⟨⟨old, he⟩, hit⟩ := st
    obtain ⟨xs, hq, hx⟩ := hg
    obtain ⟨its, rv, p, hz⟩ := I.tuple hq
    obtain ⟨g0, g1, g2, g3, g4, g5⟩ := hf it (by simp)
    have hl := rv.length
    exact ET.pyNext_enumT_end (I.ok.hd hc) he hit (show s.heap.IsTuple a its.toArray from p) (by simp; omega) fun h' eb => ⟨rfl, I.turned (t' := s.toks) (fun b o hb e => eb b o hb e) g0 g1 g3 g4 g5⟩
  self := fun _ _ _ _ _ st h => wpAny_pyIter_enum st.1.choose_spec h
section
variable {X : Cx}
def iEnumT (K : PySem.W.Frag) (ta : TA) : TI := fun σ H R => ta σ H fun vs H1 => ∃ a, vs = [.ref a] ∧ (∃ xs, SqT K H1 a xs) ∧ R (Ite K a) H1
theorem pi_enumT {l : Expr} {ta : TA} {p pos tp : Pos} {es : List Expr} {kk : Nat} (hg : Gl X "enumerate") (hm : X.mg "enumerate" = none) (ha : PA X [l] ta) (hs : starEach [l] X.env = [(false, eval l X.env)] := by rfl) :
    PI X (.Tuple es kk tp) (.Call (.Name "enumerate" p) [l] [] pos) (iEnumT X.K ta) := by
  intro pins s σ H R I h
  refine Call_ (ld_blt I hg hm boot_enumerate (PyProof.Rows.callWith_type1 (thn (ha pos pins s σ H _ I h) fun us s1 ⟨vs, H1, I1, r1, q1⟩ => ?_) hs rfl))
  obtain ⟨a, e, ⟨xs, hq⟩, q⟩ := q1
  subst e
  obtain ⟨u, rfl, ru⟩ := vals1 r1
  cases ru
  obtain ⟨its, rv, pl, hz⟩ := I1.tuple hq
  refine ET.call_enumT (show s1.heap.IsTuple a its.toArray from pl) fun h' he hit kp => ?_
  have I2 : Inv X pins σ H1 { s1 with heap := h' } := I1.kept (t' := s1.toks) kp
  refine wpAny_pyIter_enum (s := { s1 with heap := h' }) he ⟨s1.heap.objs.size + 1, [s1.heap.objs.size + 1, s1.heap.objs.size], _, _, H1, rfl, I2, turn_enumT a _ _ (Nat.succ_ne_self _), ⟨⟨_, he⟩, hit⟩, fun b hb => ?_, q⟩
  have hb' : s1.heap.objs.size ≤ b := by
    rcases List.mem_cons.mp hb with rfl | hb
    · omega
    · rw [List.mem_singleton.mp hb]
      exact Nat.le_refl _
  have := I1.fpOk (H' := H1) hb' (I1.hok.fresh hb')
  exact ⟨this.1, this.2⟩
theorem Walk.enumT {K : PySem.W.Frag} {H1 : Hp} {a : Addr} {xs : List V} (h : SqT K H1 a xs) : Walk (Ite K a) H1 xs.length (fun k x H3 => ∃ p, x = .ref p ∧ H3 p = some (.tup [.int k, xs.getD k .non])) where
  go := fun k H2 s hk => ⟨xs, _, s.seqT h, getD_some (d := V.non) hk⟩
  yld := fun k H2 x H3 s hk y => by
    obtain ⟨p, z, rfl, hp, hz, rfl⟩ := y
    have e := hz xs (s.seqT h)
    rw [getD_some (d := V.non) hk] at e
    cases e
    exact ⟨Same.new hp, p, rfl, upd_same⟩
  stop := fun H2 s => ⟨xs, s.seqT h, Nat.le_refl _⟩
end
end L2

namespace L2
open PySem PySem.Spec PyProof.Rows
/-! ### a dict of the module: texts to numbers -/
def tabD (D : List (Str × Int)) : List (PyData × PyData) := D.map fun p => (PyData.str p.1, PyData.int p.2)
def TabK (P : Program) (w : World) (K : PySem.W.Frag) (d : Addr) (D : List (Str × Int)) : Prop := ∀ h : Heap, K.In h → StrTab P w h d (tabD D)
section
variable {X : Cx}
theorem op_notin_tab : OpR X (compareOp .NotIn) (fun x y H Q => ∃ z d D, x = .str z ∧ y = .ref d ∧ TabK X.prog X.w X.K d D ∧ Q (.bl (!(lookup (.str z) (tabD D)).isSome)) H) := by
  intro pins s σ H x y v u Q I rx ry h
  obtain ⟨z, d, D, rfl, rfl, T, q⟩ := h
  obtain ⟨t, rfl⟩ := rx
  cases ry
  exact notin_strTab (T _ I.kIn) ⟨.bl _, H, I.tok _, rfl, q⟩
def tTabIx (P : Program) (w : World) (K : PySem.W.Frag) (ta tb : TE) : TE := fun σ H Q => ta σ H fun x H1 => tb σ H1 fun y H2 => ∃ d z D i, x = .ref d ∧ y = .str z ∧ TabK P w K d D ∧ lookup (.str z) (tabD D) = some (.int i) ∧ Q (.int i) H2
theorem pe_tabIx {a b : Expr} {ta tb : TE} {pos : Pos} (ha : PE X a ta) (hb : PE X b tb) (hs : PlainIx b) (hg : ∀ d r, letTemporaryGo a (.ref d) r = pure () := by intro _ _; with_unfolding_all rfl) : PE X (.Subscript a b pos) (tTabIx X.prog X.w X.K ta tb) := by
  intro pins s σ H Q I h
  refine Subscript_ (binT ha hb I h fun v u s2 x y H2 I2 rx ry q => ?_)
  obtain ⟨d, z, D, i, rfl, rfl, T, hl, q⟩ := q
  cases rx
  obtain ⟨t, rfl⟩ := ry
  refine item_strTab (T _ I2.kIn) hl (fun v fl => ?_) (hs _ _) (hg d)
  have fl := fl s2.heap
  cases fl with
  | int i t => exact ⟨.int i, H2, I2.tok _, ⟨t, rfl⟩, q⟩
/-! ### xs[::-1] -/
def tRev (K : PySem.W.Frag) (te : TE) (tk : TE) : TE := fun σ H Q => te σ H fun x H1 => tk σ H1 fun k H2 => ∃ a xs, x = .ref a ∧ k = .int (-1) ∧ SqL K H2 a xs ∧ ∀ p, H2 p = none → Q (.ref p) (upd H2 p (.lst xs.reverse))
theorem pe_rev {e k : Expr} {te tk : TE} {p2 pos : Pos} (he : PE X e te) (hk : PE X k tk) : PE X (.Subscript e (.Slice none none (some k) p2) pos) (tRev X.K te tk) := by
  intro pins s σ H Q I h
  refine Subscript_ (thn (he pins s σ H _ I h) fun v s1 ⟨x, H1, I1, r1, q1⟩ => ?_)
  refine wpAny_Slice ?_
  rw [evalPart_none]
  refine wpAny_pure (wpAny_pure ?_)
  rw [evalPart_some]
  refine thn (hk pins s1 σ H1 _ I1 q1) fun vk s2 ⟨k, H2, I2, rk, q2⟩ => ?_
  obtain ⟨a, xs, rfl, rfl, hx, q⟩ := q2
  cases r1
  obtain ⟨t, rfl⟩ := rk
  have I3 : Inv X pins σ H2 { s2 with heap := s2.heap.push { cls := .type "slice", data := .fields #[.none, .none, .int (-1) t] } } := I2.kept (t' := s2.toks) fun b ob q => Heap.get?_push_of_some _ q
  obtain ⟨its, r, ht, hz⟩ := I3.list hx
  have hlen := r.length
  show wpAny (model X.prog X.w) X.A (subscriptTail e (.Slice none none _ p2) (.ref a) (.ref s2.heap.objs.size)) (EP X pins σ Q) X.xe { s2 with heap := s2.heap.push { cls := .type "slice", data := .fields #[.none, .none, .int (-1) t] } }
  refine tail_any (ops := [.ref a, .ref s2.heap.objs.size]) ht.isList.typeIs slot_list_getitem.lookup ?_ (by with_unfolding_all rfl)
  refine wpAny_getItem_list_slice ht.isList (Heap.IsSliceOf.new ..) .none .none (.int (-1) t) (by decide) ?_ (by rw [List.size_toArray] <;> omega)
  rw [PySem.W.krv_pick]
  refine ⟨.ref _, _, I3.laid (t' := s2.toks) (o := .lst xs.reverse) (fun b ob q => Heap.get?_push_of_some _ q) (Nat.le_refl _) ?_, rfl, q _ (I3.hok.fresh (Nat.le_refl _))⟩
  refine ⟨by rw [List.length_reverse]; exact hz, _, 0, r.reverse, Heap.get?_push_size _ rfl⟩
/-! ### xs.index(x), flat items -/
def rIndex (K : PySem.W.Frag) : V → List V → Hp → VK → Prop := fun x vs H Q => ∃ (l : Addr) (xs : List V) (y : V) (j : Nat) (z : V), x = .ref l ∧ vs = [y] ∧ SqL K H l xs ∧ flatV y = true ∧ xs.all flatV = true ∧ xs[j]? = some z ∧ eqV z y = true ∧ (∀ (i : Nat) (z : V), i < j → xs[i]? = some z → eqV z y = false) ∧ Q (.int (j : Int)) H
theorem mt_index : MtM X "list.index" (rIndex X.K) := by
  intro pins s σ H x vs v us Q I rx rv h
  obtain ⟨l, xs, y, j, z, rfl, rfl, hx, fy, fx, ej, ez, hno, q⟩ := h
  cases rx
  obtain ⟨u, rfl, ru⟩ := rv.one
  obtain ⟨its, r, ht, hz⟩ := I.list hx
  obtain ⟨⟨cls, dd, data, sl⟩, ho, hc, n, hd⟩ := id ht.isList
  simp only at hc hd
  subst hc hd
  have hlen := r.length
  obtain ⟨uz, euz, rz⟩ := r.get ej
  have hj : j < its.length := (List.getElem?_eq_some_iff.mp euz).1
  have hline : (sizeLine : Nat) < 2 ^ 62 := by rw [sizeLine_eq]; decide
  have fl : ∀ {i : Nat} {z : V}, xs[i]? = some z → flatV z = true := fun {i z} e => List.all_eq_true.mp fx _ (List.mem_of_getElem? e)
  refine call_meets PySem.F.slot_list_index ⟨_, ho, rfl⟩ PySem.F.entry_list_index (PySem.F.args_list_index_2 _ _)
    (SeqAt.list_indexAt l its.toArray n dd sl u (eqU y) j (by simpa using hj) (by omega) ?_ ?_) ⟨ho, fun w hw => mem_eqAt ru fy r fx w (by simpa using hw), ?_⟩
  · have : its.toArray[j] = uz := by
      have := List.getElem?_eq_getElem hj
      rw [euz] at this
      simpa using (Option.some.inj this).symm
    rw [this, eqU_of rz (fl ej), ez]
  · intro m hm hlt
    have hm' : m < xs.length := by simp at hm; omega
    obtain ⟨um, eum, rm⟩ := r.get (List.getElem?_eq_getElem hm')
    have : its.toArray[m] = um := by
      have h2 : m < its.length := by omega
      have := List.getElem?_eq_getElem h2
      rw [eum] at this
      simpa using (Option.some.inj this).symm
    rw [this, eqU_of rm (fl (List.getElem?_eq_getElem hm'))]
    exact hno m _ hlt (List.getElem?_eq_getElem hm')
  · exact ⟨.int j, H, I.tok _, ⟨_, rfl⟩, q⟩
end
end L2

/-! ### xs.count(x), t.count(x), flat items -/
namespace L2
open PySem PySem.Spec PyProof.Rows
theorem countP_eqU {x : V} : ∀ {xs : List V} {us : List Value}, Vals xs us → xs.all flatV = true → us.countP (eqU x) = xs.countP fun y => eqV y x
  | _, _, .nil, _ => rfl
  | y :: xs, u :: us, .cons r t, f => by
    rw [List.all_cons, Bool.and_eq_true] at f
    rw [List.countP_cons, List.countP_cons, eqU_of r f.1, countP_eqU t f.2]
section
variable {X : Cx}
def rCountL (K : PySem.W.Frag) : V → List V → Hp → VK → Prop := fun x vs H Q => ∃ (l : Addr) (xs : List V) (y : V), x = .ref l ∧ vs = [y] ∧ SqL K H l xs ∧ flatV y = true ∧ xs.all flatV = true ∧ Q (.int ((xs.countP fun z => eqV z y : Nat) : Int)) H
theorem mt_count : MtM X "list.count" (rCountL X.K) := by
  intro pins s σ H x vs v us Q I rx rv h
  obtain ⟨l, xs, y, rfl, rfl, hx, fy, fx, q⟩ := h
  cases rx
  obtain ⟨u, rfl, ru⟩ := rv.one
  obtain ⟨its, r, ht, hz⟩ := I.list hx
  obtain ⟨⟨cls, dd, data, sl⟩, ho, hc, n, hd⟩ := id ht.isList
  simp only at hc hd
  subst hc hd
  refine call_meets PySem.F.slot_list_count ⟨_, ho, rfl⟩ PySem.F.entry_list_count (PySem.F.args_list_count_2 _ _)
    (SeqAt.list_countAt l its.toArray n dd sl u (eqU y)) ⟨ho, fun w hw => mem_eqAt ru fy r fx w (by simpa using hw), ?_⟩
  refine ⟨.int _, H, I.tok _, ⟨_, rfl⟩, ?_⟩
  rw [countP_eqU r fx]
  exact q
def rCountT : V → List V → Hp → VK → Prop := fun x vs H Q => ∃ (l : Addr) (xs : List V) (y : V), x = .ref l ∧ vs = [y] ∧ H l = some (.tup xs) ∧ flatV y = true ∧ xs.all flatV = true ∧ Q (.int ((xs.countP fun z => eqV z y : Nat) : Int)) H
/-- t.m(e), t a tracked tuple -/
def tBMT (r : V → List V → Hp → VK → Prop) (to : TE) (t : TA) : TE := fun σ H Q => to σ H fun x H1 => (∃ p xs, x = .ref p ∧ H1 p = some (.tup xs)) ∧ t σ H1 fun xs H2 => r x xs H2 Q
theorem pe_bmT {o e : Expr} {es : List Expr} {to : TE} {t : TA} {name : Str} {apos cpos : Pos} {id : String} {r : V → List V → Hp → VK → Prop} (slot : Slot "tuple" name id) (hty : typeOf (.builtin id) = pure (.type "method_descriptor")) (hm : MtM X id r) (ho : PE X o to) (ha : PA X (e :: es) t)
    (hbase : attributeBase o name X.env (eval o X.env) = eval o X.env := by rfl)
    (hfew : ((backTo cpos (starEach (e :: es) X.env)).all (fun x => !x.1) && (backToKw cpos (keywordEach [] X.env)).all (fun x => x.1.isSome)
      && decide ((e :: es).length + ([] : List Keyword).length + (if ([] : List Keyword).isEmpty then 0 else 1) < 30)) = true := by rfl)
    (hline : (apos.endLine == cpos.line) = true := by rfl) (hs : starEach (e :: es) X.env = (false, eval e X.env) :: starEach es X.env := by rfl) (hplain : (backTo cpos (starEach es X.env)).any (·.1) = false := by rfl) :
    PE X (.Call (.Attribute o name apos) (e :: es) [] cpos) (tBMT r to t) := by
  intro pins s σ H Q I h
  refine wpAny_Call_method_late hbase hfew hline rfl (thn (ho pins s σ H _ I h) fun v s1 ⟨x, H1, I1, r1, ⟨p, ys, ex, hp⟩, q1⟩ => ?_)
  subst ex
  obtain rfl : v = Value.ref p := r1
  obtain ⟨z, its, rr, ob, ho', ⟨hc, _⟩, hdd⟩ := (show ObjOk X.prog X.w H1 s1.heap p (.tup ys) from I1.hok p _ hp)
  refine ⟨"tuple", id, PySem.F.plainAttrs_tuple, slot, hty, ⟨ob, ho', hc⟩, (fun a e => by cases e; exact ⟨ob, ho', hdd⟩), ?_⟩
  have hA := ha cpos pins s1 σ H1 _ I1 q1
  rw [hs] at hA ⊢
  refine Calls.callWith_builtin (by show (false || (backTo cpos (starEach es X.env)).any (·.1)) = false; rw [hplain] <;> rfl) (Calls.evalArgs_plain ?_)
  exact thn hA fun us s2 ⟨vs, H2, I2, r2, q2⟩ => hm pins s2 σ H2 (.ref p) vs (.ref p) us Q I2 rfl r2 q2
theorem mt_countT : MtM X "tuple.count" rCountT := by
  intro pins s σ H x vs v us Q I rx rv h
  obtain ⟨l, xs, y, rfl, rfl, hx, fy, fx, q⟩ := h
  cases rx
  obtain ⟨u, rfl, ru⟩ := rv.one
  obtain ⟨z, its, r, o, ho, ⟨hc, n, hd⟩, hdd⟩ := (show ObjOk X.prog X.w H s.heap l (.tup xs) from I.hok l _ hx)
  obtain ⟨cls, dd, data, sl⟩ := o
  simp only at hc hd
  subst hc hd
  refine call_meets PySem.F.slot_tuple_count ⟨_, ho, rfl⟩ PySem.F.entry_tuple_count (PySem.F.args_tuple_count_2 _ _)
    (SeqAt.tuple_countAt l its.toArray n dd sl u (eqU y)) ⟨ho, fun w hw => mem_eqAt ru fy r fx w (by simpa using hw), ?_⟩
  refine ⟨.int _, H, I.tok _, ⟨_, rfl⟩, ?_⟩
  rw [countP_eqU r fx]
  exact q
end
end L2

/-! OWN PART 9: defs within defs, their cells -/
set_option maxHeartbeats 1000000
namespace L2
open PySem PySem.Spec PyProof.Rows
theorem cellsFrom_app : ∀ (names : List (Str × NameKind)) (n : Nat) (acc : List (Str × Addr)), cellsFrom n names acc = cellsFrom n names [] ++ acc
  | [], _, _ => rfl
  | (x, k) :: r, n, acc => by
    unfold cellsFrom
    split
    · rw [cellsFrom_app r (n + 1) ((x, n) :: acc), cellsFrom_app r (n + 1) [(x, n)], List.append_assoc]
      rfl
    · exact cellsFrom_app r n acc
theorem lookup_app {β : Type} (x : Str) : ∀ (l m : List (Str × β)), (l ++ m).lookup x = (l.lookup x).or (m.lookup x)
  | [], m => by simp
  | (y, b) :: l, m => by
    rw [List.cons_append, List.lookup_cons, List.lookup_cons]
    split
    · rfl
    · exact lookup_app x l m
/-- a new frame with one parameter, behind a closure's cells -/
structure InClo (h : Heap) (L : Addr) (scope : Scope) (x : Str) (v : Value) (h' : Heap) : Prop where
  ns : h'.Ns L (if scope.names.lookup x = some .local then (fun y => if y = x then some v else none) else fun _ => none)
  cell : ∀ n c, (cellsFrom (L + 1) scope.names []).lookup n = some c → h'.IsCell c (if scope.names.lookup x = some .cell ∧ n = x then some v else none)
  apart : (cellsFrom (L + 1) scope.names []).Pairwise fun x y => x.2 ≠ y.2
  above : ∀ n c, (n, c) ∈ cellsFrom (L + 1) scope.names [] → L < c
  keep : ∀ b o, h.get? b = some o → h'.get? b = some o
theorem newEnv_clo {M : Model} {A : Around} {E : Value → Shared → Prop} {s : Shared} {scope : Scope} {globals : Addr} {cl : List (Str × Addr)} {x : Str} {v : Value} {qual : Str} {func : Option Addr} {code : Value} {builtins : Addr} {Q : Env → Shared → Prop}
    (hk : scope.kind = .function) (hx : scope.names.lookup x = some .local ∨ scope.names.lookup x = some .cell)
    (hQ : ∀ h' tk, InClo s.heap s.heap.objs.size scope x v h' → Q (newEnv scope s.heap.objs.size globals (cellsFrom (s.heap.objs.size + 1) scope.names cl) qual func code none builtins) { s with heap := h', toks := tk }) :
    wpAny M A (newFunctionEnv scope globals cl [(x, v)] qual func code none builtins) Q E s := by
  simp only [newFunctionEnv, Option.isSome_none, Bool.false_eq_true, if_false]
  refine wpAny_bind (wpAny_alloc ?_)
  refine wpAny_bind (wpAny_layCells _ (fun name kind cells => by cases hkc : kind == NameKind.cell <;> simp [hkc]) _ _ _ _ ?_)
  have ok := cellsFrom_ok scope.names (s.heap.push { cls := .type "frame", data := .dict #[] }) (s.heap.objs.size + 1) [] ⟨fun _ _ hm => (nomatch hm), List.Pairwise.nil⟩ (by rw [Heap.size_push]; exact Nat.le_refl _)
  rw [Heap.size_push] at ok
  rw [show ({ s with heap := s.heap.push { cls := .type "frame", data := .dict #[] } } : Shared).heap.objs.size = s.heap.objs.size + 1 from Heap.size_push ..]
  have keep : ∀ b o, s.heap.get? b = some o → (pushCells (s.heap.push { cls := .type "frame", data := .dict #[] }) scope.names).get? b = some o := fun b o e => pushCells_keeps _ _ b o (Heap.get?_push_of_some _ e)
  have ns0 : (pushCells (s.heap.push { cls := .type "frame", data := .dict #[] }) scope.names).Ns s.heap.objs.size fun _ => none := (Heap.Ns.new s.heap (.type "frame")).keeps (pushCells_keeps _ _)
  refine wpAny_bind ?_
  rw [List.forIn_cons]
  have neL : ∀ b o, s.heap.get? b = some o → b ≠ s.heap.objs.size := fun b o e => Nat.ne_of_lt (Heap.lt_size e)
  rcases hx with hx | hx
  · refine wpAny_bind (wpAny_bind (wpAny_storeName_local (env := newEnv scope s.heap.objs.size globals (cellsFrom (s.heap.objs.size + 1) scope.names cl) qual func code none builtins) hx ns0 (fun h' hn' hs' => wpAny_pure ?_) (by show (scope.kind == .class || (scope.kind == .module && _)) = false; rw [hk]; rfl)))
    show wpAny _ _ (pure PUnit.unit) _ _ _
    refine wpAny_pure (wpAny_pure (hQ h' _ ⟨?_, fun n c e => ?_, ok.apart, fun n c hm => (ok.empty n c hm).2, fun b o e => hs'.extBut b o (neL b o e) (keep b o e)⟩))
    · rw [if_pos hx]
      exact hn'
    · rw [if_neg (fun z => by rw [hx] at z; exact absurd z.1 (by decide))]
      exact ((ok.empty n c (mem_of_lookup e)).1).sameBut hs' (Nat.ne_of_gt (ok.empty n c (mem_of_lookup e)).2)
  · have hcx : ∃ c, (cellsFrom (s.heap.objs.size + 1) scope.names []).lookup x = some c := cell_has hx
    obtain ⟨c, hc⟩ := hcx
    have hc' : (cellsFrom (s.heap.objs.size + 1) scope.names cl).lookup x = some c := by
      rw [cellsFrom_app, lookup_app, hc]
      rfl
    have hLc := (ok.empty x c (mem_of_lookup hc)).2
    refine wpAny_bind (wpAny_bind (wpAny_storeName_cell (env := newEnv scope s.heap.objs.size globals (cellsFrom (s.heap.objs.size + 1) scope.names cl) qual func code none builtins) hk hx hc' (ok.empty x c (mem_of_lookup hc)).1 fun h' hn' hs' => wpAny_pure ?_))
    show wpAny _ _ (pure PUnit.unit) _ _ _
    refine wpAny_pure (wpAny_pure (hQ h' _ ⟨?_, fun n c2 e => ?_, ok.apart, fun n c hm => (ok.empty n c hm).2, fun b o e => hs'.extBut b o ?_ (keep b o e)⟩))
    · rw [if_neg (by rw [hx]; decide)]
      exact ns0.sameBut hs' (Nat.ne_of_lt hLc)
    · by_cases hn : n = x
      · subst hn
        rw [hc] at e
        cases e
        rw [if_pos ⟨hx, rfl⟩]
        exact hn'
      · rw [if_neg (fun z => hn z.2)]
        exact ((ok.empty n c2 (mem_of_lookup e)).1).sameBut hs' fun z => hn (name_of_addr ok.apart (mem_of_lookup e) (z ▸ mem_of_lookup hc))
    · exact Nat.ne_of_lt (Nat.lt_trans (Heap.lt_size e) hLc)
end L2

set_option maxHeartbeats 1000000
namespace L2
open PySem PySem.Spec PyProof.Rows
/-- a closure's cells as they stand: the values of the free names -/
structure CellsAt (s : Shared) (H : Hp) (cl : List (Str × Addr)) (frees : List Str) (fvs : List V) : Prop where
  inj : ∀ x y c, cl.lookup x = some c → cl.lookup y = some c → x = y
  free : ∀ x c, cl.lookup x = some c → H c = none
  cell : ∀ x c, cl.lookup x = some c → ∃ v, s.heap.IsCell c v
  val : ∀ (i : Nat) (x : Str) (v : V), frees[i]? = some x → fvs[i]? = some v → ∃ c u, cl.lookup x = some c ∧ s.heap.IsCell c (some u) ∧ RelV v u
/-- names: the parameter, the free names, the others -/
structure FnScopeC (N : List Str) (p : Str) (frees : List Str) (sc : Scope) : Prop where
  kind : sc.kind = .function
  co : sc.isCoroutine = false
  gen : sc.isGenerator = false
  nd : N.Nodup
  pre : N.take (frees.length + 1) = p :: frees
  par : sc.names.lookup p = some .local ∨ sc.names.lookup p = some .cell
  fre : ∀ y ∈ sc.names, y.2 = .free → y.1 ∈ frees
  frk : ∀ x ∈ frees, sc.names.lookup x = some .free
  noc : ∀ y ∈ sc.names, y.2 = .cell → y.1 ∉ frees
theorem mem_cellsFrom {x : Str} {c : Addr} : ∀ {names : List (Str × NameKind)} {n : Nat}, (x, c) ∈ cellsFrom n names [] → (x, NameKind.cell) ∈ names
  | [], _, h => by simp [cellsFrom] at h
  | (y, k) :: r, n, h => by
    unfold cellsFrom at h
    split at h
    · rename_i hk
      rw [cellsFrom_app] at h
      rcases List.mem_append.mp h with h | h
      · exact List.mem_cons_of_mem _ (mem_cellsFrom h)
      · have e : k = .cell := by simpa using hk
        have h' := List.mem_singleton.mp h
        cases h'
        rw [e]
        exact List.mem_cons_self
    · exact List.mem_cons_of_mem _ (mem_cellsFrom h)
def startC (N : List Str) (v : V) (fvs : List V) : St := some v :: fvs.map some ++ List.replicate (N.length - (fvs.length + 1)) none
/-- the context of a closure's body -/
abbrev cxC (P : Program) (w : World) (K : PySem.W.Frag) (mg : Str → Option Value) (base : Heap) (N : List Str) (qual : Str) (scope : Scope) (f : Addr) (cd : Value) (cl : List (Str × Addr)) (A : Around) (outer : List Env) (s : Shared) (H : Hp) : Cx where
  prog := P
  w := w
  K := K
  mg := mg
  base := base
  A := A.deeper (PySem.W.envX qual scope s.heap.objs.size f cd (cellsFrom (s.heap.objs.size + 1) scope.names cl))
  N := N
  s₀ := s
  H₀ := H
  env := PySem.W.envX qual scope s.heap.objs.size f cd (cellsFrom (s.heap.objs.size + 1) scope.names cl)
  outer := outer
  stack := PySem.W.envX qual scope s.heap.objs.size f cd (cellsFrom (s.heap.objs.size + 1) scope.names cl) :: outer
  ex := []
  calm := true
  fn := fun y => scope.names.lookup y == some .cell
  pn := []
  xe := fun _ _ => False
theorem inv_startC {P : Program} {w : World} {K : PySem.W.Frag} {mg : Str → Option Value} {base : Heap} {N frees : List Str} {p qual : Str} {scope : Scope} {f : Addr} {cd : Value} {cl : List (Str × Addr)} {A : Around} {outer : List Env} {s : Shared} {H : Hp} {u : Value} {v : V} {fvs : List V} {h' : Heap} {tk : Nat}
    (S : FnScopeC N p frees scope) (hd : A.handled = none) (e0 : Env0 P w K mg base A outer s H) (r : RelV v u) (hfl : fvs.length = frees.length) (C : CellsAt s H cl frees fvs) (x : InClo s.heap s.heap.objs.size scope p u h') :
    Inv (cxC P w K mg base N qual scope f cd cl A outer s H) [] (startC N v fvs) H { s with heap := h', toks := tk } := by
  have hpl : frees.length + 1 ≤ N.length := by have := congrArg List.length S.pre; rw [List.length_take, List.length_cons] at this; omega
  have look : ∀ y c, (cellsFrom (s.heap.objs.size + 1) scope.names cl).lookup y = some c → (cellsFrom (s.heap.objs.size + 1) scope.names []).lookup y = some c ∨ ((cellsFrom (s.heap.objs.size + 1) scope.names []).lookup y = none ∧ cl.lookup y = some c) := fun y c e => by
    rw [cellsFrom_app, lookup_app] at e
    cases q : (cellsFrom (s.heap.objs.size + 1) scope.names []).lookup y with
    | some c' => rw [q] at e; exact .inl e
    | none => rw [q] at e; exact .inr ⟨rfl, e⟩
  have ownGe : ∀ y c, (cellsFrom (s.heap.objs.size + 1) scope.names []).lookup y = some c → s.heap.objs.size < c := fun y c e => x.above y c (mem_of_lookup e)
  have clLt : ∀ y c, cl.lookup y = some c → c < s.heap.objs.size := fun y c e => by
    obtain ⟨v, z⟩ := C.cell y c e
    exact z.lt
  have noA : ∀ b : Addr, b ∉ (cxC P w K mg base N qual scope f cd cl A outer s H).ex := fun b z => absurd (show b ∈ ([] : List Addr) from z) (by simp)
  refine ⟨⟨e0.mod, S.kind, rfl, rfl, Nat.le_refl _, fun y z c h1 h2 => ?_, fun y hy => ?_, fun y c hf h => ?_, fun _ => hd, Around.frames_deeper e0.frames, .inr ⟨rfl, rfl⟩, fun b z => absurd z (noA b), e0.bs, e0.bsz, fun b _ _ => noA b, fun b z => absurd z (noA b), e0.funs, e0.frf⟩,
    rfl, e0.bare, Un.kept x.keep, ⟨_, x.ns, fun i y v' h1 h2 h3 => ?_⟩, fun y c h => ?_, e0.hok.fresh (Nat.le_refl _), fun y c h => ?_, fun p hp => absurd (show p ∈ ([] : List (Addr × Obj)) from hp) (by simp), e0.hok.kept x.keep, ?_⟩
  · rcases look y c h1 with a1 | ⟨_, a1⟩ <;> rcases look z c h2 with a2 | ⟨_, a2⟩
    · exact name_of_addr x.apart (mem_of_lookup a1) (mem_of_lookup a2)
    · exact absurd (ownGe y c a1) (Nat.not_lt.mpr (Nat.le_of_lt (clLt z c a2)))
    · exact absurd (ownGe z c a2) (Nat.not_lt.mpr (Nat.le_of_lt (clLt y c a1)))
    · exact C.inj y z c a1 a2
  · have hy : scope.names.lookup y = some .cell ∨ scope.names.lookup y = some .free := hy
    show ∃ c, (cellsFrom (s.heap.objs.size + 1) scope.names cl).lookup y = some c
    rw [cellsFrom_app, lookup_app]
    rcases hy with hy | hy
    · obtain ⟨c, e⟩ := cell_has (n := s.heap.objs.size + 1) hy
      exact ⟨c, by rw [e]; rfl⟩
    · have hm := S.fre _ (mem_of_lookup hy) rfl
      obtain ⟨i, hi⟩ := List.getElem?_of_mem hm
      have hil : i < fvs.length := by
        have := (List.getElem?_eq_some_iff.mp hi).1
        omega
      obtain ⟨c, u', e, _⟩ := C.val i y _ hi (List.getElem?_eq_getElem hil)
      cases q : (cellsFrom (s.heap.objs.size + 1) scope.names []).lookup y with
      | some c' => exact ⟨c', rfl⟩
      | none => exact ⟨c, e⟩
  · have hf' : scope.names.lookup y = some .cell := by
      have : (scope.names.lookup y == some NameKind.cell) = true := hf
      simpa using this
    obtain ⟨c', e⟩ := cell_has (n := s.heap.objs.size + 1) hf'
    rcases look y c h with a1 | ⟨a1, _⟩
    · exact Nat.le_of_lt (ownGe y c a1)
    · rw [e] at a1
      cases a1
  · have h1 : N[i]? = some y := h1
    unfold startC at h2
    by_cases hi0 : i = 0
    · subst hi0
      simp at h2
      subst h2
      have hp : p = y := by
        have : (N.take (frees.length + 1))[0]? = some p := by rw [S.pre]; rfl
        rw [List.getElem?_take_of_lt (by omega), h1] at this
        exact (Option.some.inj this).symm
      subst hp
      refine ⟨u, r, ?_⟩
      rcases S.par with k | k
      · refine .inl ⟨k, ?_⟩
        rw [if_pos k]
        simp
      · obtain ⟨c, e⟩ := cell_has (n := s.heap.objs.size + 1) k
        refine .inr ⟨.inl k, c, ?_, ?_⟩
        · show (cellsFrom (s.heap.objs.size + 1) scope.names cl).lookup p = some c
          rw [cellsFrom_app, lookup_app, e]
          rfl
        · have q := x.cell p c e
          rw [if_pos ⟨k, rfl⟩] at q
          exact q
    · obtain ⟨j, rfl⟩ : ∃ j, i = j + 1 := ⟨i - 1, by omega⟩
      have h2' : (fvs.map some ++ List.replicate (N.length - (fvs.length + 1)) none)[j]? = some (some v') := by simpa using h2
      have hj : j < fvs.length := by
        by_cases hj : j < fvs.length
        · exact hj
        · rw [List.getElem?_append_right (by simpa using hj), List.getElem?_replicate] at h2'
          split at h2' <;> cases h2'
      rw [List.getElem?_append_left (by simpa using hj), List.getElem?_map] at h2'
      have hfv : fvs[j]? = some v' := by
        cases e : fvs[j]? with
        | none => rw [e] at h2'; cases h2'
        | some a => rw [e] at h2'; cases h2'; rfl
      have hfr : frees[j]? = some y := by
        have : (N.take (frees.length + 1))[j + 1]? = some y := by rw [List.getElem?_take_of_lt (by omega)]; exact h1
        rw [S.pre] at this
        simpa using this
      obtain ⟨c, u', e, z, rv⟩ := C.val j y v' hfr hfv
      have hk := S.frk y (List.mem_of_getElem? hfr)
      have hnone : (cellsFrom (s.heap.objs.size + 1) scope.names []).lookup y = none := by
        cases q : (cellsFrom (s.heap.objs.size + 1) scope.names []).lookup y with
        | none => rfl
        | some c' => exact absurd (List.mem_of_getElem? hfr) (S.noc _ (mem_cellsFrom (mem_of_lookup q)) rfl)
      refine ⟨u', rv, .inr ⟨.inr hk, c, ?_, z.keeps x.keep⟩⟩
      show (cellsFrom (s.heap.objs.size + 1) scope.names cl).lookup y = some c
      rw [cellsFrom_app, lookup_app, hnone]
      exact e
  · rcases look y c h with a | ⟨_, a⟩
    · exact ⟨_, x.cell y c a⟩
    · obtain ⟨v, z⟩ := C.cell y c a
      exact ⟨v, z.keeps x.keep⟩
  · rcases look y c h with a | ⟨_, a⟩
    · exact e0.hok.fresh (Nat.le_of_lt (ownGe y c a))
    · exact C.free y c a
  · show (startC N v fvs).length = N.length
    unfold startC
    rw [List.length_append, List.length_cons, List.length_map, List.length_replicate]
    omega
/-- a closure's promise: the parameter's value, the heap .. (fvs: the free names' values) -/
structure FnOkC (P : Program) (w : World) (K : PySem.W.Frag) (mg : Str → Option Value) (base : Heap) (k : Nat) (fd : FuncData) (p : Str) (frees : List Str) (fvs : List V) (sp : Sp) : Prop where
  run : ∀ (A : Around) (outer : List Env) (s : Shared) (H : Hp) (f : Addr) (u : Value) (v : V) (Q : VK), Room k A → Env0 P w K mg base A outer s H → RelV v u → (∃ o, s.heap.get? f = some o ∧ o.data = .func fd) → s.heap.CodeRec fd.code fd.qualname →
    CellsAt s H fd.closure frees fvs → sp [v] H Q E0 → codeAny (model P w) A (.call (.ref f) ⟨[u], []⟩) (CR CX0 outer P w H s Q E0) s
theorem clo_of {P : Program} {w : World} {K : PySem.W.Frag} {mg : Str → Option Value} {base : Heap} {k : Nat} {name qual : Str} {params : Arguments} {body : List Stmt} {scope : Scope} {cl : List (Str × Addr)} {doc pm cdv ct : Value}
    {N frees : List Str} {p : Str} {fvs : List V} {sp : Sp} (S : FnScopeC N p frees scope) (hfl : fvs.length = frees.length)
    (hbind : ∀ u : Value, bindArgs (PySem.W.fnX name qual params body scope cl .none .none doc pm none cdv ct) ⟨[u], []⟩ = pure [(p, u)])
    (hbody : ∀ (A : Around) (outer : List Env) (s : Shared) (H : Hp) (f : Addr) (v : V) (Q : VK), Room k (A.deeper (PySem.W.envX qual scope s.heap.objs.size f cdv (cellsFrom (s.heap.objs.size + 1) scope.names cl))) → sp [v] H Q E0 →
      ∃ t, PSs (cxC P w K mg base N qual scope f cdv cl A outer s H) body t ∧ t { nx := fun _ H' => Q .non H', rt := Q } (startC N v fvs) H) :
    FnOkC P w K mg base (k + 1) (PySem.W.fnX name qual params body scope cl .none .none doc pm none cdv ct) p frees fvs sp := by
  refine ⟨fun A outer s H f u v Q hr e0 r hf hcd C hsp => ?_⟩
  obtain ⟨o, ho, hod⟩ := hf
  have lim : s.heap.NoLimit := e0.mod.nolimit.keeps fun b o e => (e0.bs b o e).1
  refine codeAny_call_function hr.depth ho hod S.co S.gen rfl hcd ?_
  rw [hbind u]
  refine wpAny_pure ?_
  refine newEnv_clo S.kind S.par fun h' tk x => ?_
  refine ⟨lim.keeps x.keep, codeAny_func ?_⟩
  obtain ⟨t, ht, hq⟩ := hbody A outer s H f v Q (hr.deeper _) hsp
  have I : Inv (cxC P w K mg base N qual scope f cdv cl A outer s H) [] (startC N v fvs) H { s with heap := h', toks := tk } := inv_startC S hr.hd e0 r hfl C x
  refine wpAny_mono (ht [] _ (startC N v fvs) H _ I hq) (fun fl s' hs => ?_) fun e s' hs => hs.elim
  have fin : ∀ {σ' : St} {H' : Hp} {v : V} {u : Value}, Inv (cxC P w K mg base N qual scope f cdv cl A outer s H) [] σ' H' s' → RelV v u → Q v H' → CE outer P w H s Q u s' :=
    fun {σ' H' v u} J rv q => ⟨v, H', J.os, J.bare, J.base, J.hok, rv, q⟩
  cases fl with
  | ret u =>
    obtain ⟨v, σ', H', J, rv, q⟩ := hs
    exact fin J rv q
  | next =>
    obtain ⟨σ', H', J, q⟩ := hs
    exact fin (v := V.non) (u := Value.none) J rfl q
  | brk =>
    obtain ⟨_, _, _, q⟩ := hs
    exact False.elim q
  | cont =>
    obtain ⟨_, _, _, q⟩ := hs
    exact False.elim q
end L2

set_option maxHeartbeats 1000000
namespace L2
open PySem PySem.Spec PyProof.Rows
/-- the module's __builtins__, which the making of a function reads -/
structure BMain (mg : Str → Option Value) (base : Heap) : Prop where
  at' : ∃ bm ob, mg "__builtins__" = some (.ref bm) ∧ bm ≠ builtinsNs ∧ base.get? bm = some ob ∧ ob.cls = .type "module" ∧ ob.dict = some builtinsNs ∧ ob.data = .plain
/-- a function's object, a code object's record -/
def fnφ (f : Addr) (fd : FuncData) : Heap → Prop := fun h => ∃ o, h.get? f = some o ∧ o.data = .func fd
def cdφ (c : Addr) (q : Str) : Heap → Prop := fun h => h.CodeRec (.ref c) q
theorem fnφ_ok {P : Program} {w : World} {H : Hp} {h : Heap} {f : Addr} {fd : FuncData} (e : fnφ f fd h) : ObjOk P w H h f (.ext (fnφ f fd)) := by
  obtain ⟨o, e, d⟩ := e
  exact ⟨⟨o, e, d⟩, ⟨o, e⟩, fun h1 h2 ⟨o, e, d⟩ k => ⟨o, k o e, d⟩⟩
theorem cdφ_ok {P : Program} {w : World} {H : Hp} {h : Heap} {c : Addr} {q : Str} (e : cdφ c q h) : ObjOk P w H h c (.ext (cdφ c q)) := by
  obtain ⟨c', oc, vs, t, e1, e2, r⟩ := id e
  cases e1
  exact ⟨e, ⟨oc, e2⟩, fun h1 h2 ⟨c', oc, vs, t, e1, e2, r⟩ k => by
    cases e1
    exact ⟨c, oc, vs, t, rfl, k oc e2, r⟩⟩
def tDef (i : Nat) (P : Addr) (qual : Str) (pos : Pos) (mk : Addr → Value → Value → Value → FuncData) : TS := fun D σ H => ∃ ps, H P = some (.tbl ps) ∧ TriplesOk ps.toList ∧
  ((codeAmong pos ps.toList = none ∧ ∀ f c doc pm ct, H f = none → H c = none → c ≠ f → D.nx (σ.set i (some (.ref f))) (upd (upd (upd H P (.tbl (ps ++ #[rawInt pos.line, rawInt pos.col, .ref c]))) c (.ext (cdφ c qual))) f (.ext (fnφ f (mk c doc pm ct))))) ∨
   (∃ c, codeAmong pos ps.toList = some (.ref c) ∧ ∀ f doc pm ct, H f = none → D.nx (σ.set i (some (.ref f))) (upd H f (.ext (fnφ f (mk c doc pm ct))))))
theorem ps_def {X : Cx} {i : Nat} {name qual : Str} {params : Arguments} {body : List Stmt} {scope : Scope} {pos : Pos} {c P : Addr} (BM : BMain X.mg X.base) (hcode : X.env.code = .ref c) (C : PySem.W.CodeHd X.base c P) (hN : X.N.Nodup) (hi : X.N[i]? = some name) (hx : Loc X.env.scope name)
    (hfree : ∀ x ∈ scope.names, x.2 = .free → X.env.scope.names.lookup x.1 = some .cell ∨ X.env.scope.names.lookup x.1 = some .free) (hq : qualnameIn X.env name name = qual := by rfl)
    (hd0 : params.defaults = [] := by rfl) (hk0 : params.kw_defaults = [] := by rfl) (ha : annTrees params none X.env = [] := by rfl) (hf : X.fn name = true ∨ X.env.scope.names.lookup name = some .local := by first | exact .inl rfl | exact .inr rfl) :
    PS X (.FunctionDef name params body [] none [] scope none name pos) (tDef i P qual pos fun c doc pm ct => PySem.W.fnX name qual params body scope (closOf X.env.cells scope.names []) .none .none doc pm none (.ref c) ct) := by
  intro pins s σ H D I h
  obtain ⟨ps, hP, ht, h⟩ := h
  have hcl := closureFor_eq (scope := scope) (env := X.env) fun x hm e => I.ok.has x.1 (hfree x hm e)
  have hP' : s.heap.get? P = some (PySem.W.tabObj ps) := I.hok P _ hP
  have hg := I.mod.glob.keeps I.bk
  have hgP : mainGlobals ≠ P := fun q => by
    obtain ⟨o, es, ep, e, hd, _⟩ := hg
    rw [q, hP'] at e; cases e; cases hd
  obtain ⟨bm, ob, b1, b2, b3, b4, b5, b6⟩ := BM.at'
  have b3' := I.bk _ _ b3
  have hbP : bm ≠ P := fun q => by
    rw [q, hP'] at b3'; cases b3'; cases b4
  have hbG : bm ≠ mainGlobals := fun q => by
    obtain ⟨o, es, ep, e, hd, _⟩ := hg
    rw [q, e] at b3'; cases b3'; rw [hd] at b6; cases b6
  refine PySem.W.nestDef_K hd0 hk0 ha ?_
  rw [hq]
  rcases h with ⟨hn, h⟩ | ⟨c', hc, h⟩
  · refine PySem.W.makeFunction_K (mg := X.mg) hcl I.ok.glob hg hcode (C.keeps I.bk) hP' ht hn hgP ⟨bm, ob, b1, b2, hbG, hbP, b3', b4, b5, b6⟩ fun c' ctv doc h' tk hx' hge hlt hrec htb => ?_
    have nf : H h'.objs.size = none := I.hok.fresh (Nat.le_trans hge (Nat.le_of_lt hlt))
    have nc : H c' = none := I.hok.fresh hge
    have hPc : P ≠ c' := ne_of_none hP nc
    have hPf : P ≠ h'.objs.size := ne_of_none hP nf
    have hcf : c' ≠ h'.objs.size := Nat.ne_of_lt hlt
    have push : ∀ b o, h'.get? b = some o → (h'.push (PySem.W.fnMade name qual params body scope (closOf X.env.cells scope.names []) doc ((X.mg "__name__").getD .none) c' ctv)).get? b = some o := fun b o e => Heap.get?_push_of_some _ e
    have old : ∀ b o, b ≠ P → s.heap.get? b = some o → (h'.push (PySem.W.fnMade name qual params body scope (closOf X.env.cells scope.names []) doc ((X.mg "__name__").getD .none) c' ctv)).get? b = some o := fun b o hb e => push b o (hx' b o hb e)
    have neP : ∀ b, H b = none → b ≠ P := fun b n z => by rw [z, hP] at n; cases n
    have up : ∀ b u, H b = some u → b ≠ P → upd (upd (upd H P (.tbl (ps ++ #[rawInt pos.line, rawInt pos.col, .ref c']))) c' (.ext (cdφ c' qual))) h'.objs.size (.ext (fnφ h'.objs.size (PySem.W.fnX name qual params body scope (closOf X.env.cells scope.names []) .none .none doc ((X.mg "__name__").getD .none) none (.ref c') ctv))) b = some u := fun b u e hb => by
      rw [upd_ne (ne_of_none e nf), upd_ne (ne_of_none e nc), upd_ne hb]
      exact e
    have upP : upd (upd (upd H P (.tbl (ps ++ #[rawInt pos.line, rawInt pos.col, .ref c']))) c' (.ext (cdφ c' qual))) h'.objs.size (.ext (fnφ h'.objs.size (PySem.W.fnX name qual params body scope (closOf X.env.cells scope.names []) .none .none doc ((X.mg "__name__").getD .none) none (.ref c') ctv))) P = some (.tbl (ps ++ #[rawInt pos.line, rawInt pos.col, .ref c'])) := by
      rw [upd_ne hPf, upd_ne hPc]
      exact upd_same
    refine store_ok (v := .ref h'.objs.size) (I.un (t' := tk) (h' := h'.push (PySem.W.fnMade name qual params body scope (closOf X.env.cells scope.names []) doc ((X.mg "__name__").getD .none) c' ctv))
        ⟨fun b o e n _ _ => old b o (neP b n) e, fun b o e n _ _ => ⟨o.slots, old b o (neP b n) e⟩, fun b o e n _ => ?_, fun b o e _ => ?_, fun b xs e => up b _ e (fun z => by rw [z, hP] at e; cases e), fun b o u e => up b _ e (fun z => by rw [z, hP] at e; cases e), fun b qs e => ?_⟩ ?_)
      hN hi hx rfl (fun s2 I3 => ⟨_, _, I3, h _ _ _ _ _ nf nc hcf⟩) hf
    · have hb := Heap.lt_size e
      rw [upd_ne (Nat.ne_of_lt (Nat.lt_of_lt_of_le hb (Nat.le_trans hge (Nat.le_of_lt hlt)))), upd_ne (Nat.ne_of_lt (Nat.lt_of_lt_of_le hb hge)), upd_ne (neP b n)]
      exact n
    · by_cases hb : b = P
      · subst hb
        exact ⟨_, push _ _ htb⟩
      · exact ⟨o, old b o hb e⟩
    · by_cases hb : b = P
      · subst hb
        rw [hP] at e
        cases e
        exact ⟨_, upP⟩
      · exact ⟨#[], by rw [up b _ e hb]; simp⟩
    · intro b u e
      by_cases hb1 : b = h'.objs.size
      · subst hb1
        rw [upd_same] at e
        cases e
        exact fnφ_ok ⟨_, Heap.get?_push_size _ rfl, rfl⟩
      · rw [upd_ne hb1] at e
        by_cases hb2 : b = c'
        · subst hb2
          rw [upd_same] at e
          cases e
          refine cdφ_ok ?_
          obtain ⟨c2, oc, vs, t, e1, e2, r⟩ := hrec
          cases e1
          exact ⟨_, oc, vs, t, rfl, push _ _ e2, r⟩
        · rw [upd_ne hb2] at e
          by_cases hb3 : b = P
          · subst hb3
            rw [upd_same] at e
            cases e
            exact push _ _ htb
          · rw [upd_ne hb3] at e
            refine (I.hok b u e).stay (fun d v hd q => old d v (fun z => ?_) q) (fun d q => up d _ q fun z => by rw [z, hP] at q; cases q) (fun d xs q => up d _ q fun z => by rw [z, hP] at q; cases q)
            rcases hd with hd | hd
            · exact hb3 (hd.symm.trans z)
            · rw [z, hP] at hd; cases hd
  · refine PySem.W.makeFunction_hit (mg := X.mg) hcl I.ok.glob hg hcode (C.keeps I.bk) hP' ht hc ⟨bm, ob, b1, b2, hbG, hbP, b3', b4, b5, b6⟩ fun ctv doc h' tk hk hsz => ?_
    have nf : H h'.objs.size = none := I.hok.fresh hsz
    refine store_ok (v := .ref h'.objs.size) (I.laid (t' := tk) (a := h'.objs.size) (o := .ext (fnφ h'.objs.size (PySem.W.fnX name qual params body scope (closOf X.env.cells scope.names []) .none .none doc ((X.mg "__name__").getD .none) none (.ref c') ctv))) (fun b u e => Heap.get?_push_of_some _ (hk b u e)) hsz ?_) hN hi hx rfl (fun s2 I3 => ⟨_, _, I3, h _ _ _ _ nf⟩) hf
    exact fnφ_ok ⟨_, Heap.get?_push_size _ rfl, rfl⟩
end L2

set_option maxHeartbeats 1000000
namespace L2
open PySem PySem.Spec PyProof.Rows
/-- a closure's cells stay as they stood at the entry -/
theorem CellsAt.now {X : Cx} {pins : List (Addr × Obj)} {σ : St} {H : Hp} {s : Shared} {cl : List (Str × Addr)} {frees : List Str} {fvs : List V} (I : Inv X pins σ H s) (C : CellsAt X.s₀ X.H₀ cl frees fvs) (hex : X.ex = []) : CellsAt s H cl frees fvs := by
  have nx : ∀ b, b ∉ X.ex := fun b z => by rw [hex] at z; cases z
  have stay : ∀ x c v, cl.lookup x = some c → X.s₀.heap.IsCell c v → s.heap.IsCell c v := fun x c v e ⟨o, ho, hd⟩ => by
    obtain ⟨sl, q⟩ := I.base.any ho (C.free x c e) (nx c)
    exact ⟨_, q, hd⟩
  refine ⟨C.inj, fun x c e => ?_, fun x c e => ?_, fun i x v e1 e2 => ?_⟩
  · obtain ⟨v, o, ho, hd⟩ := C.cell x c e
    exact I.base.free c o ho (C.free x c e) (nx c)
  · obtain ⟨v, z⟩ := C.cell x c e
    exact ⟨v, stay x c v e z⟩
  · obtain ⟨c, u, e, z, r⟩ := C.val i x v e1 e2
    exact ⟨c, u, e, stay x c _ e z, r⟩
theorem fnAt_of {X : Cx} {pins : List (Addr × Obj)} {σ : St} {H : Hp} {s : Shared} {f : Addr} {fd : FuncData} (I : Inv X pins σ H s) (h : H f = some (.ext (fnφ f fd))) : PySem.W.FnAt f s.heap := by
  obtain ⟨⟨o, e, d⟩, _, _⟩ := (show ObjOk X.prog X.w H s.heap f (.ext (fnφ f fd)) from I.hok f _ h)
  obtain ⟨oc, od, dt, sl⟩ := o
  obtain rfl : dt = .func fd := d
  exact ⟨oc, od, fd, sl, e⟩
/-! ### a closure whose def has ended: its cells are tracked -/
def clφ (c : Addr) (u : Value) : Heap → Prop := fun h => h.IsCell c (some u)
theorem clφ_ok {P : Program} {w : World} {H : Hp} {h : Heap} {c : Addr} {u : Value} (e : clφ c u h) : ObjOk P w H h c (.ext (clφ c u)) := by
  obtain ⟨o, e1, d⟩ := id e
  exact ⟨e, ⟨o, e1⟩, fun h1 h2 ⟨o, e1, d⟩ k => ⟨o, k o e1, d⟩⟩
def InCl (cl : List (Str × Addr)) (b : Addr) : Prop := ∃ x, cl.lookup x = some b
structure CellsX (H : Hp) (cl : List (Str × Addr)) (frees : List Str) (fvs : List V) : Prop where
  inj : ∀ x y c, cl.lookup x = some c → cl.lookup y = some c → x = y
  trk : ∀ x c, cl.lookup x = some c → ∃ u, H c = some (.ext (clφ c u))
  val : ∀ (i : Nat) (x : Str) (v : V), frees[i]? = some x → fvs[i]? = some v → ∃ c u, cl.lookup x = some c ∧ H c = some (.ext (clφ c u)) ∧ RelV v u
open Classical in
noncomputable def dropC (H : Hp) (cl : List (Str × Addr)) : Hp := fun b => if InCl cl b then none else H b
open Classical in
noncomputable def joinC (H H' : Hp) (cl : List (Str × Addr)) : Hp := fun b => if InCl cl b then H b else H' b
section
variable {H H' : Hp} {cl : List (Str × Addr)} {frees : List Str} {fvs : List V} {b : Addr}
theorem dropC_in (h : InCl cl b) : dropC H cl b = none := if_pos h
theorem dropC_out (h : ¬ InCl cl b) : dropC H cl b = H b := if_neg h
theorem joinC_in (h : InCl cl b) : joinC H H' cl b = H b := if_pos h
theorem joinC_out (h : ¬ InCl cl b) : joinC H H' cl b = H' b := if_neg h
theorem dropC_none (h : H b = none) : dropC H cl b = none := by
  unfold dropC
  split
  · rfl
  · exact h
theorem dropC_some {o : HO} (h : dropC H cl b = some o) : ¬ InCl cl b ∧ H b = some o := by
  by_cases z : InCl cl b
  · rw [dropC_in z] at h; cases h
  · rw [dropC_out z] at h; exact ⟨z, h⟩
theorem CellsX.out (C : CellsX H cl frees fvs) {o : HO} (h : H b = some o) (n : ∀ φ, o ≠ HO.ext φ) : ¬ InCl cl b := fun ⟨x, e⟩ => by
  obtain ⟨u, q⟩ := C.trk x b e
  rw [h] at q
  exact n _ (Option.some.inj q)
theorem CellsX.outN (C : CellsX H cl frees fvs) (h : H b = none) : ¬ InCl cl b := fun ⟨x, e⟩ => by
  obtain ⟨u, q⟩ := C.trk x b e
  rw [h] at q
  cases q
theorem CellsX.keep (C : CellsX H cl frees fvs) {o : HO} (h : H b = some o) (n : ∀ φ, o ≠ HO.ext φ) : dropC H cl b = some o := by
  rw [dropC_out (C.out h n)]
  exact h
theorem CellsX.same (C : CellsX H cl frees fvs) (s : Same H H') : CellsX H' cl frees fvs :=
  ⟨C.inj, fun x c e => by obtain ⟨u, q⟩ := C.trk x c e; exact ⟨u, s _ _ q⟩, fun i x v h1 h2 => by obtain ⟨c, u, e, q, r⟩ := C.val i x v h1 h2; exact ⟨c, u, e, s _ _ q, r⟩⟩
theorem CellsX.at' {P : Program} {w : World} {s : Shared} (C : CellsX H cl frees fvs) (ok : HOk P w H s.heap) : CellsAt s (dropC H cl) cl frees fvs := by
  have cell : ∀ c u, H c = some (.ext (clφ c u)) → s.heap.IsCell c (some u) := fun c u q => by
    obtain ⟨z, _, _⟩ := (show ObjOk P w H s.heap c (.ext (clφ c u)) from ok c _ q)
    exact z
  exact ⟨C.inj, fun x c e => dropC_in ⟨x, e⟩, fun x c e => by obtain ⟨u, q⟩ := C.trk x c e; exact ⟨some u, cell c u q⟩, fun i x v h1 h2 => by obtain ⟨c, u, e, q, r⟩ := C.val i x v h1 h2; exact ⟨c, u, e, cell c u q, r⟩⟩
theorem Env0.drop {P : Program} {w : World} {K : PySem.W.Frag} {mg : Str → Option Value} {base : Heap} {A : Around} {outer : List Env} {s : Shared} (e0 : Env0 P w K mg base A outer s H) (C : CellsX H cl frees fvs) : Env0 P w K mg base A outer s (dropC H cl) := by
  refine ⟨e0.frames, e0.mod, fun b o e => ⟨(e0.bs b o e).1, dropC_none (e0.bs b o e).2⟩, e0.bsz, e0.funs, fun b hb => dropC_none (e0.frf b hb), fun b u e => ?_, e0.bare⟩
  obtain ⟨_, e'⟩ := dropC_some e
  exact (e0.hok b u e').stay (fun _ _ _ q => q) (fun d q => C.keep q (by intro φ z; cases z)) fun d xs q => C.keep q (by intro φ z; cases z)
/-- what is promised at the heap without the cells, said of the heap with them -/
def liftQ (H : Hp) (cl : List (Str × Addr)) (Q : VK) : VK := fun r H' => (∀ b, InCl cl b → H' b = none) → Q r (joinC H H' cl)
theorem FnOkC.runX {P : Program} {w : World} {K : PySem.W.Frag} {mg : Str → Option Value} {base : Heap} {k : Nat} {fd : FuncData} {p : Str} {sp : Sp} {A : Around} {outer : List Env} {s : Shared} {f : Addr} {u : Value} {v : V} {Q : VK}
    (F : FnOkC P w K mg base k fd p frees fvs sp) (hr : Room k A) (e0 : Env0 P w K mg base A outer s H) (r : RelV v u) (hf : ∃ o, s.heap.get? f = some o ∧ o.data = .func fd) (hc : s.heap.CodeRec fd.code fd.qualname) (C : CellsX H fd.closure frees fvs)
    (q : sp [v] (dropC H fd.closure) (liftQ H fd.closure Q) E0) : codeAny (model P w) A (.call (.ref f) ⟨[u], []⟩) (CR CX0 outer P w H s Q E0) s := by
  refine codeAny_mono (F.run A outer s (dropC H fd.closure) f u v _ hr (e0.drop C) r hf hc (C.at' e0.hok) q) fun r s' h => ?_
  cases r with
  | error e => exact h.elim
  | ok fl =>
    cases fl with
    | next => exact False.elim h
    | brk => exact False.elim h
    | cont => exact False.elim h
    | ret u' =>
      obtain ⟨v', H', os, bare, un, ok', rv, q'⟩ := h
      have isC : ∀ b, InCl fd.closure b → ∃ o u, H b = some (.ext (clφ b u)) ∧ s.heap.get? b = some o ∧ o.data = .cell (some u) := fun b ⟨x, e⟩ => by
        obtain ⟨u, hu⟩ := C.trk x b e
        obtain ⟨⟨o, ho, hd⟩, _, _⟩ := (show ObjOk P w H s.heap b (.ext (clφ b u)) from e0.hok b _ hu)
        exact ⟨o, u, hu, ho, hd⟩
      have hN : ∀ b, InCl fd.closure b → H' b = none := fun b hb => by
        obtain ⟨o, u, hu, ho, _⟩ := isC b hb
        exact un.free b o ho (dropC_in hb) (by simp)
      have back : ∀ b o, H' b = some o → joinC H H' fd.closure b = some o := fun b o e => by
        rw [joinC_out (fun z => by rw [hN b z] at e; cases e)]
        exact e
      refine ⟨v', joinC H H' fd.closure, os, bare, ⟨fun b o e n => un.keep b o e (dropC_none n), fun b o e n => un.slot b o e (dropC_none n), fun b o e n hx => ?_, un.there, fun b xs e => ?_, fun b o x e => ?_, fun b ps e => ?_⟩, fun b x e => ?_, rv, q' hN⟩
      · rw [joinC_out (C.outN n)]
        exact un.free b o e (dropC_none n) hx
      · exact back _ _ (un.tups b xs (C.keep e (by intro φ z; cases z)))
      · exact back _ _ (un.frzs b o x (C.keep e (by intro φ z; cases z)))
      · obtain ⟨more, e2⟩ := un.tbls b ps (C.keep e (by intro φ z; cases z))
        exact ⟨more, back _ _ e2⟩
      · by_cases z : InCl fd.closure b
        · rw [joinC_in z] at e
          obtain ⟨o, u, hu, ho, hd⟩ := isC b z
          rw [hu] at e
          cases e
          obtain ⟨sl, e2⟩ := un.any ho (dropC_in z) (by simp)
          exact clφ_ok ⟨_, e2, hd⟩
        · rw [joinC_out z] at e
          exact (ok' b x e).stay (fun _ _ _ q => q) (fun d q => back _ _ q) fun d xs q => back _ _ q
end
/-- what is handed in as a function of one argument: a closure, or a def of the module -/
inductive CallOk (P : Program) (w : World) (K : PySem.W.Frag) (mg : Str → Option Value) (base : Heap) (k : Nat) (f : Addr) (sp : Sp) (s₀ : Shared) (H₀ : Hp) : Prop
  | clo {fd : FuncData} {p : Str} {frees : List Str} {fvs : List V} {c : Addr} (F : FnOkC P w K mg base k fd p frees fvs sp) (hf : H₀ f = some (.ext (fnφ f fd))) (hd : fd.code = .ref c) (hc : H₀ c = some (.ext (cdφ c fd.qualname))) (C : CellsAt s₀ H₀ fd.closure frees fvs)
  | cloX {fd : FuncData} {p : Str} {frees : List Str} {fvs : List V} {c : Addr} (F : FnOkC P w K mg base k fd p frees fvs sp) (hf : H₀ f = some (.ext (fnφ f fd))) (hd : fd.code = .ref c) (hc : H₀ c = some (.ext (cdφ c fd.qualname))) (C : CellsX H₀ fd.closure frees fvs)
      (st : ∀ v H Q, CellsX H fd.closure frees fvs → sp [v] H Q E0 → sp [v] (dropC H fd.closure) (liftQ H fd.closure Q) E0)
  | mod {fd : FuncData} {p : Str} (F : FnOk P w K mg base CX0 k f fd [p] sp) (hk : PySem.W.keepIn K (.ref f) = true) (hb : Binds K fd [p] [])
/-- f(e), f a name of the def's own -/
def tCallV (X : Cx) (i : Nat) (f : Addr) (sp : Sp) (t : TA) : TE := fun σ H Q => σ[i]? = some (some (.ref f)) ∧ Same X.H₀ H ∧ t σ H fun vs H1 => ∃ v, vs = [v] ∧ Same X.H₀ H1 ∧ sp [v] H1 Q E0
theorem pe_callV {X : Cx} {k i : Nat} {x : Str} {e : Expr} {te : TA} {p pos : Pos} {f : Addr} {sp : Sp} (F : CallOk X.prog X.w X.K X.mg X.base k f sp X.s₀ X.H₀) (hr : Room k X.A) (hN : X.N[i]? = some x)
    (he : PA X [e] te) (hex : X.ex = [] := by rfl) (hv : Vis X.env.scope x := by first | exact Or.inl rfl | exact Or.inr (Or.inl rfl) | exact Or.inr (Or.inr rfl)) (hd : (x == ("__debug__" : Str)) = false := by decide) (hcd : (x == ("__classdict__" : Str)) = false := by decide)
    (hs : starEach [e] X.env = (false, eval e X.env) :: starEach [] X.env := by rfl) : PE X (.Call (.Name x p) [e] [] pos) (tCallV X i f sp te) := by
  intro pins s σ H Q I h
  obtain ⟨ef, s0, h⟩ := h
  refine wpAny_Call_Name_kw (thn (pe_var hN hv hd hcd pins s σ H (fun v H' => v = .ref f ∧ H' = H) I ⟨_, ef, rfl, rfl⟩) fun fv s1 ⟨v, H1, I1, r1, e1, e2⟩ => ?_)
  subst e1 e2
  obtain rfl : fv = Value.ref f := r1
  cases F with
  | clo F hf hdc hc C =>
    refine PySem.W.callWith_F (fnAt_of I1 (s0 _ _ hf)) (thn (he pos pins s1 σ H1 _ I1 h) fun us s2 ⟨vs, H2, I2, r, v, ev, s2', q⟩ => ⟨fnAt_of I2 (s2' _ _ hf), ?_⟩) hs rfl
    subst ev
    obtain ⟨u, rfl, ru⟩ := vals1 r
    obtain ⟨hfn, _, _⟩ := (show ObjOk X.prog X.w H2 s2.heap f (.ext (fnφ f _)) from I2.hok f _ (s2' _ _ hf))
    obtain ⟨hcd2, _, _⟩ := (show ObjOk X.prog X.w H2 s2.heap _ (.ext (cdφ _ _)) from I2.hok _ _ (s2' _ _ hc))
    refine wpAny_call (codeAny_mono (F.run X.A X.stack s2 H2 f u v Q hr I2.env0 ru hfn (by rw [hdc]; exact hcd2) (C.now I2 hex) q) fun r s' hq => ?_)
    cases r with
    | error e => exact hq.elim
    | ok fl =>
      cases fl with
      | ret u => exact I2.after hq
      | next => exact False.elim hq
      | brk => exact False.elim hq
      | cont => exact False.elim hq
  | cloX F hf hdc hc C st =>
    refine PySem.W.callWith_F (fnAt_of I1 (s0 _ _ hf)) (thn (he pos pins s1 σ H1 _ I1 h) fun us s2 ⟨vs, H2, I2, r, v, ev, s2', q⟩ => ⟨fnAt_of I2 (s2' _ _ hf), ?_⟩) hs rfl
    subst ev
    obtain ⟨u, rfl, ru⟩ := vals1 r
    obtain ⟨hfn, _, _⟩ := (show ObjOk X.prog X.w H2 s2.heap f (.ext (fnφ f _)) from I2.hok f _ (s2' _ _ hf))
    obtain ⟨hcd2, _, _⟩ := (show ObjOk X.prog X.w H2 s2.heap _ (.ext (cdφ _ _)) from I2.hok _ _ (s2' _ _ hc))
    refine wpAny_call (codeAny_mono (F.runX (outer := X.stack) hr I2.env0 ru hfn (by rw [hdc]; exact hcd2) (C.same s2') (st v H2 Q (C.same s2') q)) fun r s' hq => ?_)
    cases r with
    | error e => exact hq.elim
    | ok fl =>
      cases fl with
      | ret u => exact I2.after hq
      | next => exact False.elim hq
      | brk => exact False.elim hq
      | cont => exact False.elim hq
  | mod F hk hb =>
    refine PySem.W.callWith_K (h₀ := X.base) I.ok.mod.kin hk (thn (he pos pins s1 σ H1 _ I1 h) fun us s2 ⟨vs, H2, I2, r, v, ev, s2', q⟩ => ⟨I2.kIn, ?_⟩) hs rfl
    subst ev
    exact run_fn (dvs := []) F hr hb .nil pass0 I2 r q
theorem FnOkC.mono {P : Program} {w : World} {K : PySem.W.Frag} {mg : Str → Option Value} {base : Heap} {j k : Nat} {fd : FuncData} {p : Str} {frees : List Str} {fvs : List V} {sp : Sp} (F : FnOkC P w K mg base j fd p frees fvs sp) (h : j ≤ k) : FnOkC P w K mg base k fd p frees fvs sp :=
  ⟨fun A outer s H f u v Q hr => F.run A outer s H f u v Q (hr.mono h)⟩
/-- a def whose promise leans on the state too (closures handed in) -/
structure FnOkS (P : Program) (w : World) (K : PySem.W.Frag) (mg : Str → Option Value) (base : Heap) (k : Nat) (f : Addr) (fd : FuncData) (ps : List Str) (pre : Shared → Hp → List V → Prop) (sp : Sp) : Prop where
  len : ∀ vs H Q E, sp vs H Q E → vs.length = ps.length
  run : ∀ (A : Around) (outer : List Env) (s : Shared) (H : Hp) (args : Args) (us : List Value) (vs : List V) (Q : VK) (E : XK), Room k A → Env0 P w K mg base A outer s H → BindsTo s fd args (ps.zip us) → Vals vs us → pre s H vs → sp vs H Q E →
    codeAny (model P w) A (.call (.ref f) args) (CR CX0 outer P w H s Q E) s
theorem Fun.okS {P : Program} {w : World} {K : PySem.W.Frag} {mg : Str → Option Value} {base : Heap} {x qual : Str} {st : Stmt} {f : Addr} {fd : FuncData} {N ps : List Str} {k : Nat} {pre : Shared → Hp → List V → Prop} {sp : Sp} (F : Fun K x qual st f fd) (S : FnScope N ps (defScope st))
    (len : ∀ vs H Q E, sp vs H Q E → vs.length = ps.length)
    (hbody : ∀ (cdv : Value) (A : Around) (outer : List Env) (s : Shared) (H : Hp) (vs : List V) (Q : VK) (E : XK), Room k (A.deeper (envOfC qual (defScope st) s.heap.objs.size f cdv)) → pre s H vs → sp vs H Q E →
      ∃ t, PSs (cxOf CX0 P w K mg base N qual (defScope st) f cdv A outer s H E).nox (defBody st) t ∧ t { nx := fun _ H' => Q .non H', rt := Q } (start N vs) H) : FnOkS P w K mg base (k + 1) f fd ps pre sp := by
  obtain ⟨oc, od, kV, doc, pm, an, cdv, ct, osl, rfl, lk, hcd⟩ := F.ex
  refine ⟨len, fun A outer s H args us vs Q E hr e0 hb r hpre hsp => ?_⟩
  have hl := len _ _ _ _ hsp
  have KX : K.In s.heap := e0.mod.kin.keeps fun b o e => (e0.bs b o e).1
  have lim : s.heap.NoLimit := e0.mod.nolimit.keeps fun b o e => (e0.bs b o e).1
  have hkind : ∀ y ∈ ps.zip us, (defScope st).names.lookup y.1 = some .local ∨ ((defScope st).names.lookup y.1 = some .cell ∧ ((cellsFrom (s.heap.objs.size + 1) (defScope st).names []).lookup y.1).isSome = true) := fun ⟨n, v⟩ hy => by
    rcases S.par n (List.of_mem_zip hy).1 with q | q
    · exact .inl q
    · exact .inr ⟨q, PySem.W.cellsFrom_some _ _ _ (.inl q)⟩
  refine codeAny_call_function hr.depth (KX _ _ lk) rfl S.co S.gen rfl (PySem.W.codeRec_of KX hcd) (hb _ _ _ _ ?_)
  refine wpAny_newFunctionEnv_cells S.kind hkind fun env he s1 x => ?_
  subst he
  refine ⟨lim.keeps x.toInCall.keep, codeAny_func ?_⟩
  obtain ⟨t, ht, hq⟩ := hbody cdv A outer s H vs Q E (hr.deeper _) hpre hsp
  have I : Inv (cxOf CX0 P w K mg base N qual (defScope st) f cdv A outer s H E) [] (start N vs) H s1 := inv_start S hr.hd e0 hl r x
  refine wpAny_mono (ht.nox [] s1 (start N vs) H _ I hq) (fun fl s' hs => ?_) fun e s' hs => hs
  have fin : ∀ {σ' : St} {H' : Hp} {v : V} {u : Value}, Inv (cxOf CX0 P w K mg base N qual (defScope st) f cdv A outer s H E) [] σ' H' s' → RelV v u → Q v H' → CE outer P w H s Q u s' :=
    fun {σ' H' v u} J rv q => ⟨v, H', J.os, J.bare, J.base, J.hok, rv, q⟩
  cases fl with
  | ret u =>
    obtain ⟨v, σ', H', J, rv, q⟩ := hs
    exact fin J rv q
  | next =>
    obtain ⟨σ', H', J, q⟩ := hs
    exact fin (v := V.non) (u := Value.none) J rfl q
  | brk =>
    obtain ⟨_, _, _, q⟩ := hs
    exact False.elim q
  | cont =>
    obtain ⟨_, _, _, q⟩ := hs
    exact False.elim q
/-- such a def, ready to be called -/
def HasS (P : Program) (w : World) (K : PySem.W.Frag) (mg : Str → Option Value) (base : Heap) (x : Str) (k : Nat) (ps : List Str) {Γ : Type} (pre : Γ → Shared → Hp → List V → Prop) (sp : Γ → Sp) : Prop :=
  ∃ f fd, mg x = some (.ref f) ∧ PySem.W.keepIn K (.ref f) = true ∧ Binds K fd ps [] ∧ ∀ g, FnOkS P w K mg base k f fd ps (pre g) (sp g)
def tCallS (X : Cx) {Γ : Type} (pre : Γ → Shared → Hp → List V → Prop) (sp : Γ → Sp) (t : TA) : TE := fun σ H Q => t σ H fun vs H1 => ∃ g, (∀ pins s, Inv X pins σ H1 s → pre g s H1 vs) ∧ sp g vs H1 Q E0
theorem pe_fnS {X : Cx} {x : Str} {k : Nat} {ps : List Str} {Γ : Type} {pre : Γ → Shared → Hp → List V → Prop} {sp : Γ → Sp} {e : Expr} {es : List Expr} {t : TA} {p pos : Pos} (h : HasS X.prog X.w X.K X.mg X.base x k ps pre sp) (hr : Room k X.A) (ha : PA X (e :: es) t) (hg : Gl X x := by rfl) (hdb : (x == ("__debug__" : Str)) = false := by decide)
    (he : starEach (e :: es) X.env = (false, eval e X.env) :: starEach es X.env := by rfl) (hpl : (backTo pos (starEach es X.env)).any (·.1) = false := by rfl) : PE X (.Call (.Name x p) (e :: es) [] pos) (tCallS X pre sp t) := by
  obtain ⟨f, fd, hm, hk, hb, F⟩ := h
  intro pins s σ H Q I h
  refine wpAny_Call_Name_kw (ld_glob I hg hm ?_ hdb)
  refine PySem.W.callWith_K (h₀ := X.base) I.ok.mod.kin hk (thn (ha pos pins s σ H _ I h) fun us s1 ⟨vs, H1, I1, r, g, hp, q⟩ => ⟨I1.kIn, ?_⟩) he hpl
  have hl : (us ++ []).length = ps.length := by rw [List.append_nil, ← r.length]; exact (F g).len _ _ _ _ q
  have hb' := hb s1 us I1.kIn hl
  rw [List.append_nil] at hb'
  refine wpAny_call (codeAny_mono ((F g).run X.A X.stack s1 H1 ⟨us, []⟩ us vs Q E0 hr I1.env0 hb' r (hp pins s1 I1) q) fun r s' hq => ?_)
  cases r with
  | error e => exact hq.elim
  | ok fl =>
    cases fl with
    | ret u => exact I1.after hq
    | next => exact False.elim hq
    | brk => exact False.elim hq
    | cont => exact False.elim hq
end L2

/-! OWN PART 10: dicts whose keys are tuples of whole numbers, None and tuples (or such ones behind a first True, False) -/
set_option maxHeartbeats 1000000
namespace L2
open PySem PySem.Spec PyProof.Rows
noncomputable instance decPy : DecidableEq PyData := fun a b => Classical.propDecidable (a = b)
mutual
def noB : PyData → Bool
  | .int _ => true
  | .none => true
  | .tuple xs => noBs xs
  | _ => false
def noBs : List PyData → Bool
  | [] => true
  | x :: xs => noB x && noBs xs
end
def keyD (c : Bool) : PyData → Bool
  | .tuple (.bool _ :: r) => c && noBs r
  | .tuple xs => !c && noBs xs
  | _ => false
mutual
theorem eqv_noB : ∀ x y : PyData, noB x = true → noB y = true → PyData.eqv x y = decide (x = y)
  | .int i, .int j, _, _ => by
    simp only [PyData.eqv]
    by_cases h : i = j <;> simp [h]
  | .none, .none, _, _ => by simp [PyData.eqv]
  | .tuple xs, .tuple ys, hx, hy => by
    simp only [noB] at hx hy
    simp only [PyData.eqv, eqv_noBs xs ys hx hy]
    by_cases h : xs = ys <;> simp [h]
  | .int _, .none, _, _ | .int _, .tuple _, _, _ | .none, .int _, _, _ | .none, .tuple _, _, _ | .tuple _, .int _, _, _ | .tuple _, .none, _, _ => by simp [PyData.eqv]
  | .bool _, _, h, _ | .str _, _, h, _ | .list _, _, h, _ | .dict _, _, h, _ => by simp [noB] at h
  | _, .bool _, _, h | _, .str _, _, h | _, .list _, _, h | _, .dict _, _, h => by simp [noB] at h
theorem eqv_noBs : ∀ xs ys : List PyData, noBs xs = true → noBs ys = true → PyData.eqvAll xs ys = decide (xs = ys)
  | [], [], _, _ => by simp [PyData.eqvAll]
  | [], _ :: _, _, _ => by simp [PyData.eqvAll]
  | _ :: _, [], _, _ => by simp [PyData.eqvAll]
  | x :: xs, y :: ys, hx, hy => by
    simp only [noBs, Bool.and_eq_true] at hx hy
    simp only [PyData.eqvAll, eqv_noB x y hx.1 hy.1, eqv_noBs xs ys hx.2 hy.2]
    by_cases h1 : x = y
    · by_cases h2 : xs = ys <;> simp [h1, h2]
    · simp [h1]
end
theorem keyD_false {d : PyData} (h : keyD false d = true) : ∃ xs, d = .tuple xs ∧ noBs xs = true := by
  cases d with
  | tuple xs =>
    refine ⟨xs, rfl, ?_⟩
    cases xs with
    | nil => rfl
    | cons x r => cases x <;> simp_all [keyD]
  | _ => simp [keyD] at h
theorem keyD_true {d : PyData} (h : keyD true d = true) : ∃ b xs, d = .tuple (.bool b :: xs) ∧ noBs xs = true := by
  cases d with
  | tuple xs =>
    cases xs with
    | nil => simp [keyD] at h
    | cons x r =>
      cases x with
      | bool b => exact ⟨b, r, rfl, by simpa [keyD] using h⟩
      | _ => simp [keyD] at h
  | _ => simp [keyD] at h
theorem eqv_key {c : Bool} {x y : PyData} (hx : keyD c x = true) (hy : keyD c y = true) : PyData.eqv x y = decide (x = y) := by
  cases c with
  | false =>
    obtain ⟨xs, rfl, h1⟩ := keyD_false hx
    obtain ⟨ys, rfl, h2⟩ := keyD_false hy
    simp only [PyData.eqv, eqv_noBs xs ys h1 h2]
    by_cases h : xs = ys <;> simp [h]
  | true =>
    obtain ⟨a, xs, rfl, h1⟩ := keyD_true hx
    obtain ⟨b, ys, rfl, h2⟩ := keyD_true hy
    simp only [PyData.eqv, PyData.eqvAll, eqv_noBs xs ys h1 h2]
    by_cases h : xs = ys
    · cases a <;> cases b <;> simp [h]
    · simp [h]
mutual
def inK : PyData → Bool
  | .int _ => true
  | .bool _ => true
  | .none => true
  | .tuple xs => inKs xs
  | _ => false
def inKs : List PyData → Bool
  | [] => true
  | x :: xs => inK x && inKs xs
end
mutual
theorem inK_noB : ∀ x : PyData, noB x = true → inK x = true
  | .int _, _ | .none, _ => rfl
  | .tuple xs, h => by simp only [noB] at h; simp only [inK]; exact inKs_noBs xs h
  | .bool _, h | .str _, h | .list _, h | .dict _, h => by simp [noB] at h
theorem inKs_noBs : ∀ xs : List PyData, noBs xs = true → inKs xs = true
  | [], _ => rfl
  | x :: xs, h => by
    simp only [noBs, Bool.and_eq_true] at h
    simp only [inKs, Bool.and_eq_true]
    exact ⟨inK_noB x h.1, inKs_noBs xs h.2⟩
end
theorem keyD_in {c : Bool} {d : PyData} (h : keyD c d = true) : ∃ xs, d = .tuple xs ∧ inKs xs = true := by
  cases c with
  | false =>
    obtain ⟨xs, rfl, h1⟩ := keyD_false h
    exact ⟨xs, rfl, inKs_noBs xs h1⟩
  | true =>
    obtain ⟨a, xs, rfl, h1⟩ := keyD_true h
    exact ⟨_, rfl, by simp [inKs, inK, inKs_noBs xs h1]⟩
mutual
theorem lay_inK : ∀ x : PyData, inK x = true → x.canLay0 = true
  | .int _, _ | .none, _ | .bool _, _ => by simp [PyData.canLay0]
  | .tuple xs, h => by simp only [inK] at h; simp only [PyData.canLay0]; exact lay_inKs xs h
  | .str _, h | .list _, h | .dict _, h => by simp [inK] at h
theorem lay_inKs : ∀ xs : List PyData, inKs xs = true → PyData.canLayAll0 xs = true
  | [], _ => by simp [PyData.canLayAll0]
  | x :: xs, h => by
    simp only [inKs, Bool.and_eq_true] at h
    simp only [PyData.canLayAll0, Bool.and_eq_true]
    exact ⟨lay_inK x h.1, lay_inKs xs h.2⟩
end
/-! ### the hash -/
mutual
def hashD : PyData → Int
  | .int i => hashInt i
  | .bool b => reduceHash (if b then 1 else 0)
  | .none => reduceHash 0xFCA86420
  | .tuple xs => reduceHash (Builtin.Tuple.tupleHashOf (hashDs xs))
  | _ => 0
def hashDs : List PyData → List Int
  | [] => []
  | x :: xs => hashD x :: hashDs xs
end
mutual
def drawD : PyData → Nat
  | .tuple xs => drawDs xs + 1
  | _ => 1
def drawDs : List PyData → Nat
  | [] => 0
  | x :: xs => drawD x + drawDs xs
end
section
variable {prog : Program} {w : World} {E : Value → Shared → Prop}
mutual
theorem hash_run : ∀ (d : PyData) (v : Value) (as : List Addr) (A : Around) (s : Shared) (Q : Int → Shared → Prop), inK d = true → Reads s.heap v d as → A.units + d.depth < cLine → Q (hashD d) { s with toks := s.toks + drawD d } → wpAny (model prog w) A (pyHash v) Q E s
  | .none, _, _, A, s, Q, _, x, hu, h => by
    cases x
    exact PySem.W.pyHash_slot (T := "NoneType") rfl F.slot_NoneType_hash F.entry_NoneType_hash (F.args_NoneType_hash_1 _) (beq_builtin_none _) (.inr (by omega)) (wpAny_bind (wpAny_pure (wpAny_bind (wpAny_mkInt (wpAny_pure ⟨_, _, rfl, h⟩)))))
  | .bool b, _, _, A, s, Q, _, x, hu, h => by
    cases x
    refine PySem.W.pyHash_slot (T := "bool") rfl F.slot_bool_hash entry_int_hash (args_int_hash _) (beq_builtin_none _) (.inr (by omega)) ?_
    cases b
    · exact (show wpAny _ _ (do ret (← mkInt 0)) _ _ s from wpAny_bind (wpAny_mkInt (wpAny_pure ⟨_, _, rfl, h⟩)))
    · exact (show wpAny _ _ (do ret (← mkInt 1)) _ _ s from wpAny_bind (wpAny_mkInt (wpAny_pure ⟨_, _, rfl, h⟩)))
  | .int i, _, _, A, s, Q, _, x, _, h => by cases x; exact wpAny_pyHash_int h
  | .tuple xs, _, _, A, s, Q, hk, x, hu, h => by
    cases x with
    | @tuple a o vs n _ _ ho hc hd hr =>
      refine PySem.W.pyHash_slot (T := "tuple") ⟨_, ho, hc⟩ F.slot_tuple_hash F.entry_tuple_hash (F.args_tuple_hash_1 _) (beq_builtin_none _) (.inr (by omega)) ?_
      show wpAny _ _ (Builtin.Tuple.tupleItemsOf (.ref a) >>= _) _ _ s
      refine wpAny_bind (wpAny_tupleItemsOf ho hd ?_)
      refine wpAny_bind ?_
      rw [← Array.forIn_toList]
      refine hash_loop xs vs.toList _ A.in1 s #[] _ (by simpa only [inK] using hk) hr (by simp only [PyData.depth, Around.in1_units] at hu ⊢; omega) fun b hb => ?_
      show wpAny _ _ (retInt (Builtin.Tuple.tupleHashOf b.toList)) _ _ _
      rw [hb]
      exact wpAny_bind (wpAny_mkInt (wpAny_pure ⟨_, _, rfl, h⟩))
  | .str _, _, _, _, _, _, hk, _, _, _ | .list _, _, _, _, _, _, hk, _, _, _ | .dict _, _, _, _, _, _, hk, _, _, _ => by simp [inK] at hk
theorem hash_loop : ∀ (xs : List PyData) (vs : List Value) (as : List Addr) (A : Around) (s : Shared) (b : Array Int) (Q : Array Int → Shared → Prop), inKs xs = true → ReadsAll s.heap vs xs as → A.units + PyData.depthAll xs < cLine →
    (∀ b', b'.toList = b.toList ++ hashDs xs → Q b' { s with toks := s.toks + drawDs xs }) →
    wpAny (model prog w) A (forIn vs b fun x r => do let h ← pyHash x; pure PUnit.unit; pure (ForInStep.yield (r.push h))) Q E s
  | [], _, _, A, s, b, Q, _, x, _, h => by
    cases x
    exact wpAny_pure (h b (by simp [hashDs]))
  | d :: xs, _, _, A, s, b, Q, hk, x, hu, h => by
    cases x with
    | cons x1 x2 =>
      simp only [inKs, Bool.and_eq_true, PyData.depthAll] at hk hu
      rw [List.forIn_cons]
      refine wpAny_bind (wpAny_bind (hash_run d _ _ A s _ hk.1 x1 (by omega) ?_))
      refine wpAny_bind (wpAny_pure (wpAny_pure ?_))
      refine hash_loop xs _ _ A _ _ Q hk.2 x2 (by omega) fun b' hb => ?_
      have := h b' (by simp [hb, hashDs])
      simpa [drawDs, Nat.add_assoc] using this
end
end
/-! ### the key is quiet; it stays while a dict changes -/
section
variable {prog : Program} {w : World} {E : Value → Shared → Prop}
mutual
theorem quiet_run : ∀ (d : PyData) (v : Value) (as : List Addr) (n : Nat) (A : Around) (s : Shared) (Q : Bool → Shared → Prop), inK d = true → Reads s.heap v d as → d.depth ≤ n → Q true s → wpAny (model prog w) A (eqIsQuiet n v) Q E s
  | .none, _, _, n, A, s, Q, _, x, hn, h => by
    cases x
    rw [eqIsQuiet_byValue n rfl]
    exact wpAny_pure h
  | .bool b, _, _, n, A, s, Q, _, x, hn, h => by
    cases x
    rw [eqIsQuiet_byValue n rfl]
    exact wpAny_pure h
  | .int i, _, _, n, A, s, Q, _, x, _, h => by
    cases x
    rw [eqIsQuiet_byValue n rfl]
    exact wpAny_pure h
  | .tuple xs, _, _, 0, A, s, Q, hk, x, hn, h => by simp [PyData.depth] at hn
  | .tuple xs, _, _, n + 1, A, s, Q, hk, x, hn, h => by
    cases x with
    | @tuple a o vs m _ _ ho hc hd hr =>
      have hT : s.TypeIs (.ref a) "tuple" := ⟨o, ho, hc⟩
      unfold eqIsQuiet
      refine wpAny_bind (wpAny_specialOf hT F.slot_tuple_eq.lookup ?_)
      show wpAny _ _ (isInstance (.ref a) (.type "tuple") >>= _) _ _ s
      refine wpAny_bind (wpAny_isInstance hT isSubtype_tuple_tuple ?_)
      simp only [Bool.not_true, Bool.false_eq_true, if_false]
      refine wpAny_bind (wpAny_seqItems ho hd ?_)
      refine wpAny_bind ?_
      show wpAny _ _ (forIn vs _ _) _ _ s
      rw [← Array.forIn_toList]
      refine wpAny_forIn_list _ (fun rest r s' => r.1 = none ∧ s' = s ∧ ∃ ys bs, ReadsAll s.heap rest ys bs ∧ inKs ys = true ∧ PyData.depthAll ys ≤ n) _ ?_ ?_ _ _ ⟨rfl, rfl, xs, _, hr, by simpa only [inK] using hk, by simp only [PyData.depth] at hn; omega⟩
      · rintro v rest r s' ⟨hr1, rfl, ys, bs, hys, hk', hd'⟩
        cases hys with
        | @cons _ _ y ys _ _ y1 y2 =>
          simp only [inKs, Bool.and_eq_true, PyData.depthAll] at hk' hd'
          refine wpAny_bind (quiet_run y v _ n A s' _ hk'.1 y1 (by omega) ?_)
          simp only [Bool.not_true, Bool.false_eq_true, if_false]
          exact wpAny_pure ⟨rfl, rfl, _, _, y2, hk'.2, by omega⟩
      · rintro ⟨r1, r2⟩ s' ⟨hr1, rfl, _⟩
        simp only at hr1
        subst hr1
        exact wpAny_pure h
  | .str _, _, _, _, _, _, _, hk, _, _, _ | .list _, _, _, _, _, _, _, hk, _, _, _ | .dict _, _, _, _, _, _, _, hk, _, _, _ => by simp [inK] at hk
end
end
mutual
theorem reads_keep {h h' : Heap} {d : Addr} {o : Obj} {es : Array DictEntry} {ep : Nat} (ho : h.get? d = some o) (hd : o.data = .dict es ep) (hs : Heap.SameBut d h h') : ∀ (x : PyData) (v : Value) (as : List Addr), inK x = true → Reads h v x as → Reads h' v x as
  | .none, _, _, _, r => by cases r; exact .none
  | .bool _, _, _, _, r => by cases r; exact .bool _
  | .int _, _, _, _, r => by cases r; exact .int _ _
  | .tuple xs, _, _, hk, r => by
    cases r with
    | @tuple a o' vs n _ _ ho' hc hd' hr =>
      have hne : a ≠ d := by
        rintro rfl
        rw [ho] at ho'
        cases ho'
        rw [hd] at hd'
        cases hd'
      exact .tuple ((hs.2 a hne).trans ho') hc hd' (reads_keeps ho hd hs xs _ _ (by simpa only [inK] using hk) hr)
  | .str _, _, _, hk, _ | .list _, _, _, hk, _ | .dict _, _, _, hk, _ => by simp [inK] at hk
theorem reads_keeps {h h' : Heap} {d : Addr} {o : Obj} {es : Array DictEntry} {ep : Nat} (ho : h.get? d = some o) (hd : o.data = .dict es ep) (hs : Heap.SameBut d h h') : ∀ (xs : List PyData) (vs : List Value) (as : List Addr), inKs xs = true → ReadsAll h vs xs as → ReadsAll h' vs xs as
  | [], _, _, _, r => by cases r; exact .nil
  | x :: xs, _, _, hk, r => by
    simp only [inKs, Bool.and_eq_true] at hk
    cases r with
    | cons r1 r2 => exact .cons (reads_keep ho hd hs x _ _ hk.1 r1) (reads_keeps ho hd hs xs _ _ hk.2 r2)
end
/-- the kind of such keys -/
noncomputable def nkKind (prog : Program) (w : World) (c : Bool) : HeapKind prog w PyData where
  is := fun h k a => keyD c k = true ∧ k.depth ≤ 8 ∧ ∃ as, Reads h (.ref a) k as
  hash := hashD
  draws := drawD
  room := fun A => A.units + 8 < cLine
  inj := fun {h a x y} hx hy => by
    obtain ⟨k1, _, as, r1⟩ := hx
    obtain ⟨_, _, bs, r2⟩ := hy
    obtain ⟨xs, rfl, h1⟩ := keyD_in k1
    exact SeqAt.Reads.unique _ _ _ _ _ (lay_inK _ (by simpa only [inK] using h1)) r1 r2
  keeps := fun {h h' k a d o es ep} hx ho hd hs => by
    obtain ⟨k1, k2, as, r1⟩ := hx
    obtain ⟨xs, rfl, h1⟩ := keyD_in k1
    exact ⟨k1, k2, as, reads_keep ho hd hs _ _ _ (by simpa only [inK] using h1) r1⟩
  pyHash := fun {A E s k a Q} hu hx h => by
    obtain ⟨k1, k2, as, r1⟩ := hx
    obtain ⟨xs, rfl, h1⟩ := keyD_in k1
    exact hash_run _ _ _ A s Q (by simpa only [inK] using h1) r1 (by omega) h
  eqBool := fun {A E s x y a b Q} hu hx hy h => by
    obtain ⟨k1, k2, as, r1⟩ := hx
    obtain ⟨k3, k4, bs, r2⟩ := hy
    have e := eqv_key k1 k3
    obtain ⟨xs, rfl, h1⟩ := keyD_in k1
    obtain ⟨ys, rfl, h2⟩ := keyD_in k3
    refine SeqAt.eqAt_reads _ _ A s _ _ _ _ r1 r2 (lay_inK _ (by simpa only [inK] using h1)) (lay_inK _ (by simpa only [inK] using h2)) ?_ prog w E Q ?_
    · have : min (PyData.tuple xs).depth (PyData.tuple ys).depth ≤ (PyData.tuple xs).depth := Nat.min_le_left _ _
      omega
    · rw [e]
      exact h
  quiet := fun {A E s k a Q} hx h => by
    obtain ⟨k1, k2, as, r1⟩ := hx
    obtain ⟨xs, rfl, h1⟩ := keyD_in k1
    exact quiet_run _ _ _ 8 A s Q (by simpa only [inK] using h1) r1 k2 h
end L2

/-! OWN PART 2: the program's data, their mirror in Lean -/
namespace My
open PySem L2

theorem paired_get {α β : Type} {F : α → β → Prop} : ∀ {l₁ : List α} {l₂ : List β}, Paired F l₁ l₂ → ∀ (i : Nat) (b : β), l₂[i]? = some b → ∃ a, l₁[i]? = some a ∧ F a b
  | _, _, .nil, i, b, e => by simp at e
  | _, _, .cons h t, 0, b, e => by simp at e; subst e; exact ⟨_, rfl, h⟩
  | _, _, .cons h t, i + 1, b, e => by
    obtain ⟨a, h1, h2⟩ := paired_get t i b (by simpa using e)
    exact ⟨a, by simpa using h1, h2⟩
theorem paired_getL {α β : Type} {F : α → β → Prop} : ∀ {l₁ : List α} {l₂ : List β}, Paired F l₁ l₂ → ∀ (i : Nat) (a : α), l₁[i]? = some a → ∃ b, l₂[i]? = some b ∧ F a b
  | _, _, .nil, i, a, e => by simp at e
  | _, _, .cons h t, 0, a, e => by simp at e; subst e; exact ⟨_, rfl, h⟩
  | _, _, .cons h t, i + 1, a, e => by
    obtain ⟨b, h1, h2⟩ := paired_getL t i a (by simpa using e)
    exact ⟨b, by simpa using h1, h2⟩
theorem paired_length {α β : Type} {F : α → β → Prop} : ∀ {l₁ : List α} {l₂ : List β}, Paired F l₁ l₂ → l₁.length = l₂.length
  | _, _, .nil => rfl
  | _, _, .cons _ t => by simp [paired_length t]
theorem paired_imp {α β : Type} {F G : α → β → Prop} (f : ∀ a b, F a b → G a b) : ∀ {l₁ : List α} {l₂ : List β}, Paired F l₁ l₂ → Paired G l₁ l₂
  | _, _, .nil => .nil
  | _, _, .cons h t => .cons (f _ _ h) (paired_imp f t)
theorem paired_snoc {α β : Type} {F : α → β → Prop} {a : α} {b : β} : ∀ {l₁ : List α} {l₂ : List β}, Paired F l₁ l₂ → F a b → Paired F (l₁ ++ [a]) (l₂ ++ [b])
  | _, _, .nil, h => .cons h .nil
  | _, _, .cons h₁ t, h => .cons h₁ (paired_snoc t h)

/-! ### schemes -/
abbrev Tab := List (List Int)
def RowAt (H : Hp) (v : V) (r : List Int) : Prop := ∃ a, v = .ref a ∧ H a = some (.tup (r.map V.int))
def TabAt (H : Hp) (v : V) (t : Tab) : Prop := ∃ a vs, v = .ref a ∧ H a = some (.tup vs) ∧ Paired (RowAt H) vs t
def TabsAt (H : Hp) (v : V) (ts : List Tab) : Prop := ∃ a vs, v = .ref a ∧ H a = some (.tup vs) ∧ Paired (TabAt H) vs ts
def SchAt (H : Hp) (v : V) (b : Int) (ts : List Tab) : Prop := ∃ a w, v = .ref a ∧ H a = some (.tup [.int b, w]) ∧ TabsAt H w ts
theorem RowAt.same {H H' : Hp} {v : V} {r : List Int} (s : Same H H') (h : RowAt H v r) : RowAt H' v r := by
  obtain ⟨a, e, h⟩ := h
  exact ⟨a, e, s _ _ h⟩
theorem TabAt.same {H H' : Hp} {v : V} {t : Tab} (s : Same H H') (h : TabAt H v t) : TabAt H' v t := by
  obtain ⟨a, vs, e, h, p⟩ := h
  exact ⟨a, vs, e, s _ _ h, paired_imp (fun _ _ => RowAt.same s) p⟩
theorem TabsAt.same {H H' : Hp} {v : V} {ts : List Tab} (s : Same H H') (h : TabsAt H v ts) : TabsAt H' v ts := by
  obtain ⟨a, vs, e, h, p⟩ := h
  exact ⟨a, vs, e, s _ _ h, paired_imp (fun _ _ => TabAt.same s) p⟩
theorem SchAt.same {H H' : Hp} {v : V} {b : Int} {ts : List Tab} (s : Same H H') (h : SchAt H v b ts) : SchAt H' v b ts := by
  obtain ⟨a, w, e, h, p⟩ := h
  exact ⟨a, w, e, s _ _ h, p.same s⟩
theorem same_new {H : Hp} {a : Addr} {o : HO} (h : H a = none) : Same H (upd H a o) := fun b u e => by
  rw [upd_ne (ne_of_none e h)]
  exact e
/-- the list at l, new since H, is changed -/
theorem same_mut {H H' : Hp} {l : Addr} {o : HO} (s : Same H H') (h : H l = none) : Same H (upd H' l o) := fun b u e => by
  rw [upd_ne (ne_of_none e h)]
  exact s b u e

/-! ### what is a scheme -/
def wholeB (v l m : Int) : Bool := decide (l ≤ v) && decide (v ≤ m)
def lenB {α : Type} (xs : List α) (l m : Int) : Bool := decide (l ≤ (xs.length : Int)) && decide ((xs.length : Int) ≤ m)
def rowB (b n : Int) (r : List Int) : Bool := lenB r b b && (r.map fun e => wholeB e 0 (n - 1)).all id
def tabB (b n : Int) (t : Tab) : Bool := lenB t n n && (t.map fun r => rowB b n r).all id
def tabsB (b : Int) (ts : List Tab) : Bool := lenB ts 1 6 && lenB (ts.headD []) 1 12 && (ts.map fun t => tabB b ((ts.headD []).length : Int) t).all id
def schB (b : Int) (ts : List Tab) : Bool := wholeB b 2 10 && tabsB b ts
theorem wholeB_iff {v l m : Int} : wholeB v l m = true ↔ l ≤ v ∧ v ≤ m := by simp [wholeB]
theorem lenB_iff {α : Type} {xs : List α} {l m : Int} : lenB xs l m = true ↔ l ≤ (xs.length : Int) ∧ (xs.length : Int) ≤ m := by simp [lenB]
/-- the number of states -/
def nst (ts : List Tab) : Nat := (ts.headD []).length
structure Ok (b : Int) (ts : List Tab) : Prop where
  b1 : 2 ≤ b
  b2 : b ≤ 10
  t1 : 1 ≤ ts.length
  t2 : ts.length ≤ 6
  n1 : 1 ≤ nst ts
  n2 : nst ts ≤ 12
  rows : ∀ t ∈ ts, t.length = nst ts
  figs : ∀ t ∈ ts, ∀ r ∈ t, (r.length : Int) = b
  ents : ∀ t ∈ ts, ∀ r ∈ t, ∀ e ∈ r, 0 ≤ e ∧ e < (nst ts : Int)
theorem schB_iff {b : Int} {ts : List Tab} : schB b ts = true ↔ Ok b ts := by
  unfold schB tabsB tabB rowB
  simp only [Bool.and_eq_true, wholeB_iff, lenB_iff, List.all_eq_true, List.mem_map, id_eq, forall_exists_index, and_imp, forall_apply_eq_imp_iff₂]
  constructor
  · rintro ⟨⟨h1, h2⟩, ⟨⟨h3, h4⟩, h5, h6⟩, h7⟩
    refine ⟨h1, h2, by omega, by omega, by unfold nst; omega, by unfold nst; omega, fun t ht => ?_, fun t ht r hr => ?_, fun t ht r hr e he => ?_⟩
    · have := (h7 t ht).1
      unfold nst
      omega
    · have := ((h7 t ht).2 r hr).1
      omega
    · have := ((h7 t ht).2 r hr).2 e he
      unfold nst
      omega
  · intro h
    have := h.b1
    have := h.b2
    have := h.t1
    have := h.t2
    have h1 := h.n1
    have h2 := h.n2
    unfold nst at h1 h2
    refine ⟨⟨h.b1, h.b2⟩, ⟨⟨by omega, by omega⟩, by omega, by omega⟩, fun t ht => ⟨?_, fun r hr => ⟨?_, fun e he => ?_⟩⟩⟩
    · have := h.rows t ht
      unfold nst at this
      omega
    · have := h.figs t ht r hr
      omega
    · have := h.ents t ht r hr e he
      unfold nst at this
      omega

/-! ### reading -/
def ent (ts : List Tab) (t : Nat) (s f : Int) : Int := ((ts.getD t []).getD s.toNat []).getD f.toNat 0
def rd (ts : List Tab) : Nat → Int → List Int → Int
  | _, s, [] => s
  | t, s, f :: fs => rd ts (t + 1) (ent ts (t % ts.length) s f) fs
theorem rd_snoc (ts : List Tab) : ∀ (fs : List Int) (t : Nat) (s f : Int), rd ts t s (fs ++ [f]) = ent ts ((t + fs.length) % ts.length) (rd ts t s fs) f
  | [], t, s, f => by simp [rd]
  | g :: fs, t, s, f => by
    rw [List.cons_append]
    unfold rd
    rw [rd_snoc ts fs]
    have e : t + 1 + fs.length = t + (g :: fs).length := by simp; omega
    rw [e]
theorem take_succ_get {α : Type} {xs : List α} {i : Nat} {x : α} (h : xs[i]? = some x) : xs.take (i + 1) = xs.take i ++ [x] := by
  rw [List.take_add_one, h]
  rfl
def figsIn (b : Int) (fs : List Int) : Prop := ∀ f ∈ fs, 0 ≤ f ∧ f < b
theorem Ok.look {b : Int} {ts : List Tab} (o : Ok b ts) {t : Nat} {s f : Int} (ht : t < ts.length) (s0 : 0 ≤ s) (s1 : s < (nst ts : Int)) (f0 : 0 ≤ f) (f1 : f < b) :
    ∃ tab row, ts[t]? = some tab ∧ tab[s.toNat]? = some row ∧ row[f.toNat]? = some (ent ts t s f) ∧ 0 ≤ ent ts t s f ∧ ent ts t s f < (nst ts : Int) := by
  have h1 : ts[t] ∈ ts := List.getElem_mem ht
  have l1 := o.rows _ h1
  have hs : s.toNat < ts[t].length := by omega
  have h2 : ts[t][s.toNat] ∈ ts[t] := List.getElem_mem hs
  have l2 := o.figs _ h1 _ h2
  have hf : f.toNat < ts[t][s.toNat].length := by omega
  have h3 : ts[t][s.toNat][f.toNat] ∈ ts[t][s.toNat] := List.getElem_mem hf
  have e : ent ts t s f = ts[t][s.toNat][f.toNat] := by
    unfold ent
    simp [List.getD_eq_getElem?_getD, ht, hs, hf]
  rw [e]
  exact ⟨ts[t], ts[t][s.toNat], by simp [ht], by simp [hs], by simp [hf], o.ents _ h1 _ h2 _ h3⟩
theorem Ok.rd_lt {b : Int} {ts : List Tab} (o : Ok b ts) : ∀ (fs : List Int) (t : Nat) (s : Int), 0 ≤ s → s < (nst ts : Int) → figsIn b fs → 0 ≤ rd ts t s fs ∧ rd ts t s fs < (nst ts : Int)
  | [], t, s, h0, h1, _ => ⟨h0, h1⟩
  | f :: fs, t, s, h0, h1, hf => by
    unfold rd
    have hm : t % ts.length < ts.length := Nat.mod_lt _ o.t1
    obtain ⟨_, _, _, _, _, e0, e1⟩ := o.look hm h0 h1 (hf f List.mem_cons_self).1 (hf f List.mem_cons_self).2
    exact Ok.rd_lt o fs _ _ e0 e1 fun g hg => hf g (List.mem_cons_of_mem _ hg)
theorem atI_int {α : Type} {xs : List α} {i : Int} {v : α} (h0 : 0 ≤ i) (h : xs[i.toNat]? = some v) : atI xs i = some v := by
  have e := atI_nat h
  rwa [Int.toNat_of_nonneg h0] at e
/-- tables[t][s][f] -/
theorem TabsAt.look {H : Hp} {v : V} {b : Int} {ts : List Tab} (h : TabsAt H v ts) (o : Ok b ts) {t : Nat} {s f : Int} (ht : t < ts.length) (s0 : 0 ≤ s) (s1 : s < (nst ts : Int)) (f0 : 0 ≤ f) (f1 : f < b) :
    ∃ a1 x1 y1 a2 x2 y2 a3 x3, v = .ref a1 ∧ H a1 = some (.tup x1) ∧ atI x1 (t : Int) = some y1 ∧ y1 = .ref a2 ∧ H a2 = some (.tup x2) ∧ atI x2 s = some y2 ∧ y2 = .ref a3 ∧ H a3 = some (.tup x3) ∧ atI x3 f = some (.int (ent ts t s f)) := by
  obtain ⟨tab, row, e1, e2, e3, _, _⟩ := o.look ht s0 s1 f0 f1
  obtain ⟨a1, x1, rfl, h1, p1⟩ := h
  obtain ⟨y1, q1, ⟨a2, x2, z1, h2, p2⟩⟩ := paired_get p1 _ _ e1
  obtain ⟨y2, q2, ⟨a3, z2, h3⟩⟩ := paired_get p2 _ _ e2
  refine ⟨a1, x1, y1, a2, x2, y2, a3, _, rfl, h1, atI_nat q1, z1, h2, atI_int s0 q2, z2, h3, atI_int f0 ?_⟩
  rw [List.getElem?_map, e3]
  rfl
theorem TabsAt.len {H : Hp} {v : V} {ts : List Tab} (h : TabsAt H v ts) : ∃ a xs, v = .ref a ∧ H a = some (.tup xs) ∧ xs.length = ts.length := by
  obtain ⟨a1, x1, e, h1, p1⟩ := h
  exact ⟨a1, x1, e, h1, paired_length p1⟩
end My

set_option maxHeartbeats 1000000
namespace L2
open PySem PySem.Spec PyProof.Rows
/-- a value that is a key, or within one -/
inductive KR (K : PySem.W.Frag) (H : Hp) : V → PyData → Prop
  | int (i : Int) : KR K H (.int i) (.int i)
  | bl (b : Bool) : KR K H (.bl b) (.bool b)
  | non : KR K H .non .none
  | tup {a : Addr} {xs : List V} {ds : List PyData} : SqT K H a xs → xs.length = ds.length → (∀ (i : Nat) x d, xs[i]? = some x → ds[i]? = some d → KR K H x d) → KR K H (.ref a) (.tuple ds)
theorem KR.mono {K : PySem.W.Frag} {H H' : Hp} (s : ∀ a xs, SqT K H a xs → SqT K H' a xs) {v : V} {d : PyData} (h : KR K H v d) : KR K H' v d := by
  induction h with
  | int i => exact .int i
  | bl b => exact .bl b
  | non => exact .non
  | tup h1 h2 _ ih => exact .tup (s _ _ h1) h2 ih
theorem KR.same {K : PySem.W.Frag} {H H' : Hp} (s : Same H H') {v : V} {d : PyData} (h : KR K H v d) : KR K H' v d := h.mono fun _ _ => s.seqT
theorem repAll_of {K : PySem.W.Frag} {H : Hp} : ∀ {xs : List V} {ds : List PyData}, xs.length = ds.length → (∀ (i : Nat) x d, xs[i]? = some x → ds[i]? = some d → Rep K H x d) → RepAll K H xs ds
  | [], [], _, _ => .nil
  | [], _ :: _, h, _ => by simp at h
  | _ :: _, [], h, _ => by simp at h
  | x :: xs, d :: ds, h, f => .cons (f 0 x d rfl rfl) (repAll_of (by simpa using h) fun i y e h1 h2 => f (i + 1) y e (by simpa using h1) (by simpa using h2))
theorem KR.rep {K : PySem.W.Frag} {H : Hp} {v : V} {d : PyData} (h : KR K H v d) : Rep K H v d := by
  induction h with
  | int i => exact .int i
  | bl b => exact .bl b
  | non => exact .non
  | tup h1 h2 _ ih => exact .tup h1 (repAll_of h2 ih)
/-- a tuple that is a key -/
structure KeyAt (K : PySem.W.Frag) (H : Hp) (c : Bool) (a : Addr) (k : PyData) : Prop where
  kr : KR K H (.ref a) k
  key : keyD c k = true
  deep : k.depth ≤ 8
theorem KeyAt.mono {K : PySem.W.Frag} {H H' : Hp} {c : Bool} {a : Addr} {k : PyData} (s : ∀ a xs, SqT K H a xs → SqT K H' a xs) (h : KeyAt K H c a k) : KeyAt K H' c a k := ⟨h.kr.mono s, h.key, h.deep⟩
theorem KeyAt.same {K : PySem.W.Frag} {H H' : Hp} {c : Bool} {a : Addr} {k : PyData} (s : Same H H') (h : KeyAt K H c a k) : KeyAt K H' c a k := h.mono fun _ _ => s.seqT
def dφ (P : Program) (w : World) (c : Bool) (d : Addr) (xs : List (PyData × Addr × Value)) (ep : Nat) : Heap → Prop := fun h => (d == sysModules) = false ∧ ∃ o es, h.get? d = some o ∧ o.ExactDict ∧ o.data = .dict es ep ∧ es.toList = xs.map (entryOfKey (nkKind P w c)) ∧ (xs.map (·.1)).Nodup
theorem dφ_ok {P : Program} {w : World} {H : Hp} {h : Heap} {c : Bool} {d : Addr} {xs : List (PyData × Addr × Value)} {ep : Nat} (e : dφ P w c d xs ep h) : ObjOk P w H h d (.ext (dφ P w c d xs ep)) := by
  obtain ⟨h0, o, es, h1, r⟩ := id e
  exact ⟨e, ⟨o, h1⟩, fun g1 g2 ⟨h0, o, es, h1, r⟩ k => ⟨h0, o, es, k o h1, r⟩⟩
abbrev DRel (K : PySem.W.Frag) (H : Hp) (c : Bool) : List (PyData × V) → List (PyData × Addr × Value) → Prop := Paired fun p q => p.1 = q.1 ∧ KeyAt K H c q.2.1 p.1 ∧ RelV p.2 q.2.2
/-- the dict at d -/
structure DAt (P : Program) (w : World) (K : PySem.W.Frag) (c : Bool) (H : Hp) (d : Addr) (kvs : List (PyData × V)) : Prop where
  ex : ∃ xs ep, H d = some (.ext (dφ P w c d xs ep)) ∧ DRel K H c kvs xs
  few : kvs.length ≤ sizeLine
noncomputable def valN (kvs : List (PyData × V)) (k : PyData) : Option V := (kvs.find? fun p => decide (p.1 = k)).map (·.2)
noncomputable def putN (kvs : List (PyData × V)) (k : PyData) (v : V) : List (PyData × V) := if (valN kvs k).isSome then kvs.map (fun p => if p.1 = k then (p.1, v) else p) else kvs ++ [(k, v)]
theorem DRel.val {K : PySem.W.Frag} {H : Hp} {c : Bool} {kvs : List (PyData × V)} {xs : List (PyData × Addr × Value)} (r : DRel K H c kvs xs) (k : PyData) : RelO (valN kvs k) ((atKey xs k).map (·.2)) := by
  unfold DRel at r
  induction r with
  | nil => exact True.intro
  | @cons p q ps qs h t ih =>
    unfold valN atKey at ih ⊢
    rw [List.find?_cons, List.find?_cons, ← h.1]
    by_cases e : p.1 = k
    · rw [decide_eq_true e]
      exact h.2.2
    · rw [decide_eq_false e]
      exact ih
theorem DRel.put {K : PySem.W.Frag} {H : Hp} {c : Bool} {kvs : List (PyData × V)} {xs : List (PyData × Addr × Value)} (r : DRel K H c kvs xs) {k : PyData} {b : Addr} {v : V} {u : Value} (hk : KeyAt K H c b k) (rv : RelV v u) :
    DRel K H c (putN kvs k v) (storedH xs k b u) := by
  have e : (valN kvs k).isSome = (atKey xs k).isSome := by
    have := r.val k
    cases h1 : valN kvs k <;> cases h2 : atKey xs k <;> rw [h1, h2] at this <;> simp_all [RelO]
  unfold putN storedH
  rw [e]
  by_cases q : (atKey xs k).isSome = true
  · rw [if_pos q, if_pos q]
    clear e q
    unfold DRel at r ⊢
    induction r with
    | nil => exact .nil
    | @cons p q ps qs h t ih =>
      refine .cons ?_ ih
      unfold putAt
      by_cases e : p.1 = k
      · simp only [if_pos e, if_pos (h.1.symm.trans e)]
        exact ⟨h.1, h.2.1, rv⟩
      · simp only [if_neg e, if_neg (fun z => e (h.1.trans z))]
        exact h
  · rw [if_neg q, if_neg q]
    exact My.paired_snoc r ⟨rfl, hk, rv⟩
theorem DRel.mono {K : PySem.W.Frag} {H H' : Hp} {c : Bool} {kvs : List (PyData × V)} {xs : List (PyData × Addr × Value)} (s : ∀ a xs, SqT K H a xs → SqT K H' a xs) (r : DRel K H c kvs xs) : DRel K H' c kvs xs :=
  My.paired_imp (fun _ _ h => ⟨h.1, h.2.1.mono s, h.2.2⟩) r
theorem DAt.same {P : Program} {w : World} {K : PySem.W.Frag} {c : Bool} {H H' : Hp} {d : Addr} {kvs : List (PyData × V)} (s : Same H H') (h : DAt P w K c H d kvs) : DAt P w K c H' d kvs := by
  obtain ⟨⟨xs, ep, e, r⟩, z⟩ := h
  exact ⟨⟨xs, ep, s _ _ e, r.mono fun _ _ => s.seqT⟩, z⟩
/-- tuples stay while another thing at d changes -/
theorem seqT_put {K : PySem.W.Frag} {H : Hp} {d : Addr} {φ : Heap → Prop} {o : HO} (h : H d = some (.ext φ)) (a : Addr) (xs : List V) (t : SqT K H a xs) : SqT K (upd H d o) a xs := by
  rcases t with (t | ⟨ob, t⟩) | t
  · exact .inl (.inl (by rw [upd_ne (ne_of t h (by intro z; cases z))]; exact t))
  · exact .inl (.inr ⟨ob, by rw [upd_ne (ne_of t h (by intro z; cases z))]; exact t⟩)
  · exact .inr t
theorem seqT_putL {K : PySem.W.Frag} {H : Hp} {d : Addr} {ys : List V} {o : HO} (h : H d = some (.lst ys)) (a : Addr) (xs : List V) (t : SqT K H a xs) : SqT K (upd H d o) a xs := by
  rcases t with (t | ⟨ob, t⟩) | t
  · exact .inl (.inl (by rw [upd_ne (ne_of t h (by intro z; cases z))]; exact t))
  · exact .inl (.inr ⟨ob, by rw [upd_ne (ne_of t h (by intro z; cases z))]; exact t⟩)
  · exact .inr t
/-- a list changes, a dict stays -/
theorem DAt.putL {P : Program} {w : World} {K : PySem.W.Frag} {c : Bool} {H : Hp} {d l : Addr} {kvs : List (PyData × V)} {ys : List V} {o : HO} (h : DAt P w K c H d kvs) (hl : H l = some (.lst ys)) : DAt P w K c (upd H l o) d kvs := by
  obtain ⟨⟨xs, ep, e, r⟩, z⟩ := h
  refine ⟨⟨xs, ep, ?_, r.mono fun a xs t => seqT_putL hl a xs t⟩, z⟩
  rw [upd_ne (ne_of e hl (by intro z; cases z))]
  exact e
theorem KeyAt.putL {K : PySem.W.Frag} {H : Hp} {c : Bool} {a l : Addr} {k : PyData} {ys : List V} {o : HO} (h : KeyAt K H c a k) (hl : H l = some (.lst ys)) : KeyAt K (upd H l o) c a k := h.mono fun a xs t => seqT_putL hl a xs t
section
variable {X : Cx} {pins : List (Addr × Obj)} {σ : St} {H : Hp} {s : Shared}
theorem KeyAt.is {c : Bool} {a : Addr} {k : PyData} (I : Inv X pins σ H s) (h : KeyAt X.K H c a k) : (nkKind X.prog X.w c).is s.heap k a := by
  obtain ⟨as, r⟩ := Rep.reads I h.kr.rep (u := .ref a) rfl
  exact ⟨h.key, h.deep, as, r⟩
theorem dn_of {c : Bool} {d : Addr} {xs : List (PyData × Addr × Value)} {ep : Nat} {kvs : List (PyData × V)} (I : Inv X pins σ H s) (e : H d = some (.ext (dφ X.prog X.w c d xs ep))) (r : DRel X.K H c kvs xs) : (d == sysModules) = false ∧ s.heap.DictOfH (nkKind X.prog X.w c) d xs := by
  obtain ⟨⟨h0, o, es, h1, h2, h3, h4, h5⟩, _, _⟩ := (show ObjOk X.prog X.w H s.heap d (.ext (dφ X.prog X.w c d xs ep)) from I.hok d _ e)
  refine ⟨h0, o, es, ep, h1, h2, h3, h4, fun x hx => ?_, h5⟩
  have all : ∀ {l : List (PyData × V)} {m : List (PyData × Addr × Value)}, DRel X.K H c l m → ∀ x ∈ m, (nkKind X.prog X.w c).is s.heap x.1 x.2.1 := by
    intro l m q
    unfold DRel at q
    induction q with
    | nil => intro x hx; cases hx
    | @cons p q ps qs hq t ih =>
      intro x hx
      rcases List.mem_cons.mp hx with e | hx
      · subst e
        rw [← hq.1]
        exact hq.2.1.is I
      · exact ih x hx
  exact all r x hx
end
/-- what is asked of a dict -/
def NGet (P : Program) (w : World) (K : PySem.W.Frag) (c : Bool) (H : Hp) (a : Addr) (y : V) (r : Option V) : Prop := ∃ kvs k b, DAt P w K c H a kvs ∧ y = .ref b ∧ KeyAt K H c b k ∧ r = valN kvs k
section
variable {X : Cx} {o i e value : Expr} {pos pos' tpos : Pos} {td ty tv : TE} {c : Bool}
theorem nroom {X : Cx} (hu : X.A.units + 64 < cLine) : X.A.in1.units + 8 < cLine := by
  rw [Around.in1_units]
  omega
def tNGet (X : Cx) (c : Bool) (td ty : TE) : TE := fun σ H Q => td σ H fun x H1 => ty σ H1 fun y H2 => ∃ a v, x = .ref a ∧ NGet X.prog X.w X.K c H2 a y (some v) ∧ Q v H2
def tNIn (X : Cx) (c neg : Bool) (ty td : TE) : TE := fun σ H Q => ty σ H fun y H1 => td σ H1 fun x H2 => ∃ a r, x = .ref a ∧ NGet X.prog X.w X.K c H2 a y r ∧ Q (.bl (if neg then !r.isSome else r.isSome)) H2
theorem subN_of {prog : Program} {w : World} {A : Around} {E : Value → Shared → Prop} {s : Shared} {env : Env} {value slice : Expr} {pos : Pos} {T id : String} {Q : Value → Shared → Prop}
    (hl : typeLookup (.type T) "__getitem__" = pure (some (.builtin id))) (hs : PlainIx slice)
    (h : wpAny (model prog w) A (eval value env) (fun o s₁ => wpAny (model prog w) A (eval slice env) (fun i s₂ => s₂.TypeIs o T ∧ wpAny (model prog w) A (getItem o i) Q E s₂) E s₁) E s) :
    wpAny (model prog w) A (eval (.Subscript value slice pos) env) Q E s := by
  refine Subscript_ (wpAny_mono h (fun o s₁ h₁ => wpAny_mono h₁ (fun i s₂ h₂ => ?_) fun _ _ x => x) fun _ _ x => x)
  obtain ⟨hT, h₂⟩ := h₂
  unfold subscriptTail
  refine wpAny_bind ?_
  rw [getitemInPython_of_ne hT.not_modules]
  refine wpAny_bind (wpAny_specialOf hT hl ?_)
  have fin : wpAny (model prog w) A (subscripted slice false o i) (fun r s₃ => wpAny (model prog w) A (letTemporaryGo value o r >>= fun _ => pure r) Q E s₃) E s₂ := by
    rw [hs o i]
    exact wpAny_operating (wpAny_mono h₂ (fun r s₃ h₃ => wpAny_bind (wpAny_letTemporaryGo (wpAny_pure h₃))) fun _ _ x => x)
  first
    | exact wpAny_pure (wpAny_bind fin)
    | exact wpAny_bind (wpAny_pure (wpAny_bind fin))
    | exact wpAny_bind fin
theorem pe_nget (c : Bool) (hu : X.A.units + 64 < cLine) (ho : PE X o td) (hi : PE X i ty) (hs : PlainIx i) : PE X (.Subscript o i pos) (tNGet X c td ty) := by
  intro pins s σ H Q I h
  refine subN_of PySem.F.slot_dict_getitem.lookup hs (thn (ho pins s σ H _ I h) fun u s1 ⟨x, H1, I1, rx, q1⟩ => thn (hi pins s1 σ H1 _ I1 q1) fun iv s2 ⟨y, H2, I2, ry, a, v, ex, ⟨kvs, k, b, ⟨⟨xs, ep0, he, hr⟩, hz⟩, ey, hk, hv⟩, q2⟩ => ?_)
  subst ex
  subst ey
  obtain rfl : u = Value.ref a := rx
  obtain rfl : iv = Value.ref b := ry
  obtain ⟨hd, dd⟩ := dn_of I2 he hr
  obtain ⟨w', hw, rw'⟩ := RelO.some_of (v := v) (o := (atKey xs k).map (·.2)) (by rw [hv]; exact hr.val k)
  obtain ⟨p, hp, hp2⟩ := Option.map_eq_some_iff.mp hw
  refine ⟨dd.typeIs, wpAny_getItem_heap (nroom hu) (hk.is I2) dd hp ?_⟩
  rw [hp2]
  exact ⟨v, H2, I2.tok _, rw', q2⟩
theorem isSome_rel {kvs : List (PyData × V)} {xs : List (PyData × Addr × Value)} {K : PySem.W.Frag} {H : Hp} (r : DRel K H c kvs xs) (k : PyData) : (atKey xs k).isSome = (valN kvs k).isSome := by
  have := r.val k
  cases h1 : valN kvs k <;> cases h2 : atKey xs k <;> rw [h1, h2] at this <;> simp_all [RelO]
theorem op_nin (c : Bool) (hu : X.A.units + 64 < cLine) : OpR X (compareOp .In) (fun y x H Q => ∃ a r, x = .ref a ∧ NGet X.prog X.w X.K c H a y r ∧ Q (.bl r.isSome) H) := by
  intro pins s σ H y x v u Q I ry rx h
  obtain ⟨a, r, rfl, ⟨kvs, k, b, ⟨⟨xs, ep0, he, hr⟩, hz⟩, rfl, hk, hv⟩, q⟩ := h
  cases rx
  cases ry
  obtain ⟨hd, dd⟩ := dn_of I he hr
  refine wpAny_in_heap (nroom hu) (hk.is I) hd dd ?_
  rw [isSome_rel hr, ← hv]
  exact ⟨.bl _, H, I.tok _, rfl, q⟩
theorem op_nnotin (c : Bool) (hu : X.A.units + 64 < cLine) : OpR X (compareOp .NotIn) (fun y x H Q => ∃ a r, x = .ref a ∧ NGet X.prog X.w X.K c H a y r ∧ Q (.bl (!r.isSome)) H) := by
  intro pins s σ H y x v u Q I ry rx h
  obtain ⟨a, r, rfl, ⟨kvs, k, b, ⟨⟨xs, ep0, he, hr⟩, hz⟩, rfl, hk, hv⟩, q⟩ := h
  cases rx
  cases ry
  obtain ⟨hd, dd⟩ := dn_of I he hr
  refine wpAny_notIn_heap (nroom hu) (hk.is I) hd dd ?_
  rw [isSome_rel hr, ← hv]
  exact ⟨.bl _, H, I.tok _, rfl, q⟩
/-- d[y] = v -/
def sNPut (X : Cx) (c : Bool) (td ty tv : TE) : TS := fun D σ H => tv σ H fun v H1 => td σ H1 fun x H2 => ty σ H2 fun y H3 => ∃ a b kvs k, x = .ref a ∧ y = .ref b ∧ DAt X.prog X.w X.K c H3 a kvs ∧ KeyAt X.K H3 c b k ∧ kvs.length < sizeLine ∧
  ∀ xs ep, DAt X.prog X.w X.K c (upd H3 a (.ext (dφ X.prog X.w c a xs ep))) a (putN kvs k v) → D.nx σ (upd H3 a (.ext (dφ X.prog X.w c a xs ep)))
theorem length_putN (kvs : List (PyData × V)) (k : PyData) (v : V) : (putN kvs k v).length ≤ kvs.length + 1 := by
  unfold putN
  split
  · rw [List.length_map]; omega
  · rw [List.length_append, List.length_singleton]; exact Nat.le_refl _
theorem ps_nput (c : Bool) (hu : X.A.units + 64 < cLine) (ho : PE X o td) (hi : PE X i ty) (hv : PE X value tv) (hs : swapsWith value (some (.Subscript o i pos')) pos.line X.env = pure false) :
    PS X (.Assign [.Subscript o i pos'] value pos) (sNPut X c td ty tv) := by
  intro pins s σ H D I h
  refine wpAny_Assign_Subscript (thn (hv pins s σ H _ I h) fun r s1 ⟨v, H1, I1, rv, q1⟩ => thn (ho pins s1 σ H1 _ I1 q1) fun u s2 ⟨x, H2, I2, rx, q2⟩ => thn (hi pins s2 σ H2 _ I2 q2) fun iv s3 ⟨y, H3, I3, ry, a, b, kvs, k, ex, ey, ⟨⟨xs, ep0, he, hr⟩, hz⟩, hk, hl, q3⟩ => ?_) hs
  subst ex
  subst ey
  obtain rfl : u = Value.ref a := rx
  obtain rfl : iv = Value.ref b := ry
  obtain ⟨hd, dd⟩ := dn_of I3 he hr
  have hz2 : xs.length ≤ sizeLine := by rw [← My.paired_length hr]; exact hz
  refine wpAny_setItem_heap (hsz := hz2) (nroom hu) (hk.is I3) dd fun h' dd' hs' => ?_
  obtain ⟨q, es, ep, hq, h2, h3, h4, _, h5⟩ := dd'
  have hp := length_putN kvs k v
  refine ⟨σ, _, I3.write (t' := s3.toks + (nkKind X.prog X.w c).draws k) (x := a) (e := a) (o := .ext (dφ X.prog X.w c a (storedH xs k b r) ep)) (by rw [he]; exact True.intro) (.inl rfl) (fun b q hb z => (hs'.2 b hb).trans z) ⟨q, hq⟩ (dφ_ok ⟨hd, q, es, hq, h2, h3, h4, h5⟩), q3 (storedH xs k b r) ep ?_⟩
  refine ⟨⟨_, _, upd_same, (hr.put hk rv).mono fun a xs t => seqT_put he a xs t⟩, by omega⟩
/-- {k: v} -/
def tNDisp1 (X : Cx) (c : Bool) (tk tv : TE) : TE := fun σ H Q => ∀ p, H p = none → tk σ (upd H p (.ext (dφ X.prog X.w c p [] 0))) fun y H1 => tv σ H1 fun v H2 => ∃ b k, y = .ref b ∧ H2 p = some (.ext (dφ X.prog X.w c p [] 0)) ∧ KeyAt X.K H2 c b k ∧
  ∀ xs ep, DAt X.prog X.w X.K c (upd H2 p (.ext (dφ X.prog X.w c p xs ep))) p [(k, v)] → Q (.ref p) (upd H2 p (.ext (dφ X.prog X.w c p xs ep)))
theorem big_of {pins : List (Addr × Obj)} {σ : St} {H : Hp} {s : Shared} (I : Inv X pins σ H s) : sysModules < s.heap.objs.size := by
  have h : mainGlobals < s.heap.objs.size := (I.mod.glob.keeps I.bk).lt
  exact Nat.lt_trans (by decide) h
theorem Inv.newN {pins : List (Addr × Obj)} {σ : St} {H : Hp} {s : Shared} {t' : Nat} (c : Bool) (I : Inv X pins σ H s) : Inv X pins σ (upd H s.heap.objs.size (.ext (dφ X.prog X.w c s.heap.objs.size [] 0))) { s with heap := s.heap.push { cls := .type "dict", data := .dict #[] }, toks := t' } :=
  I.laid (a := s.heap.objs.size) (fun _ _ q => Heap.get?_push_of_some _ q) (Nat.le_refl _) (dφ_ok ⟨beq_eq_false_iff_ne.mpr (Ne.symm (Nat.ne_of_lt (big_of I))), _, #[], Heap.get?_push_size _ rfl, ⟨rfl, rfl, rfl⟩, rfl, rfl, List.nodup_nil⟩)
theorem pe_ndisp1 {k v : Expr} {tk tv : TE} (c : Bool) (hu : X.A.units + 64 < cLine) (hk : PE X k tk) (hv : PE X v tv) : PE X (.Dict [some k] [v] pos) (tNDisp1 X c tk tv) := by
  intro pins s σ H Q I h
  have hn := I.hok.fresh (Nat.le_refl s.heap.objs.size)
  have I1 := I.newN (t' := s.toks) c
  refine wpAny_Dict_any rfl rfl (by simp) (by show 1 ≤ 15; decide) (pairTrees_cons_walk (thn (hk pins _ σ _ _ I1 (h _ hn)) fun u s1 ⟨y, H1, I2, ry, q1⟩ => thn (hv pins s1 σ H1 _ I2 q1) fun w2 s2 ⟨z, H2, I3, rz, b, kd, ey, e2, hkd, q2⟩ => pairTrees_nil_walk ?_))
  subst ey
  obtain rfl : u = Value.ref b := ry
  obtain ⟨hd, dd⟩ := dn_of I3 e2 (kvs := []) .nil
  unfold storeAll
  rw [List.forIn_cons]
  refine wpAny_bind (wpAny_bind (wpAny_dictSet_heap (hsz := by simp) (by show X.A.units + 8 < cLine; omega) (hkd.is I3) dd fun h' dd' hs' => wpAny_pure ?_))
  show wpAny _ _ (pure PUnit.unit) _ _ _
  refine wpAny_pure ?_
  obtain ⟨q, es, ep, hq, h2, h3, h4, _, h5⟩ := dd'
  refine ⟨.ref s.heap.objs.size, _, I3.write (t' := s2.toks + (nkKind X.prog X.w c).draws kd) (x := s.heap.objs.size) (e := s.heap.objs.size) (o := .ext (dφ X.prog X.w c s.heap.objs.size (storedH [] kd b w2) ep)) (by rw [e2]; exact True.intro) (.inl rfl) (fun b q hb z => (hs'.2 b hb).trans z) ⟨q, hq⟩ (dφ_ok ⟨hd, q, es, hq, h2, h3, h4, h5⟩), rfl, q2 _ ep ?_⟩
  refine ⟨⟨_, _, upd_same, ?_⟩, by show 1 ≤ sizeLine; decide⟩
  exact .cons ⟨rfl, hkd.mono fun a xs t => seqT_put e2 a xs t, rz⟩ .nil
/-- {} -/
def tNDisp0 (X : Cx) (c : Bool) : TE := fun _ H Q => ∀ p, H p = none → DAt X.prog X.w X.K c (upd H p (.ext (dφ X.prog X.w c p [] 0))) p [] → Q (.ref p) (upd H p (.ext (dφ X.prog X.w c p [] 0)))
theorem pe_ndisp0 (c : Bool) : PE X (.Dict [] [] pos) (tNDisp0 X c) := fun pins s σ H Q I h =>
  wpAny_Dict_empty ⟨.ref s.heap.objs.size, _, I.newN (t' := s.toks) c, rfl, h _ (I.hok.fresh (Nat.le_refl _)) ⟨⟨[], 0, upd_same, .nil⟩, Nat.zero_le _⟩⟩
end
end L2

/-! OWN PART 11: the search, as mathematics -/
namespace My
section
variable {ν : Type} {lam : Type} (succ : ν → List (lam × ν))
/-- a way along the steps -/
inductive Wk : ν → List lam → ν → Prop
  | nil (n : ν) : Wk n [] n
  | snoc {n m k : ν} {ls : List lam} {l : lam} : Wk n ls m → (l, k) ∈ succ m → Wk n (ls ++ [l]) k
end
section
variable {ν : Type} {lam : Type} {succ : ν → List (lam × ν)} {fin : ν → Bool} {start : ν}
/-- the nodes found so far, each with the way to it -/
structure Arr (succ : ν → List (lam × ν)) (start : ν) (arr : List (ν × List lam)) : Prop where
  nd : (arr.map (·.1)).Nodup
  wk : ∀ n ls, (n, ls) ∈ arr → Wk succ start ls n
  st : (start, []) ∈ arr
  par : ∀ n ls l, (n, ls ++ [l]) ∈ arr → ∃ p, (p, ls) ∈ arr ∧ (l, n) ∈ succ p
def Has' (arr : List (ν × List lam)) (n : ν) : Prop := ∃ ls, (n, ls) ∈ arr
/-- n is gone through: no end, all its steps lead to what is found, not farther than one more -/
def Done (succ : ν → List (lam × ν)) (fin : ν → Bool) (arr : List (ν × List lam)) (d : Nat) (n : ν) : Prop := fin n = false ∧ ∀ l m, (l, m) ∈ succ n → ∃ ls, (m, ls) ∈ arr ∧ ls.length ≤ d + 1
theorem Done.more {arr arr' : List (ν × List lam)} {d : Nat} {n : ν} (s : ∀ x ∈ arr, x ∈ arr') (h : Done succ fin arr d n) : Done succ fin arr' d n :=
  ⟨h.1, fun l m hm => by obtain ⟨ls, h1, h2⟩ := h.2 l m hm; exact ⟨ls, s _ h1, h2⟩⟩
theorem arr_unique {arr : List (ν × List lam)} (h : (arr.map (·.1)).Nodup) {n : ν} {a b : List lam} (ha : (n, a) ∈ arr) (hb : (n, b) ∈ arr) : a = b := by
  induction arr with
  | nil => cases ha
  | cons x r ih =>
    rw [List.map_cons, List.nodup_cons] at h
    rcases List.mem_cons.mp ha with ha | ha <;> rcases List.mem_cons.mp hb with hb | hb
    · rw [← ha] at hb
      exact (Prod.mk.inj hb).2.symm
    · exact absurd (List.mem_map.mpr ⟨_, hb, rfl⟩) (by rw [show n = x.1 by rw [← ha]]; exact h.1)
    · exact absurd (List.mem_map.mpr ⟨_, ha, rfl⟩) (by rw [show n = x.1 by rw [← hb]]; exact h.1)
    · exact ih h.2 ha hb
theorem nodup_le [DecidableEq ν] : ∀ {l u : List ν}, l.Nodup → (∀ x ∈ l, x ∈ u) → l.length ≤ u.length
  | [], _, _, _ => Nat.zero_le _
  | x :: l, u, h, s => by
    rw [List.nodup_cons] at h
    have hx := s x List.mem_cons_self
    have := nodup_le (l := l) (u := u.erase x) h.2 fun y hy => by
      have hne : y ≠ x := fun e => h.1 (by rw [← e]; exact hy)
      exact (List.mem_erase_of_ne hne).mpr (s y (List.mem_cons_of_mem _ hy))
    rw [List.length_erase_of_mem hx] at this
    have hp : 0 < u.length := List.length_pos_of_mem hx
    rw [List.length_cons]
    omega
/-- all ways of up to d steps end in what is found, not farther -/
theorem cover {arr : List (ν × List lam)} {d : Nat} (A : Arr succ start arr) (done : ∀ n ls, (n, ls) ∈ arr → ls.length < d → Done succ fin arr ls.length n) :
    ∀ {ls : List lam} {m : ν}, Wk succ start ls m → ls.length ≤ d → ∃ ls', (m, ls') ∈ arr ∧ ls'.length ≤ ls.length := by
  intro ls m h
  induction h with
  | nil => intro _; exact ⟨[], A.st, Nat.le_refl _⟩
  | @snoc m k ls l _ he ih =>
    intro hl
    rw [List.length_append, List.length_singleton] at hl ⊢
    obtain ⟨ls', h1, h2⟩ := ih (by omega)
    obtain ⟨ls2, h3, h4⟩ := (done m ls' h1 (by omega)).2 l k he
    exact ⟨ls2, h3, by omega⟩
/-- an end at the level d is as near as any -/
theorem least {arr : List (ν × List lam)} {d : Nat} (A : Arr succ start arr) (done : ∀ n ls, (n, ls) ∈ arr → ls.length < d → Done succ fin arr ls.length n) {ls : List lam} {m : ν} (h : Wk succ start ls m) (hf : fin m = true) : d ≤ ls.length := by
  by_cases hl : ls.length < d
  · obtain ⟨ls', h1, h2⟩ := cover A done h (by omega)
    have := (done m ls' h1 (by omega)).1
    rw [this] at hf
    cases hf
  · omega
/-- where all that is found is gone through, no way leads to an end -/
theorem none_left {arr : List (ν × List lam)} (A : Arr succ start arr) (done : ∀ n ls, (n, ls) ∈ arr → Done succ fin arr ls.length n) {ls : List lam} {m : ν} (h : Wk succ start ls m) : fin m = false := by
  obtain ⟨ls', h1, _⟩ := cover (d := ls.length) A (fun n ls h _ => done n ls h) h (Nat.le_refl _)
  exact (done m ls' h1).1
theorem Arr.add {arr : List (ν × List lam)} (A : Arr succ start arr) {p k : ν} {ls : List lam} {l : lam} (hp : (p, ls) ∈ arr) (he : (l, k) ∈ succ p) (hn : ¬ Has' arr k) : Arr succ start (arr ++ [(k, ls ++ [l])]) := by
  refine ⟨?_, fun n ls' h => ?_, List.mem_append_left _ A.st, fun n ls' l' h => ?_⟩
  · rw [List.map_append, List.nodup_append]
    refine ⟨A.nd, by simp, fun x hx y hy => ?_⟩
    rw [List.map_singleton, List.mem_singleton] at hy
    subst hy
    intro e
    subst e
    obtain ⟨q, hq, e⟩ := List.mem_map.mp hx
    exact hn ⟨q.2, by rw [← e]; exact hq⟩
  · rcases List.mem_append.mp h with h | h
    · exact A.wk n ls' h
    · have h' := List.mem_singleton.mp h
      cases h'
      exact .snoc (A.wk p ls hp) he
  · rcases List.mem_append.mp h with h | h
    · obtain ⟨q, h1, h2⟩ := A.par n ls' l' h
      exact ⟨q, List.mem_append_left _ h1, h2⟩
    · have h' := Prod.mk.inj (List.mem_singleton.mp h)
      obtain ⟨e1, e2⟩ := h'
      obtain ⟨e3, e4⟩ := List.append_inj' e2 rfl
      cases e4
      subst e1 e3
      exact ⟨p, List.mem_append_left _ hp, he⟩
theorem Arr.pre {arr : List (ν × List lam)} (A : Arr succ start arr) : ∀ (k : Nat) (n : ν) (ls : List lam), ls.length = k → (n, ls) ∈ arr → ∀ j, j ≤ k → ∃ p ls', (p, ls') ∈ arr ∧ ls'.length = j
  | 0, n, ls, e, h, j, hj => ⟨n, ls, h, by omega⟩
  | k + 1, n, ls, e, h, j, hj => by
    by_cases hk : j = k + 1
    · exact ⟨n, ls, h, by omega⟩
    · have hne : ls ≠ [] := by
        intro z
        subst z
        simp at e
      have el : ls = ls.dropLast ++ [ls.getLast hne] := (List.dropLast_concat_getLast hne).symm
      rw [el] at h
      obtain ⟨p, hp, _⟩ := A.par n _ _ h
      exact Arr.pre A k p ls.dropLast (by rw [List.length_dropLast]; omega) hp j (by omega)
theorem Arr.path_lt {arr : List (ν × List lam)} (A : Arr succ start arr) {n : ν} {ls : List lam} (h : (n, ls) ∈ arr) : ls.length < arr.length := by
  have h1 : (List.range (ls.length + 1)).length ≤ (arr.map fun x => x.2.length).length := nodup_le List.nodup_range fun j hj => by
    obtain ⟨p, ls', h1, h2⟩ := A.pre ls.length n ls rfl h j (by have := List.mem_range.mp hj; omega)
    exact List.mem_map.mpr ⟨_, h1, h2⟩
  rw [List.length_range, List.length_map] at h1
  omega
theorem Arr.start' (succ : ν → List (lam × ν)) (start : ν) : Arr succ start [(start, [])] := by
  refine ⟨by simp, fun n ls h => ?_, List.mem_singleton.mpr rfl, fun n ls l h => ?_⟩
  · have h' := List.mem_singleton.mp h
    cases h'
    exact .nil _
  · have h' := (Prod.mk.inj (List.mem_singleton.mp h)).2
    simp at h'
theorem Arr.keys_le {arr : List (ν × List lam)} (A : Arr succ start arr) {univ : List ν} [DecidableEq ν] (h : ∀ n ls, (n, ls) ∈ arr → n ∈ univ) : arr.length ≤ univ.length := by
  have h1 : (arr.map (·.1)).length ≤ univ.length := by
    have hs : ∀ x ∈ arr.map (·.1), x ∈ univ := fun x hx => by
      obtain ⟨q, hq, e⟩ := List.mem_map.mp hx
      subst e
      exact h q.1 q.2 hq
    exact nodup_le A.nd hs
  rwa [List.length_map] at h1
end
end My

/-! OWN PART 44: an exception of one's own class leaves a def -/
set_option maxHeartbeats 2000000
namespace L2
open PySem PySem.Spec PyProof.Rows
theorem ObjOk.there {P : Program} {w : World} {H : Hp} {h : Heap} {a : Addr} {o : HO} (x : ObjOk P w H h a o) : ∃ u, h.get? a = some u := by
  cases o with
  | lst xs => obtain ⟨_, _, _, _, e⟩ := x; exact ⟨_, e⟩
  | tup xs => obtain ⟨_, _, _, u, e, _⟩ := x; exact ⟨_, e⟩
  | dK kvs => obtain ⟨_, _, _, _, o, _, _, e, _⟩ := x; exact ⟨_, e⟩
  | dT kvs => obtain ⟨_, _, _, _, o, _, _, e, _⟩ := x; exact ⟨_, e⟩
  | set S n => obtain ⟨o, _, _, _, e, _⟩ := x; exact ⟨_, e⟩
  | ins C dx fs => obtain ⟨_, _, _, e, _⟩ := x; exact ⟨_, e⟩
  | own y => obtain ⟨_, e⟩ := x; exact ⟨_, e⟩
  | xd fs => obtain ⟨_, ⟨_, _, _, e, _⟩, _⟩ := x; exact ⟨_, e⟩
  | rng lo hi => obtain ⟨_, _, _, e⟩ := x; exact ⟨_, e⟩
  | frz ob u => obtain ⟨e, _⟩ := x; exact ⟨_, e⟩
  | tbl ps => exact ⟨_, (show h.get? a = some _ from x)⟩
  | met f y => exact ⟨_, (show h.get? a = some _ from x)⟩
  | ext φ => obtain ⟨_, ⟨_, e⟩, _⟩ := x; exact ⟨_, e⟩
/-- an exception flies over the frames of outer: what stood at the entry and what is tracked is kept as it is -/
structure Fly (outer : List Env) (H : Hp) (h0 : Heap) (a C : Addr) (H' : Hp) (h : Heap) : Prop where
  ex : ∃ B t, Heap.FlyingW B outer a (.ref C) (.ref t) h ∧ (∀ b o, h0.get? b = some o → b ∉ frs outer → ∃ o', B.get? b = some o' ∧ (H b = none → o' = o)) ∧ ∀ b ob, H' b = some ob → ∃ o, B.get? b = some o
/-- how an exception of an own class lies behind a call -/
def CXR (P : Program) (w : World) : CXT := fun outer H s E e s' => ∃ (a C : Addr) (H' : Hp), e = .ref a ∧ s'.os = s.os ∧ AllBare s'.gens ∧ Un (frs outer) [] H H' s.heap s'.heap ∧ HOk P w H' s'.heap ∧ H' a = none ∧ s.heap.get? a = none ∧ Fly outer H s.heap a C H' s'.heap ∧ E (.ref C) none H'
theorem frs_cons {env : Env} {l : List Env} {L : Addr} (h : env.frame = some L) : frs (env :: l) = L :: frs l := by
  unfold frs
  rw [List.filterMap_cons, h]
/-- tracked things lie in B: the abstract heap is held wherever B stays -/
theorem hok_stays {P : Program} {w : World} {H : Hp} {B h h' : Heap} (ok : HOk P w H h) (c : ∀ b ob, H b = some ob → ∃ o, B.get? b = some o) (s1 : B.StaysIn h) (s2 : B.StaysIn h') : HOk P w H h' := fun b ob e => by
  refine (ok b ob e).stay (fun d v hd q => ?_) (fun _ q => q) fun _ _ q => q
  have hd' : ∃ o, B.get? d = some o := by
    rcases hd with rfl | hd
    · exact c _ _ e
    · exact c _ _ hd
  obtain ⟨o, ho⟩ := hd'
  have := s1 _ _ ho
  rw [q] at this
  cases this
  exact s2 _ _ ho
section
variable {X : Cx} {pins : List (Addr × Obj)} {σ : St} {H : Hp} {s : Shared}
theorem Inv.old (I : Inv X pins σ H s) {b : Addr} {o : Obj} (e : X.s₀.heap.get? b = some o) : b ≠ X.env.locals := Nat.ne_of_lt (Nat.lt_of_lt_of_le (Heap.lt_size e) I.ok.above)
/-- the entry, seen from a body over which an exception has flown: what Un asks -/
theorem Inv.flown {H' : Hp} {B h h' : Heap} (I : Inv X pins σ H' { s with heap := h }) (hex : X.ex = []) (cov : ∀ b o, X.s₀.heap.get? b = some o → b ∉ X.fs → ∃ o', B.get? b = some o' ∧ (X.H₀ b = none → o' = o)) (st : B.StaysIn h') (up : ∀ b o, b ∈ X.fs → h.get? b = some o → (∀ vs, o.data ≠ .fields vs) → ∃ sl, h'.get? b = some { o with slots := sl }) :
    Un X.fs [] X.H₀ H' X.s₀.heap h' := by
  have nx : ∀ b : Addr, b ∉ X.ex := fun b => by rw [hex]; simp
  have slot : ∀ b o, X.s₀.heap.get? b = some o → b ∈ X.fs → ∃ sl, h'.get? b = some { o with slots := sl } := fun b o e hb => by
    obtain ⟨sl, e1⟩ := I.base.slot b o e (I.ok.frf b hb) hb (nx b)
    obtain ⟨_, o', ho', hd⟩ := I.ok.funs.mem hb
    rw [e] at ho'
    cases ho'
    obtain ⟨sl', e2⟩ := up b _ hb e1 hd
    exact ⟨sl', e2⟩
  refine ⟨fun b o e n hb _ => ?_, fun b o e n hb _ => slot b o e hb, fun b o e n _ => I.base.free b o e n (nx b), fun b o e _ => ?_, I.base.tups, I.base.frzs, I.base.tbls⟩
  · obtain ⟨o', e1, e2⟩ := cov b o e hb
    rw [e2 n] at e1
    exact st _ _ e1
  · by_cases hb : b ∈ X.fs
    · obtain ⟨sl, e1⟩ := slot b o e hb
      exact ⟨_, e1⟩
    · obtain ⟨o', e1, _⟩ := cov b o e hb
      exact ⟨_, st _ _ e1⟩
/-- an exception that this body has made leaves it -/
theorem made_leaves {h' : Heap} {e C : Addr} {vs : List Value} {E : XK} {E' : Value → Shared → Prop} (I : Inv X pins σ H s) (hs : X.stack = X.env :: X.outer) (hf : X.env.frame = some X.env.locals) (hex : X.ex = []) (hx : Heap.MadeExcOf s.heap h' e (.ref C) vs) (q : E (.ref C) none H) :
    wpAny (model X.prog X.w) X.A (leaving X.env (.ref e)) (fun _ s'' => CXR X.prog X.w X.outer X.H₀ X.s₀ E (.ref e) s'') E' { s with heap := h' } := by
  obtain ⟨B, hB⟩ : ∃ B, B = PySem.W.hideAll s.heap (frs X.stack) := ⟨_, rfl⟩
  have hkb : B.StaysIn s.heap := fun b o z => PySem.W.of_hideAll _ (by rw [hB] at z; exact z)
  have inB : ∀ b o, s.heap.get? b = some o → b ∉ frs X.stack → B.get? b = some o := fun b o z n => by rw [hB]; exact PySem.W.hideAll_get _ z n
  have hl : s.heap.FunFrames B (X.env :: X.outer) := by
    have := PySem.W.funFrames_hide (as := frs X.stack) I.stack fun env he a ha => List.mem_filterMap.mpr ⟨env, he, ha⟩
    rw [← hB, hs] at this
    exact this
  have fst : frs X.stack = X.env.locals :: X.fs := by rw [hs]; exact frs_cons hf
  refine wpAny_leaves_madeW (base := B) (outer := X.outer) (L := X.env.locals) (by rw [I.ok.frames, hs]) hf hkb hl hx fun h2 t fl _ _ up => ?_
  have st : B.StaysIn h2 := fl.1
  have nx : ∀ b : Addr, b ∉ X.ex := fun b => by rw [hex]; simp
  have cov : ∀ b o, X.s₀.heap.get? b = some o → b ∉ X.fs → ∃ o', B.get? b = some o' ∧ (X.H₀ b = none → o' = o) := fun b o z n => by
    have nb : b ∉ frs X.stack := by
      rw [fst, List.mem_cons, not_or]
      exact ⟨I.old z, n⟩
    obtain ⟨o1, e1⟩ := I.base.there b o z (nx b)
    refine ⟨o1, inB _ _ e1 nb, fun n0 => ?_⟩
    have := I.base.keep b o z n0 n (nx b)
    rw [e1] at this
    exact Option.some.inj this
  have cov2 : ∀ b ob, H b = some ob → ∃ o, B.get? b = some o := fun b ob z => by
    obtain ⟨u, hu⟩ := (I.hok b ob z).there
    refine ⟨u, inB _ _ hu fun n => ?_⟩
    rw [I.stkFree b n] at z
    cases z
  refine ⟨e, C, H, rfl, I.os, I.bare, ?_, hok_stays I.hok cov2 hkb st, ?_, ?_, ⟨B, t, fl, cov, cov2⟩, q⟩
  · refine Inv.flown (s := s) (h := s.heap) I hex cov st fun b o hb z hd => ?_
    exact up b o (hx.keeps _ _ z) hd
  · cases z : H e with
    | none => rfl
    | some ob =>
      obtain ⟨u, hu⟩ := (I.hok e ob z).there
      rw [hx.new] at hu
      cases hu
  · cases z : X.s₀.heap.get? e with
    | none => rfl
    | some o =>
      obtain ⟨u, hu⟩ := I.base.there e o z (nx e)
      rw [hx.new] at hu
      cases hu
/-- an exception of a callee leaves this body too -/
theorem flown_leaves {s' : Shared} {e : Value} {E : XK} {E' : Value → Shared → Prop} (I : Inv X pins σ H s) (hs : X.stack = X.env :: X.outer) (hf : X.env.frame = some X.env.locals) (hex : X.ex = []) (hx : CXR X.prog X.w X.stack H s E e s') :
    wpAny (model X.prog X.w) X.A (leaving X.env e) (fun _ s'' => CXR X.prog X.w X.outer X.H₀ X.s₀ E e s'') E' s' := by
  obtain ⟨a, C, H', rfl, ho, hb, un, hok, na, sa, ⟨B, t, fl, cov, cov2⟩, q⟩ := hx
  have I2 : Inv X pins σ H' s' := I.call' (ch := []) ho un hok hb fun _ z => by cases z
  have fst : frs X.stack = X.env.locals :: X.fs := by rw [hs]; exact frs_cons hf
  have nx : ∀ b : Addr, b ∉ X.ex := fun b => by rw [hex]; simp
  rw [hs] at fl
  refine wpAny_leaves_onW (L := X.env.locals) (by rw [I.ok.frames, hs]) hf fl fun h2 fl2 up => ?_
  have st : B.StaysIn h2 := fl2.1
  have cov' : ∀ b o, X.s₀.heap.get? b = some o → b ∉ X.fs → ∃ o', B.get? b = some o' ∧ (X.H₀ b = none → o' = o) := fun b o z n => by
    have nb : b ∉ frs X.stack := by
      rw [fst, List.mem_cons, not_or]
      exact ⟨I.old z, n⟩
    obtain ⟨o1, e1⟩ := I.base.there b o z (nx b)
    obtain ⟨o2, e2, e3⟩ := cov b o1 e1 nb
    refine ⟨o2, e2, fun n0 => ?_⟩
    have h1 := I.base.keep b o z n0 n (nx b)
    rw [e1] at h1
    cases h1
    exact e3 (I.base.free b o z n0 (nx b))
  refine ⟨a, C, H', rfl, ho.trans I.os, hb, ?_, hok_stays hok cov2 fl.1 st, na, ?_, ⟨B, t, fl2, cov', cov2⟩, q⟩
  · refine Inv.flown (s := s') (h := s'.heap) I2 hex cov' st fun b o hb z hd => ?_
    exact up b o z hd
  · cases z : X.s₀.heap.get? a with
    | none => rfl
    | some o =>
      obtain ⟨u, hu⟩ := I.base.there a o z (nx a)
      rw [sa] at hu
      cases hu
end
/-- what a body may raise, and what of its callees' it lets pass -/
structure Lets (X : Cx) (E : XK) : Prop where
  made : ∀ (pins : List (Addr × Obj)) (σ : St) (H : Hp) (s : Shared) (h' : Heap) (e C : Addr) (vs : List Value), Inv X pins σ H s → Heap.MadeExcOf s.heap h' e (.ref C) vs → E (.ref C) none H → X.xe (.ref e) { s with heap := h' }
  pass : Passes (CXR X.prog X.w) X E
theorem lets_of {P : Program} {w : World} {K : PySem.W.Frag} {mg : Str → Option Value} {base : Heap} {N : List Str} {qual : Str} {scope : Scope} {f : Addr} {cd : Value} {A : Around} {outer : List Env} {s0 : Shared} {H0 : Hp} {E : XK} : Lets (cxOf (CXR P w) P w K mg base N qual scope f cd A outer s0 H0 E) E where
  made := fun pins σ H s h' e C vs I hx q => made_leaves I rfl rfl rfl hx q
  pass := fun pins σ H s e s' I hx => flown_leaves I rfl rfl rfl hx
end L2

/-! OWN PART 45: raise, and a call that may raise -/
set_option maxHeartbeats 2000000
namespace L2
open PySem PySem.Spec PyProof.Rows
abbrev bmVE : List Value := [.type "ValueError", .type "Exception", .type "BaseException", .type "object"]
/-- a class's order of classes, behind itself -/
def mroT (K : PySem.W.Frag) (C : Addr) : List Value := match K.lookup C with
  | some ⟨_, _, .cls cd, _⟩ => cd.mro.tail
  | _ => []
/-- an own class of exceptions below ValueError -/
structure ExcAt (K : PySem.W.Frag) (C : Addr) (tl : List Value) : Prop where
  exc : PySem.W.excIn K C bmVE "ValueError.__new__" = true
  mro : mroT K C = tl
theorem ExcAt.obj {K : PySem.W.Frag} {C : Addr} {tl : List Value} {h : Heap} (X : K.In h) (x : ExcAt K C tl) :
    ∃ N nm q bs hdct sn sub ab col dd k0 k1 k2 k3 k5 mN, h.get? C = some (excClassObj nm q C N bs tl hdct sn sub ab col dd k0 k1 k2 k3 k5 "ValueError.__new__") ∧ h.Ns N mN ∧ mN "__init__" = none ∧ OwnTail h bmVE tl ∧ ∀ h2, K.In h2 → h2.get? C = h.get? C ∧ h2.get? N = h.get? N := by
  obtain ⟨q, m⟩ := x
  unfold PySem.W.excIn at q
  unfold mroT at m
  split at q
  · rename_i dd cd sl ho
    rw [ho] at m
    split at q
    · rename_i C' bm k0 k1 k2 k3 n k5 hm hs
      simp only [Bool.and_eq_true, beq_iff_eq, Bool.not_eq_true'] at q
      obtain ⟨⟨⟨⟨⟨rfl, rfl⟩, hdel⟩, ht⟩, hok⟩, hni⟩ := q
      obtain ⟨nm, bs, mro, ns, qn, hd, sn, sub, ab, col, del⟩ := cd
      dsimp only at hm hdel hok hni m
      subst hm hdel
      have hsl : sl = #[k0, k1, k2, k3, some (.builtin "ValueError.__new__"), k5] := by
        obtain ⟨l⟩ := sl
        simp only at hs
        rw [hs]
      subst hsl
      have m' : bm = tl := m
      subst m'
      refine ⟨ns, nm, qn, bs, hd, sn, sub, ab, col, dd, k0, k1, k2, k3, k5, _, X _ _ ho, .of_isNs (PySem.W.isNs_of_in X hok), PySem.W.nsMap_none_of_in X hok hni, PySem.W.tail_of_in X ht, fun h2 X2 => ⟨(X2 _ _ ho).trans (X _ _ ho).symm, ?_⟩⟩
      unfold PySem.W.nsOkIn at hok
      split at hok
      · rename_i hN
        exact (X2 _ _ hN).trans (X _ _ hN).symm
      · cases hok
    · cases q
  · cases q
theorem ExcAt.tail {K : PySem.W.Frag} {C : Addr} {tl : List Value} (x : ExcAt K C tl) : PySem.W.tailIn K bmVE tl = true := by
  obtain ⟨q, m⟩ := x
  unfold PySem.W.excIn at q
  unfold mroT at m
  split at q
  · rename_i dd cd sl ho
    rw [ho] at m
    split at q
    · rename_i C' bm k0 k1 k2 k3 n k5 hm hs
      simp only [Bool.and_eq_true, beq_iff_eq, Bool.not_eq_true'] at q
      have m' : bm = tl := by
        rw [← m]
        show bm = cd.mro.tail
        rw [hm]
        rfl
      rw [← m']
      exact q.1.1.2
    · cases q
  · cases q
section
variable {X : Cx} {x : Str} {e : Expr} {es : List Expr} {t : TA} {p pos np cpos : Pos} {C : Addr} {tl : List Value} {E : XK}
/-- raise C(..) -/
def sRaise (C : Addr) (E : XK) (t : TA) : TS := fun _ σ H => t σ H fun vs H1 => vs.length ≤ sizeLine ∧ E (.ref C) none H1
theorem ps_raise (L : Lets X E) (hc : X.calm = true) (hg : Gl X x) (hm : X.mg x = some (.ref C)) (ex : ExcAt X.K C tl) (ha : PA X (e :: es) t) (hdb : (x == ("__debug__" : Str)) = false := by decide)
    (he : starEach (e :: es) X.env = (false, eval e X.env) :: starEach es X.env := by rfl) (hpl : (backTo cpos (starEach es X.env)).any (·.1) = false := by rfl) :
    PS X (.Raise (some (.Call (.Name x np) (e :: es) [] cpos)) none pos) (sRaise C E t) := by
  intro pins s σ H D I h
  obtain ⟨N, nm, q, bs, hdct, sn, sub, ab, col, dd, k0, k1, k2, k3, k5, mN, hC, hN, hni, T, two⟩ := ex.obj I.kIn
  refine wpAny_Raise_call_subT (C := C) (nm := nm) (q := q) (N := N) (bs := bs) (bm := tl) (hdct := hdct) (sn := sn) (sub := sub) (ab := ab) (col := col) (dd := dd) (k0 := k0) (k1 := k1) (k2 := k2) (k3 := k3) (k5 := k5)
    PySem.F.excBase_ValueError (mN := mN) (T.hasType PySem.F.excBase_ValueError.hasBase) (I.ok.hd hc) (by rw [he]; show (false || (backTo cpos (starEach es X.env)).any (·.1)) = false; rw [hpl]; rfl) hni (ld_glob I hg hm ⟨rfl, ?_⟩ hdb)
  have hA := ha cpos pins s σ H _ I h
  rw [he] at hA ⊢
  refine Calls.evalArgs_plain (thn hA fun us s2 z => ?_)
  obtain ⟨vs, H2, I2, r2, q2, q3⟩ := z
  obtain ⟨eC, eN⟩ := two s2.heap I2.kIn
  have hNN : s2.heap.Ns N mN := by
    obtain ⟨o, es, ep, ho, r⟩ := hN
    exact ⟨o, es, ep, eN.trans ho, r⟩
  exact ⟨rfl, by rw [← r2.length]; exact q2, eC.trans hC, hNN, PySem.W.tail_of_in I2.kIn ex.tail, fun h' e' hm' => L.made pins σ H2 s2 h' e' C us I2 hm' q3⟩
/-- a def of the text that may raise -/
def HasX (P : Program) (w : World) (K : PySem.W.Frag) (mg : Str → Option Value) (base : Heap) (x : Str) (k : Nat) (ps : List Str) (sp : Sp) : Prop :=
  ∃ f fd, mg x = some (.ref f) ∧ PySem.W.keepIn K (.ref f) = true ∧ Binds K fd ps [] ∧ FnOk P w K mg base (CXR P w) k f fd ps sp
theorem pe_fnX {k : Nat} {ps : List Str} {sp : Sp} (h : HasX X.prog X.w X.K X.mg X.base x k ps sp) (hr : Room k X.A) (hp : Passes (CXR X.prog X.w) X E) (ha : PA X (e :: es) t) (hg : Gl X x := by rfl) (hdb : (x == ("__debug__" : Str)) = false := by decide)
    (he : starEach (e :: es) X.env = (false, eval e X.env) :: starEach es X.env := by rfl) (hpl : (backTo pos (starEach es X.env)).any (·.1) = false := by rfl) : PE X (.Call (.Name x p) (e :: es) [] pos) (tCall sp [] E t) := by
  obtain ⟨f, fd, hm, hk, hb, F⟩ := h
  exact pe_call F hr hg hm hk hb .nil hp ha hdb he hpl
end
section
variable {P : Program} {w : World} {K : PySem.W.Frag} {mg : Str → Option Value} {base : Heap}
/-- a def that may raise: its body as a term of rules, and the reading of that term -/
theorem Fun.okX {x qual : Str} {st : Stmt} {f : Addr} {fd : FuncData} {N ps : List Str} {k : Nat} {sp : Sp} (F : Fun K x qual st f fd) (S : FnScope N ps (defScope st)) (len : ∀ vs H Q E, sp vs H Q E → vs.length = ps.length)
    (hbody : ∀ (cdv : Value) (A : Around) (outer : List Env) (s : Shared) (H : Hp) (vs : List V) (Q : VK) (E : XK), Room k (A.deeper (envOfC qual (defScope st) s.heap.objs.size f cdv)) → sp vs H Q E →
      Lets (cxOf (CXR P w) P w K mg base N qual (defScope st) f cdv A outer s H E) E →
      ∃ t, PSs (cxOf (CXR P w) P w K mg base N qual (defScope st) f cdv A outer s H E) (defBody st) t ∧ t { nx := fun _ H' => Q .non H', rt := Q } (start N vs) H) : FnOk P w K mg base (CXR P w) (k + 1) f fd ps sp := by
  obtain ⟨oc, od, kV, doc, pm, an, cdv, ct, osl, rfl, lk, hcd⟩ := F.ex
  exact fn_of lk hcd S len fun A outer s H vs Q E hr hsp => hbody cdv A outer s H vs Q E hr hsp lets_of
/-- a def that raises nothing, where one that may is asked for -/
theorem FnOk.toX {k : Nat} {f : Addr} {fd : FuncData} {ps : List Str} {sp : Sp} (F : FnOk P w K mg base CX0 k f fd ps sp) : FnOk P w K mg base (CXR P w) k f fd ps sp :=
  ⟨F.len, fun A outer s H args us vs Q E hr e0 hb hv hs => codeAny_mono (F.run A outer s H args us vs Q E hr e0 hb hv hs) fun r s' z => by
    cases r with
    | error e => exact False.elim z
    | ok fl => cases fl <;> exact z⟩
end
end L2

/-! OWN PART 46: try, except C as n -/
set_option maxHeartbeats 2000000
namespace L2
open PySem PySem.Spec PyProof.Rows
section
variable {M : Model} {A : Around} {E : Value → Shared → Prop}
variable {nm q nm' q' : Str} {C N S N' : Addr} {bs bm bs' bm' : List Value} {hdct hdct' : Bool} {sn sn' : List Str} {sub sub' : List Value} {ab ab' : Bool} {col col' : Option Bool} {dd dd' : Option Addr} {k0 k1 k2 k3 k5 k0' k1' k2' k3' k5' : Option Value} {newId newId' : String}
/-- except S, the exception of a class below S -/
theorem excMatches_sup {h : Heap} {g : Array GenState} {d : Drawn} {t : Nat} {os : OsState} {e : Addr} {oe : Obj} {Q : Bool → Shared → Prop}
    (hC : h.get? C = some (excClassObj nm q C N bs bm hdct sn sub ab col dd k0 k1 k2 k3 k5 newId)) (hS : h.get? S = some (excClassObj nm' q' S N' bs' bm' hdct' sn' sub' ab' col' dd' k0' k1' k2' k3' k5' newId')) (he : h.get? e = some oe) (hcls : oe.cls = .ref C)
    (hbase : bm'.contains (.type "BaseException") = true) (hin : bm.contains (.ref S) = true) (hq : Q true ⟨h, g, d, t, os⟩) : wpAny M A (excMatches (.ref e) (.ref S)) Q E ⟨h, g, d, t, os⟩ := by
  have hcB : (Value.ref S :: bm').contains (.type "BaseException") = true := by rw [List.contains_cons, hbase, Bool.or_true]
  have hcC : (Value.ref C :: bm).contains (.ref S) = true := by rw [List.contains_cons, hin, Bool.or_true]
  have f := tc_notTuple
  unfold excMatches
  repeat (first | (with_reducible refine wpAny_loadPart_at he ?_; rw [hcls]) | with_reducible refine wpAny_loadPart_at hS ?_ | (with_reducible refine wpAny_isSubtype_exc hS ?_; rw [hcB]) | (with_reducible refine wpAny_isSubtype_exc hC ?_; rw [hcC]) | wp_step)
  exact hq
end
section
variable {prog : Program} {w : World} {A : Around} {E : Value → Shared → Prop} {s : Shared} {env : Env}
theorem handleBy_sup_as {e C S : Addr} {tlC tlS : List Value} {K : PySem.W.Frag} {t : Expr} {n : Str} {b₀ : Stmt} {suite : List Stmt} {pos : Pos} {rest : List ExceptHandler} {Q : Flow → Shared → Prop}
    (xC : ExcAt K C tlC) (xS : ExcAt K S tlS) (hin : tlC.contains (.ref S) = true)
    (h : wpAny (model prog w) (A.mark (some (.ref e))) (eval t env) (fun c s₁ => c = .ref S ∧ K.In s₁.heap ∧ (∃ oe, s₁.heap.get? e = some oe ∧ oe.cls = .ref C) ∧
      wpAny (model prog w) (A.mark (some (.ref e))) (setFlight (.ref e) none) (fun _ s₂ =>
          wpAny (model prog w) (A.mark (some (.ref e))) (storeName env n (.ref e)) (fun _ s₃ =>
            wpAny (model prog w) (A.mark (some (.ref e))) (execs (b₀ :: suite) env)
              (fun f s₄ => wpAny (model prog w) A (do bindName env n .none; unbindBehindTheSuite env n pos) (fun _ s₅ => Q f s₅) E s₄)
              (fun _ _ => False) s₃) (fun _ _ => False) s₂) (fun _ _ => False) s₁) (fun _ _ => False) s) :
    wpAny (model prog w) A (handleBy (.ref e) env (.ExceptHandler (some t) (some n) (b₀ :: suite) pos :: rest)) Q E s := by
  refine wpAny_handleBy_cons (codeAny_handlers_test (wpAny_mono h (fun c s₁ h₁ => ?_) fun _ _ y => y.elim)) (by intro q; cases q)
  obtain ⟨rfl, hK, ⟨oe, he, hcls⟩, hk⟩ := h₁
  obtain ⟨N, nm, q, bs, hdct, sn, sub, ab, col, dd, k0, k1, k2, k3, k5, mN, hC, _, _, _, _⟩ := xC.obj hK
  obtain ⟨N', nm', q', bs', hdct', sn', sub', ab', col', dd', k0', k1', k2', k3', k5', mN', hS, _, _, T', _⟩ := xS.obj hK
  obtain ⟨hh, g, d, tk, os⟩ := s₁
  refine excMatches_sup hC hS he hcls (T'.hasType PySem.F.excBase_ValueError.hasBase) hin (codeAny_handlers_suite_as ?_)
  exact wpAny_mono hk (fun _ s₂ h₂ => wpAny_mono h₂ (fun _ s₃ h₃ => wpAny_mono h₃ (fun _ _ z => z) fun _ _ y => y.elim) fun _ _ y => y.elim) fun _ _ y => y.elim
end
/-- an exception that is caught, of the class at C -/
def excφ (a C : Addr) : Heap → Prop := fun h => ∃ o, h.get? a = some o ∧ o.cls = .ref C
/-- the body of a try; the suite of its except -/
abbrev Cx.tries (X : Cx) (pn : List (Addr × Obj)) (xe : Value → Shared → Prop) : Cx := { X with pn := pn, xe := xe }
abbrev Cx.suite (X : Cx) (pn : List (Addr × Obj)) (e : Addr) : Cx := { X with A := X.A.mark (some (.ref e)), calm := false, pn := pn, xe := fun _ _ => False }
section
variable {X : Cx} {pins : List (Addr × Obj)} {σ : St} {H H' : Hp} {s : Shared}
theorem Inv.tries (I : Inv X pins σ H s) (xe : Value → Shared → Prop) : Inv (X.tries (X.pn ++ pins) xe) [] σ H s :=
  ⟨⟨I.ok.mod, I.ok.kind, I.ok.glob, I.ok.blt, I.ok.above, I.ok.inj, I.ok.has, I.ok.cab, I.ok.hd, I.ok.frames, I.ok.stk, I.ok.exf, I.ok.bs, I.ok.bsz, I.ok.noex, I.ok.exfs, I.ok.funs, I.ok.frf⟩, I.os, I.bare, I.base, I.loc, I.cell, I.free, I.freeC, fun p hp => I.pin p (by simpa using hp), I.hok, I.len⟩
theorem Inv.untries {pn pins' : List (Addr × Obj)} {xe : Value → Shared → Prop} (ok : X.Ok) (I : Inv (X.tries pn xe) pins' σ H s) (hp : ∀ p ∈ X.pn ++ pins, p ∈ pn ++ pins') : Inv X pins σ H s :=
  ⟨ok, I.os, I.bare, I.base, I.loc, I.cell, I.free, I.freeC, fun p q => I.pin p (hp p q), I.hok, I.len⟩
theorem Inv.suite (I : Inv X pins σ H s) (e : Addr) : Inv (X.suite (X.pn ++ pins) e) [] σ H s :=
  ⟨⟨I.ok.mod, I.ok.kind, I.ok.glob, I.ok.blt, I.ok.above, I.ok.inj, I.ok.has, I.ok.cab, (fun z => by cases z), I.ok.frames, I.ok.stk, I.ok.exf, I.ok.bs, I.ok.bsz, I.ok.noex, I.ok.exfs, I.ok.funs, I.ok.frf⟩, I.os, I.bare, I.base, I.loc, I.cell, I.free, I.freeC, fun p hp => I.pin p (by simpa using hp), I.hok, I.len⟩
theorem Inv.unsuite {e : Addr} (ok : X.Ok) (I : Inv (X.suite (X.pn ++ pins) e) [] σ H s) : Inv X pins σ H s :=
  ⟨ok, I.os, I.bare, I.base, I.loc, I.cell, I.free, I.freeC, fun p q => I.pin p (by simpa using q), I.hok, I.len⟩
theorem SP.untries {xe : Value → Shared → Prop} {D : Ends} {f : Flow} {s' : Shared} (ok : X.Ok) (h : SP (X.tries (X.pn ++ pins) xe) [] D f s') : SP X pins D f s' := by
  have w : ∀ {σ' H'}, Inv (X.tries (X.pn ++ pins) xe) [] σ' H' s' → Inv X pins σ' H' s' := fun I => I.untries ok fun p q => by simpa using q
  cases f with
  | next => obtain ⟨σ', H', I, q⟩ := h; exact ⟨σ', H', w I, q⟩
  | brk => obtain ⟨σ', H', I, q⟩ := h; exact ⟨σ', H', w I, q⟩
  | cont => obtain ⟨σ', H', I, q⟩ := h; exact ⟨σ', H', w I, q⟩
  | ret u => obtain ⟨v, σ', H', I, r, q⟩ := h; exact ⟨v, σ', H', w I, r, q⟩
/-- the exception becomes a thing that is tracked -/
theorem Inv.track {a C : Addr} {o : Obj} (I : Inv X pins σ H s) (ha : X.s₀.heap.get? a = none) (hn : H a = none) (ho : s.heap.get? a = some o) (hc : o.cls = .ref C) (hL : a ≠ X.env.locals) (hcl : ∀ x c, X.env.cells.lookup x = some c → c ≠ a) (hp : ∀ p ∈ X.pn ++ pins, p.1 ≠ a) :
    Inv X pins σ (upd H a (.ext (excφ a C))) s := by
  have ne : ∀ b ob, H b = some ob → b ≠ a := fun b ob e z => by rw [z, hn] at e; cases e
  have ne0 : ∀ b ob, X.s₀.heap.get? b = some ob → b ≠ a := fun b ob e z => by rw [z, ha] at e; cases e
  refine ⟨I.ok, I.os, I.bare, ⟨I.base.keep, I.base.slot, fun b ob e n hx => ?_, I.base.there, fun b xs e => ?_, fun b ob u e => ?_, fun b ps e => ?_⟩, I.loc, I.cell, ?_, fun x c e => ?_, fun p q => ?_, fun b ob e => ?_, I.len⟩
  · rw [upd_ne (ne0 b ob e)]
    exact I.base.free b ob e n hx
  · have := I.base.tups b xs e
    rw [upd_ne (ne _ _ this)]
    exact this
  · have := I.base.frzs b ob u e
    rw [upd_ne (ne _ _ this)]
    exact this
  · obtain ⟨m, e1⟩ := I.base.tbls b ps e
    exact ⟨m, by rw [upd_ne (ne _ _ e1)]; exact e1⟩
  · rw [upd_ne (Ne.symm hL)]
    exact I.free
  · rw [upd_ne (hcl x c e)]
    exact I.freeC x c e
  · obtain ⟨e, n, r⟩ := I.pin p q
    exact ⟨e, by rw [upd_ne (hp p q)]; exact n, r⟩
  · by_cases hb : b = a
    · subst hb
      rw [upd_same] at e
      cases e
      exact ⟨⟨o, ho, hc⟩, ⟨o, ho⟩, fun h1 h2 ⟨u, hu, hcu⟩ k => ⟨u, k u hu, hcu⟩⟩
    · rw [upd_ne hb] at e
      exact (I.hok b ob e).stay (fun _ _ _ q => q) (fun c q => by rw [upd_ne (ne _ _ q)]; exact q) fun c xs q => by rw [upd_ne (ne _ _ q)]; exact q
/-- the state behind an exception that has landed -/
theorem Inv.landed {s' : Shared} {a C : Addr} {B h5 : Heap} (I : Inv X pins σ H s) (ho : s'.os = s.os) (hb : AllBare s'.gens) (un : Un (frs X.stack) [] H H' s.heap s'.heap) (hok : HOk X.prog X.w H' s'.heap)
    (cov : ∀ b o, s.heap.get? b = some o → b ∉ frs X.stack → ∃ o', B.get? b = some o' ∧ (H b = none → o' = o)) (cov2 : ∀ b ob, H' b = some ob → ∃ o, B.get? b = some o) (st : B.StaysIn s'.heap) (st5 : B.StaysIn h5) (up : s'.heap.UpToSlots h5) :
    Inv X pins σ H' { s' with heap := h5 } := by
  have slot : ∀ b o, s.heap.get? b = some o → b ∈ frs X.stack → ∃ sl, h5.get? b = some { o with slots := sl } := fun b o e hb => by
    obtain ⟨sl, e1⟩ := un.slot b o e (I.stkFree b hb) hb (by simp)
    obtain ⟨_, o', ho', hd⟩ := I.stack.mem hb
    rw [e] at ho'
    cases ho'
    obtain ⟨sl', e2⟩ := up b _ e1 hd
    exact ⟨sl', e2⟩
  refine I.call' (s' := { s' with heap := h5 }) (ch := []) ho ⟨fun b o e n hb _ => ?_, fun b o e n hb _ => slot b o e hb, un.free, fun b o e _ => ?_, un.tups, un.frzs, un.tbls⟩ (hok_stays hok cov2 st st5) hb fun _ z => by cases z
  · obtain ⟨o', e1, e2⟩ := cov b o e hb
    rw [e2 n] at e1
    exact st5 _ _ e1
  · by_cases hb : b ∈ frs X.stack
    · obtain ⟨sl, e1⟩ := slot b o e hb
      exact ⟨_, e1⟩
    · obtain ⟨o', e1, _⟩ := cov b o e hb
      exact ⟨_, st5 _ _ e1⟩
/-- a name is gone: nothing is known of the frame's names -/
theorem Inv.forget {h' : Heap} {t' : Nat} {m' : Str → Option Value} (I : Inv X pins σ H s) (hn : h'.Ns X.env.locals m') (hs : Heap.SameBut X.env.locals s.heap h') : Inv X pins (List.replicate X.N.length none) H { s with heap := h', toks := t' } := by
  have old : ∀ b o, X.s₀.heap.get? b = some o → b ≠ X.env.locals := fun b o e => Nat.ne_of_lt (Nat.lt_of_lt_of_le (Heap.lt_size e) I.ok.above)
  refine ⟨I.ok, I.os, I.bare, ⟨fun b o e n hb hx => ?_, fun b o e n hb hx => ?_, I.base.free, fun b o e hx => ?_, I.base.tups, I.base.frzs, I.base.tbls⟩, ⟨m', hn, fun i x v _ e2 _ => ?_⟩, fun y c e => ?_, I.free, I.freeC, fun p hp => ?_, fun b ob e => ?_, by simp⟩
  · exact (hs.2 b (old b o e)).trans (I.base.keep b o e n hb hx)
  · obtain ⟨sl, e1⟩ := I.base.slot b o e n hb hx
    exact ⟨sl, (hs.2 b (old b o e)).trans e1⟩
  · obtain ⟨o', e1⟩ := I.base.there b o e hx
    exact ⟨o', (hs.2 b (old b o e)).trans e1⟩
  · rw [List.getElem?_replicate] at e2
    split at e2 <;> cases e2
  · obtain ⟨w', z⟩ := I.cell y c e
    exact ⟨w', z.sameBut hs (I.cne y c e)⟩
  · obtain ⟨e, n, ne, nf, d⟩ := I.pin p hp
    exact ⟨(hs.2 p.1 ne).trans e, n, ne, nf, d⟩
  · refine (I.hok b ob e).stay (fun c v hc z => (hs.2 c ?_).trans z) (fun _ z => z) fun _ _ z => z
    rintro rfl
    rcases hc with rfl | hc
    · rw [I.free] at e
      cases e
    · rw [I.free] at hc
      cases hc
end
/-- what is asked of an exception that a try's body raises -/
def xTry (K : PySem.W.Frag) (N : List Str) (i : Nat) (S : Addr) (ts : List (Addr × Obj) → Addr → TS) (D : Ends) : XK := fun Cv _ H' => ∃ C tl, Cv = .ref C ∧ ExcAt K C tl ∧ tl.contains (.ref S) = true ∧
  ∀ pn a, H' a = none → ts pn a { nx := fun _ _ => False, rt := D.rt } ((List.replicate N.length none).set i (some (.ref a))) (upd H' a (.ext (excφ a C)))
/-- try: .. except S as n: .. (the suite returns) -/
def tTry (K : PySem.W.Frag) (N : List Str) (i : Nat) (S : Addr) (tb : XK → TS) (ts : List (Addr × Obj) → Addr → TS) : TS := fun D σ H => tb (xTry K N i S ts D) D σ H
theorem ps_try {X : Cx} {body suite : List Stmt} {b₀ : Stmt} {x n : Str} {np hpos pos : Pos} {i : Nat} {S : Addr} {tlS : List Value} {tb : XK → TS} {ts : List (Addr × Obj) → Addr → TS}
    (hb : ∀ pn xe E, Passes (CXR X.prog X.w) (X.tries pn xe) E → PSs (X.tries pn xe) body (tb E)) (hs : ∀ pn e, PSs (X.suite pn e) (b₀ :: suite) (ts pn e))
    (hk : X.stack = X.env :: X.outer) (hf : X.env.frame = some X.env.locals) (hex : X.ex = []) (hN : X.N.Nodup) (hi : X.N[i]? = some n) (hn : X.env.scope.names.lookup n = some .local) (hg : Gl X x) (hm : X.mg x = some (.ref S)) (xS : ExcAt X.K S tlS) (hdb : (x == ("__debug__" : Str)) = false := by decide) :
    PS X (.Try body [.ExceptHandler (some (.Name x np)) (some n) (b₀ :: suite) hpos] [] [] pos) (tTry X.K X.N i S tb ts) := by
  intro pins s σ H D I h
  refine wpAny_Try_except ?_
  have key : ∀ xe, Passes (CXR X.prog X.w) (X.tries (X.pn ++ pins) xe) (xTry X.K X.N i S ts D) → wpAny (model X.prog X.w) X.A (execs body X.env) (SP (X.tries (X.pn ++ pins) xe) [] D) xe s := fun xe hp => hb _ xe _ hp [] s σ H D (I.tries xe) h
  refine wpAny_mono (key _ ?_) (fun f s1 z => ?_) fun _ _ z => z
  · intro pins' σ' H1 s1 e s2 Iv hx
    obtain ⟨a, C, H2, rfl, ho, hbr, un, hok, na, sa, ⟨B, t, fl, cov, cov2⟩, C', tl, eC, xC, hin, q⟩ := hx
    cases eC
    have fl' : Heap.FlyingW B (X.env :: X.outer) a (.ref C) (.ref t) s2.heap := by rw [← hk]; exact fl
    show wpAny _ _ (noteFrame (.ref a) X.env) _ _ _
    refine wpAny_looks_onW (L := X.env.locals) (by rw [← hk]; exact I.ok.frames) hf fl' fun h4 held up4 => ?_
    refine wpAny_landsW held fun h5 fl5 up5 => ?_
    have up45 : s2.heap.UpToSlots h5 := up4.trans up5
    have I5 : Inv X pins σ' H2 { s2 with heap := h5 } := (Iv.landed (a := a) (C := C) ho hbr un hok cov cov2 fl'.1 fl5.1 up45).untries I.ok fun p z => List.mem_append_left _ z
    have I5s := I5.suite a
    obtain ⟨oe, vs, he, hcl, hd, _⟩ := fl5.first
    refine handleBy_sup_as xC xS hin (ld_glob (X := X.suite (X.pn ++ pins) a) I5s hg hm ⟨rfl, I5.kIn, ⟨oe, he, hcl⟩, ?_⟩ hdb)
    refine lands_againW fl5 fun h6 fl6 up6 => ?_
    have I6 : Inv X pins σ' H2 { s2 with heap := h6 } := (Iv.landed (a := a) (C := C) ho hbr un hok cov cov2 fl'.1 fl6.1 (up45.trans up6)).untries I.ok fun p z => List.mem_append_left _ z
    obtain ⟨oe6, vs6, he6, hcl6, hd6, _⟩ := fl6.first
    have I7 : Inv X pins σ' (upd H2 a (.ext (excφ a C))) { s2 with heap := h6 } := by
      refine I6.track ?_ na he6 hcl6 ?_ (fun y c e z => ?_) fun p hp z => ?_
      · cases z : X.s₀.heap.get? a with
        | none => rfl
        | some o =>
          obtain ⟨u, hu⟩ := Iv.base.there a o z (by show a ∉ X.ex; rw [hex]; simp)
          rw [sa] at hu
          cases hu
      · intro z
        obtain ⟨m, ⟨o, _, _, ho', _⟩, _⟩ := Iv.loc
        have : s1.heap.get? a = some o := by rw [z]; exact ho'
        rw [sa] at this
        cases this
      · obtain ⟨_, o, ho', _⟩ := Iv.cell y c e
        rw [z, sa] at ho'
        cases ho'
      · obtain ⟨e, _⟩ := Iv.pin p (List.mem_append_left _ hp)
        rw [z, sa] at e
        cases e
    refine store_ok (X := X.suite (X.pn ++ pins) a) (I7.suite a) hN hi (Or.inl hn) (v := .ref a) (u := .ref a) rfl (fun s7 I8 => ?_) (Or.inr hn)
    have I9 : Inv (X.suite (X.pn ++ pins) a) [] ((List.replicate X.N.length none).set i (some (.ref a))) (upd H2 a (.ext (excφ a C))) s7 := by
      have hl : σ'.length = X.N.length := I6.len
      refine I8.weak (by simp [hl]) fun j v e => ?_
      by_cases hj : i = j
      · subst hj
        have hlt : i < σ'.length := by rw [hl]; exact (List.getElem?_eq_some_iff.mp hi).1
        rw [List.getElem?_set_self (by simpa [hl] using hlt)] at e
        rw [List.getElem?_set_self hlt]
        exact e
      · rw [List.getElem?_set_ne hj, List.getElem?_replicate] at e
        split at e <;> cases e
    refine wpAny_mono (hs (X.pn ++ pins) a [] s7 _ _ _ I9 (q (X.pn ++ pins) a na)) (fun f s8 z => ?_) fun _ _ z => z
    cases f with
    | next => exact False.elim z.choose_spec.choose_spec.2
    | brk => exact False.elim z.choose_spec.choose_spec.2
    | cont => exact False.elim z.choose_spec.choose_spec.2
    | ret u =>
      obtain ⟨v, σ8, H8, I10, r, qr⟩ := z
      have I11 := I10.unsuite I.ok
      obtain ⟨m, hm', _⟩ := I11.loc
      refine wpAny_nameGoes hn hm' (by rw [I.ok.kind]; rfl) fun h9 m9 hn9 hs9 => ?_
      exact ⟨v, _, H8, I11.forget hn9 hs9, r, qr⟩
  · have z' := SP.untries I.ok z
    cases f with
    | next =>
      obtain ⟨σ', H', I', q⟩ := z'
      exact pss_nil pins s1 σ' H' D I' q
    | brk => exact z'
    | cont => exact z'
    | ret u => exact z'
end L2

/-! OWN PART 47: isinstance of an exception -/
set_option maxHeartbeats 2000000
namespace L2
open PySem PySem.Spec PyProof.Rows
/-- an own class of exceptions whose instances show their class -/
structure ExcIs (K : PySem.W.Frag) (C : Addr) : Prop where
  ga : PySem.W.findIn K (.ref C) "__getattribute__" = some (some (.builtin "BaseException.__getattribute__"))
  gt : PySem.W.findIn K (.ref C) "__getattr__" = some none
  cl : PySem.W.findIn K (.ref C) "__class__" = some (some (.builtin "object.__class__"))
  mb : PySem.W.mroIn K C (.type "BaseException") = some true
  mo : PySem.W.mroIn K C (.type "object") = some true
  is : (PySem.W.clsIn K C).isSome = true
section
variable {prog : Program} {w : World} {A : Around} {E : Value → Shared → Prop} {h : Heap} {g : Array GenState} {d : Drawn} {t : Nat} {os : OsState} {a C : Addr} {o : Obj} {K : PySem.W.Frag}
theorem xcls_get {R : Result → Shared → Prop} (X : K.In h) (z : ExcIs K C) (hx : h.get? a = some o) (hc : o.cls = .ref C) (hq : R (.ok (.ret (.ref C))) ⟨h, g, d, t, os⟩) :
    codeAny (model prog w) A (.call (.builtin "getset_descriptor.__get__") ⟨[.builtin "object.__class__", .ref a, .ref C], []⟩) R ⟨h, g, d, t, os⟩ := by
  have hT5 : (⟨h, g, d, t, os⟩ : Shared).TypeIs (.builtin "object.__class__") "getset_descriptor" := F.typeOf_object_class
  have LS : PySem.W.Looks (model prog w) h (isSubtype (.ref C) (.type (".".intercalate ("object.__class__".cutAt '.').dropLast))) true := by rw [F.owner_object_class]; exact PySem.W.looks_mroIn X z.mo
  refine codeAny_call_builtin F.slot_gs_get.plain F.entry_gs_get (F.slot_gs_get.check _ _ _ _ _ _ _ _ hT5 (F.args_gs_get _ _ _) ?_)
  repeat (any_goals (first | assumption | (with_reducible refine wpAny_loadPart_at hx ?_; rw [hc]) | with_reducible refine LS.at ?_ | wp_step))
  refine ⟨Code.quiet_builtin _ (by decide +kernel), codeAny_builtin F.entry_object_class ?_⟩
  repeat (any_goals (first | assumption | (with_reducible refine wpAny_loadPart_at hx ?_; rw [hc]) | wp_step))
theorem xcls_check {nameV : Value} {Q : Unit → Shared → Prop} (X : K.In h) (z : ExcIs K C) (hx : h.get? a = some o) (hc : o.cls = .ref C) (hq : Q () ⟨h, g, d, t, os⟩) :
    wpAny (model prog w) A (checkBuiltinCall "BaseException.__getattribute__" ⟨[.ref a, nameV], []⟩) Q E ⟨h, g, d, t, os⟩ := by
  have hk : builtinKind "BaseException.__getattribute__" = some .slot := by decide +kernel
  have hsplit : splitId "BaseException.__getattribute__" = some ("BaseException", "__getattribute__") := by decide +kernel
  have LB : PySem.W.Looks (model prog w) h (isSubtype (.ref C) (.type "BaseException")) true := PySem.W.looks_mroIn X z.mb
  have ha := F.args_bexc_ga (.ref a) nameV
  simp only [checkBuiltinCall, hk, hsplit]
  refine wpAny_bind ?_
  · unfold isInstance
    repeat (first | (with_reducible refine wpAny_loadPart_at hx ?_; rw [hc]) | with_reducible refine LB.at ?_ | wp_step)
    exact hq
theorem xcls_entry {tk : Tok} {Q : Fin → Shared → Prop} (X : K.In h) (z : ExcIs K C) (hx : h.get? a = some o) (hc : o.cls = .ref C) (hq : Q (.done (.ret (.ref C))) ⟨h, g, d, t, os⟩) :
    wpAny (model prog w) A (Builtin.«object.__getattribute__» ⟨[.ref a, .str "__class__" tk], []⟩) Q E ⟨h, g, d, t, os⟩ := by
  have hT5 : (⟨h, g, d, t, os⟩ : Shared).TypeIs (.builtin "object.__class__") "getset_descriptor" := F.typeOf_object_class
  have f5 := F.typeOf_object_class
  have f6 := F.slot_gs_get.lookup
  have f7 := F.slot_gs_set.lookup
  have LC : PySem.W.Looks (model prog w) h (typeLookup (.ref C) "__class__") (some (.builtin "object.__class__")) := PySem.W.looks_findIn X z.cl
  repeat (any_goals (first | assumption | (with_reducible refine wpAny_loadPart_at hx ?_; rw [hc]) | with_reducible refine LC.at ?_ | wp_step))
  refine xcls_get X z hx hc ?_
  repeat (any_goals (first | assumption | wp_step))
theorem xcls_call {tk : Tok} {R : Result → Shared → Prop} (X : K.In h) (z : ExcIs K C) (hx : h.get? a = some o) (hc : o.cls = .ref C) (hq : R (.ok (.ret (.ref C))) ⟨h, g, d, t, os⟩) :
    codeAny (model prog w) A (.call (.builtin "BaseException.__getattribute__") ⟨[.ref a, .str "__class__" tk], []⟩) R ⟨h, g, d, t, os⟩ :=
  codeAny_call_builtin PySem.F.attrBase_ValueError.ga.plain F.entry_bexc_ga (xcls_check X z hx hc (xcls_entry X z hx hc hq))
theorem xcls_by {tk : Tok} {fill expr : Bool} {Q : Value → Shared → Prop} (X : K.In h) (z : ExcIs K C) (hx : h.get? a = some o) (hc : o.cls = .ref C) (hq : Q (.ref C) ⟨h, g, d, t, os⟩) :
    wpAny (model prog w) A (getAttrBy (.ref a) (.str "__class__" tk) fill expr) Q E ⟨h, g, d, t, os⟩ := by
  have f3 := PySem.F.attrBase_ValueError.ga.bind (.ref a)
  have hx0 : (expr && onTheHeap (Value.builtin "BaseException.__getattribute__")) = false := by cases expr <;> rfl
  have hx2 : (Value.builtin "BaseException.__getattribute__" == Value.builtin "object.__getattribute__") = false := by decide +kernel
  have hx1 : (onTheHeap (Value.ref C) && Value.builtin "BaseException.__getattribute__" == Value.builtin "object.__getattribute__") = false := by rw [hx2]; rfl
  have LG : PySem.W.Looks (model prog w) h (typeLookup (.ref C) "__getattribute__") (some (.builtin "BaseException.__getattribute__")) := PySem.W.looks_findIn X z.ga
  have LH : PySem.W.Looks (model prog w) h (typeLookup (.ref C) "__getattr__") none := PySem.W.looks_findIn X z.gt
  repeat (any_goals (first | assumption | (with_reducible refine wpAny_loadPart_at hx ?_; rw [hc]) | with_reducible refine LG.at ?_ | with_reducible refine LH.at ?_ | wp_step))
  refine xcls_call X z hx hc ?_
  repeat (any_goals (first | assumption | wp_step))
theorem xcls_attr {Q : Option Value → Shared → Prop} (X : K.In h) (z : ExcIs K C) (hx : h.get? a = some o) (hc : o.cls = .ref C) (hq : Q (some (.ref C)) ⟨h, g, d, t + 1, os⟩) : wpAny (model prog w) A (getAttr? (.ref a) "__class__") Q E ⟨h, g, d, t, os⟩ := by
  unfold getAttr? getAttrBy?
  repeat (any_goals (first | assumption | with_reducible apply xcls_by X z hx hc | wp_step))
theorem kitx_exc (z : ExcIs K C) : PySem.W.KitX K (.ref a) (.ref C) (excφ a C) where
  ty := fun _ _ _ p => by
    obtain ⟨o, h1, h2⟩ := p
    exact h2 ▸ (PySem.W.Looks.ld h1).andThen .now
  it := fun _ _ X _ => by
    obtain ⟨cd, hcD⟩ := Option.isSome_iff_exists.mp z.is
    unfold PySem.W.clsIn at hcD
    split at hcD
    · rename_i c' d' cd' sl' ho
      intro A' Q' E' s' k q
      unfold isType loadHead
      exact wpAny_bind (wpAny_loadPart (k _ _ (X _ _ ho)) (wpAny_pure q))
    · cases hcD
  ne := fun h tp dd its n sl X htp => by
    obtain ⟨cd, hcD⟩ := Option.isSome_iff_exists.mp z.is
    refine Bool.eq_false_iff.mpr fun q => ?_
    have e : C = tp := Value.ref.inj (beq_iff_eq.mp q)
    subst e
    unfold PySem.W.clsIn at hcD
    split at hcD
    · rename_i c' d' cd' sl' ho
      have z := (X _ _ ho).symm.trans htp
      cases z
    · cases hcD
  ca := fun {prog w A E Q s} X p k => by
    obtain ⟨h, g, d, t, os⟩ := s
    obtain ⟨o, h1, h2⟩ := p
    exact xcls_attr X z h1 h2 k
end
section
variable {X : Cx}
/-- isinstance(e, D), e an exception that is caught, D an own class -/
theorem call_isexc : CallR X (.builtin "isinstance") (fun xs H Q => ∃ a C y b, xs = [.ref a, y] ∧ H a = some (.ext (excφ a C)) ∧ ExcIs X.K C ∧ (∀ u, RelV y u → PySem.W.kitOne X.K (.ref C) u = some b) ∧ Q (.bl b) H) := by
  intro pins s σ H xs us Q I r h
  obtain ⟨a, C, y, b, rfl, ha, z, hk, q⟩ := h
  obtain ⟨u, w', rfl, rx, ry⟩ := vals2 r
  obtain rfl : u = Value.ref a := rx
  have p : excφ a C s.heap := (show ObjOk X.prog X.w H s.heap a (.ext (excφ a C)) from I.hok a _ ha).1
  exact PySem.W.kia_one (kitx_exc z) I.kIn p (hk w' ry) (fun z => nomatch z) fun tk => ⟨.bl b, H, I.tok tk, rfl, q⟩
end
end L2

/-! OWN PART 3: the defs of slipseen.schemes -/
namespace My
open PySem L2 PyProof.Rows
def top (i : Nat) : Stmt := PySem.Challenge.pw_slipseen_k10_weighted_schemes.main.body.getD i (.Pass ⟨0, 0, 0, 0⟩)
abbrev sWhole : Stmt := top 14
abbrev sTupOf : Stmt := top 15
abbrev sRow : Stmt := top 16
abbrev sTab : Stmt := top 17
abbrev sTabs : Stmt := top 18
abbrev sCheck : Stmt := top 19
abbrev sFigs : Stmt := top 20
abbrev sMoved : Stmt := top 21
abbrev sSpot : Stmt := top 22
abbrev sState : Stmt := top 23
abbrev sCell : Stmt := top 30
abbrev sFigures : Stmt := top 31
abbrev sLaw : Stmt := top 34
/-! ### promises -/
def spWhole : Sp := fun vs H Q _ => ∃ v l m : Int, vs = [.int v, .int l, .int m] ∧ Q (.bl (wholeB v l m)) H
def spTupOf : Sp := fun vs H Q _ => ∃ (a : Addr) (xs : List V) (l m : Int), vs = [.ref a, .int l, .int m] ∧ H a = some (.tup xs) ∧ Q (.bl (lenB xs l m)) H
def spRow : Sp := fun vs H Q _ => ∃ (v : V) (r : List Int) (b n : Int), vs = [v, .int b, .int n] ∧ RowAt H v r ∧ r.length ≤ 1000 ∧ ∀ H', Same H H' → Q (.bl (rowB b n r)) H'
def spTab : Sp := fun vs H Q _ => ∃ (v : V) (t : Tab) (b n : Int), vs = [v, .int b, .int n] ∧ TabAt H v t ∧ t.length ≤ 1000 ∧ (∀ r ∈ t, r.length ≤ 1000) ∧ ∀ H', Same H H' → Q (.bl (tabB b n t)) H'
def spTabs : Sp := fun vs H Q _ => ∃ (v : V) (ts : List Tab) (b : Int), vs = [v, .int b] ∧ TabsAt H v ts ∧ ts.length ≤ 1000 ∧ (∀ t ∈ ts, t.length ≤ 1000 ∧ ∀ r ∈ t, r.length ≤ 1000) ∧ ∀ H', Same H H' → Q (.bl (tabsB b ts)) H'
def spCheck : Sp := fun vs H Q _ => ∃ (v : V) (ts : List Tab) (b : Int), vs = [v] ∧ SchAt H v b ts ∧ Ok b ts ∧ ∀ H', Same H H' → Q .non H'
def spFigs (K : PySem.W.Frag) : Sp := fun vs H Q _ => ∃ (v : V) (ts : List Tab) (b : Int) (a : Addr) (fs : List Int), vs = [v, .ref a] ∧ SchAt H v b ts ∧ SqL K H a (fs.map V.int) ∧ figsIn b fs ∧ ∀ H', Same H H' → Q .non H'
def spMoved (K : PySem.W.Frag) : Sp := fun vs H Q _ => ∃ (v : V) (ts : List Tab) (b : Int) (p a : Addr) (t : Nat) (s : Int) (fs : List Int), vs = [v, .ref p, .ref a] ∧ TabsAt H v ts ∧ Ok b ts ∧ SqT K H p [.int t, .int s] ∧ SqL K H a (fs.map V.int) ∧
  t < ts.length ∧ 0 ≤ s ∧ s < (nst ts : Int) ∧ figsIn b fs ∧ ∀ q H', Same H H' → H' q = some (.tup [.int (((t + fs.length) % ts.length : Nat) : Int), .int (rd ts t s fs)]) → Q (.ref q) H'
def spSpot (K : PySem.W.Frag) : Sp := fun vs H Q _ => ∃ (v : V) (ts : List Tab) (b : Int) (a : Addr) (fs : List Int), vs = [v, .ref a] ∧ SchAt H v b ts ∧ Ok b ts ∧ SqL K H a (fs.map V.int) ∧ figsIn b fs ∧
  ∀ q H', Same H H' → H' q = some (.tup [.int ((fs.length % ts.length : Nat) : Int), .int (rd ts 0 0 fs)]) → Q (.ref q) H'
def spState (K : PySem.W.Frag) : Sp := fun vs H Q _ => ∃ (v : V) (ts : List Tab) (b : Int) (a : Addr) (fs : List Int), vs = [v, .ref a] ∧ SchAt H v b ts ∧ Ok b ts ∧ SqL K H a (fs.map V.int) ∧ figsIn b fs ∧
  ∀ H', Same H H' → Q (.int (rd ts 0 0 fs)) H'
def spGood (K : PySem.W.Frag) : Sp := fun vs H Q _ => ∃ (v : V) (ts : List Tab) (b : Int) (a : Addr) (fs : List Int), vs = [v, .ref a] ∧ SchAt H v b ts ∧ Ok b ts ∧ SqL K H a (fs.map V.int) ∧ figsIn b fs ∧
  ∀ H', Same H H' → Q (.bl (decide (rd ts 0 0 fs = 0))) H'
/-- START, a tuple of the module -/
structure StartAt (K : PySem.W.Frag) (mg : Str → Option Value) : Prop where
  at' : ∃ a, mg "START" = some (.ref a) ∧ ∀ H, SqT K H a [.int 0, .int 0]
structure Nums (mg : Str → Option Value) : Prop where
  lb : ∃ t, mg "LEAST_BASE" = some (.int 2 t)
  mb : ∃ t, mg "MOST_BASE" = some (.int 10 t)
  mt : ∃ t, mg "MOST_TABLES" = some (.int 6 t)
  ms : ∃ t, mg "MOST_STATES" = some (.int 12 t)
section
variable {P : Program} {w : World} {K : PySem.W.Frag} {mg : Str → Option Value} {base : Heap}
/-! ### is_whole -/
theorem scWhole : FnScope ["value", "least", "most"] ["value", "least", "most"] (defScope sWhole) := ⟨rfl, rfl, rfl, by decide +kernel, rfl, by decide +kernel, by decide +kernel⟩
theorem ok_whole {f : Addr} {fd : FuncData} (F : Fun K "is_whole" "is_whole" sWhole f fd) (B : Blt mg) : FnOk P w K mg base CX0 1 f fd ["value", "least", "most"] spWhole := by
  refine F.ok scWhole (fun vs H Q E h => ?_) (fun cdv A outer s H vs Q E hr h => ?_)
  · obtain ⟨v, l, m, rfl, _⟩ := h
    rfl
  · obtain ⟨v, l, m, rfl, k⟩ := h
    refine ⟨_, pss_cons (ps_if (PW.pt (pw_or (pt_val (pe_callB call_isinst rfl B.isi boot_isinstance (pa_cons (pv 0) (pa_cons (pe_ty B.tBool boot_bool) pa_nil))))
        (pw_or1 (pt_not (pt_val (pe_callB call_isinst rfl B.isi boot_isinstance (pa_cons (pv 0) (pa_cons (pe_ty B.tInt boot_int) pa_nil)))))))) (pss_one (ps_ret pe_bl)) pss_nil)
      (pss_one (ps_ret (pe_chain op_le op_le (pv 1) (pv 0) (pv 2)))), ?_⟩
    refine ⟨_, rfl, _, _, _, _, rfl, .int _, kit_int_bool, _, rfl, iteF ?_⟩
    refine ⟨_, rfl, _, _, _, _, rfl, .int _, kit_int_int, _, rfl, iteF ?_⟩
    refine ⟨_, rfl, _, rfl, _, _, rfl, rfl, _, rfl, ?_⟩
    refine ite2 (fun c => ⟨_, rfl, _, _, rfl, rfl, ?_⟩) (fun c => ?_)
    · have e : wholeB v l m = decide (v ≤ m) := by unfold wholeB; rw [c, Bool.true_and]
      rw [e] at k
      exact k
    · have e : wholeB v l m = false := by unfold wholeB; rw [Bool.eq_false_iff.mpr c, Bool.false_and]
      rw [e] at k
      exact k
/-! ### is_tuple_of -/
theorem scTupOf : FnScope ["value", "least", "most"] ["value", "least", "most"] (defScope sTupOf) := ⟨rfl, rfl, rfl, by decide +kernel, rfl, by decide +kernel, by decide +kernel⟩
theorem ok_tupOf {f : Addr} {fd : FuncData} (F : Fun K "is_tuple_of" "is_tuple_of" sTupOf f fd) (B : Blt mg) : FnOk P w K mg base CX0 1 f fd ["value", "least", "most"] spTupOf := by
  refine F.ok scTupOf (fun vs H Q E h => ?_) (fun cdv A outer s H vs Q E hr h => ?_)
  · obtain ⟨a, xs, l, m, rfl, _⟩ := h
    rfl
  · obtain ⟨a, xs, l, m, rfl, ha, k⟩ := h
    refine ⟨_, pss_one (ps_ret (pe_and (pe_callB call_isinst rfl B.isi boot_isinstance (pa_cons (pv 0) (pa_cons (pe_ty B.tTuple boot_tuple) pa_nil)))
      (pe_one (pe_chain op_le op_le (pv 1) (pe_callB call_len_seq rfl B.len PySem.boot_len (pa_cons (pv 0) pa_nil)) (pv 2))))), ?_⟩
    refine ⟨_, rfl, _, _, _, _, rfl, .tup ha, kit_tup_tup, _, rfl, iteT ?_⟩
    refine ⟨_, rfl, _, rfl, _, _, rfl, .inr (SqT.of ha), _, _, rfl, rfl, _, rfl, ?_⟩
    refine ite2 (fun c => ⟨_, rfl, _, _, rfl, rfl, ?_⟩) (fun c => ?_)
    · have e : lenB xs l m = decide ((xs.length : Int) ≤ m) := by unfold lenB; rw [c, Bool.true_and]
      rw [e] at k
      exact k
    · have e : lenB xs l m = false := by unfold lenB; rw [Bool.eq_false_iff.mpr c, Bool.false_and]
      rw [e] at k
      exact k
/-! ### is_row -/
theorem scRow : FnScope ["row", "base", "states"] ["row", "base", "states"] (defScope sRow) := ⟨rfl, rfl, rfl, by decide +kernel, rfl, by decide +kernel, by decide +kernel⟩
theorem ok_row {f : Addr} {fd : FuncData} (F : Fun K "is_row" "is_row" sRow f fd) (B : Blt mg) (h1 : Has P w K mg base "is_tuple_of" 1 ["value", "least", "most"] spTupOf) (h2 : Has P w K mg base "is_whole" 1 ["value", "least", "most"] spWhole) :
    FnOk P w K mg base CX0 2 f fd ["row", "base", "states"] spRow := by
  refine F.ok scRow (fun vs H Q E h => ?_) (fun cdv A outer s H vs Q E hr h => ?_)
  · obtain ⟨v, r, b, n, rfl, _⟩ := h
    rfl
  · obtain ⟨v, r, b, n, rfl, ⟨a, rfl, ha⟩, hl, k⟩ := h
    refine ⟨_, pss_one (ps_ret (pe_and (pe_fn h1 hr (pa_cons (pv 0) (pa_cons (pv 1) (pa_cons (pv 1) pa_nil))))
      (pe_one (pe_callB (call_all rfl) rfl B.all boot_all (pa_cons (pe_comp (N := ["state", "states"]) (js := [none, some 2]) rfl rfl (pi_tup (pv 0))
        (fun _ _ _ _ => pg_name (i := 0) (ndOf (N := ["state", "states"]) (by decide +kernel)) rfl (Or.inl rfl)) (fun _ _ _ _ => pts_nil)
        (fun _ _ _ _ => pe_fn h2 hr (pa_cons (pv 0) (pa_cons pe_int (pa_cons (pe_op op_sub (pv 1) pe_int) pa_nil))))) pa_nil))))), ?_⟩
    refine ⟨_, rfl, _, rfl, _, rfl, a, _, b, b, rfl, ha, ?_⟩
    refine ⟨_, rfl, ite2 (fun c => ?_) (fun c => ?_)⟩
    · refine ⟨_, rfl, a, rfl, ⟨_, SqT.of ha⟩, ?_⟩
      have wk := Walk.tup (K := K) (SqT.of ha)
      rw [List.length_map] at wk
      refine block_map wk hl rfl (fun k => .bl (wholeB (r.getD k 0) 0 (n - 1))) (fun k H2 Q' hk s2 q => ?_) (fun D H2 hD s2 hD2 => ?_)
      · refine ⟨_, rfl, _, rfl, _, _, rfl, rfl, r.getD k 0, 0, n - 1, ?_, q _ (Same.refl _)⟩
        rw [show (r.map V.int).getD k .non = V.int (r.getD k 0) by simp [List.getD_eq_getElem?_getD, List.getElem?_map, List.getElem?_eq_getElem hk]]
        rfl
      · refine ⟨D, r.map fun e => wholeB e 0 (n - 1), rfl, SqL.of ?_, ?_⟩
        · rw [hD2, ← range_map_getD r 0 (fun e => wholeB e 0 (n - 1)), List.map_map]
          rfl
        · have e : rowB b n r = (r.map fun e => wholeB e 0 (n - 1)).all id := by
            unfold rowB
            rw [show lenB r b b = true by rw [← c]; simp [lenB], Bool.true_and]
          rw [e] at k
          exact k H2 s2
    · have e : rowB b n r = false := by
        unfold rowB
        rw [show lenB r b b = false by rw [← Bool.eq_false_iff.mpr c]; simp [lenB], Bool.false_and]
      rw [e] at k
      exact k H (Same.refl _)
/-! ### is_table -/
theorem scTab : FnScope ["table", "base", "states"] ["table", "base", "states"] (defScope sTab) := ⟨rfl, rfl, rfl, by decide +kernel, rfl, by decide +kernel, by decide +kernel⟩
theorem ok_tab {f : Addr} {fd : FuncData} (F : Fun K "is_table" "is_table" sTab f fd) (B : Blt mg) (h1 : Has P w K mg base "is_tuple_of" 1 ["value", "least", "most"] spTupOf) (h2 : Has P w K mg base "is_row" 2 ["row", "base", "states"] spRow) :
    FnOk P w K mg base CX0 3 f fd ["table", "base", "states"] spTab := by
  refine F.ok scTab (fun vs H Q E h => ?_) (fun cdv A outer s H vs Q E hr h => ?_)
  · obtain ⟨v, t, b, n, rfl, _⟩ := h
    rfl
  · obtain ⟨v, t, b, n, rfl, ⟨a, xs, rfl, ha, hp⟩, hl, hl2, k⟩ := h
    have el := paired_length hp
    refine ⟨_, pss_one (ps_ret (pe_and (pe_fn h1 (hr.mono (by decide)) (pa_cons (pv 0) (pa_cons (pv 2) (pa_cons (pv 2) pa_nil))))
      (pe_one (pe_callB (call_all rfl) rfl B.all boot_all (pa_cons (pe_comp (N := ["row", "base", "states"]) (js := [none, some 1, some 2]) rfl rfl (pi_tup (pv 0))
        (fun _ _ _ _ => pg_name (i := 0) (ndOf (N := ["row", "base", "states"]) (by decide +kernel)) rfl (Or.inl rfl)) (fun _ _ _ _ => pts_nil)
        (fun _ _ _ _ => pe_fn h2 hr (pa_cons (pv 0) (pa_cons (pv 1) (pa_cons (pv 2) pa_nil))))) pa_nil))))), ?_⟩
    refine ⟨_, rfl, _, rfl, _, rfl, a, _, n, n, rfl, ha, ?_⟩
    refine ⟨_, rfl, ite2 (fun c => ?_) (fun c => ?_)⟩
    · refine ⟨_, rfl, a, rfl, ⟨_, SqT.of ha⟩, ?_⟩
      have wk := Walk.tup (K := K) (SqT.of ha)
      rw [el] at wk
      refine block_map wk hl rfl (fun k => .bl (rowB b n (t.getD k []))) (fun k H2 Q' hk s2 q => ?_) (fun D H2 hD s2 hD2 => ?_)
      · have ek : t[k]? = some (t.getD k []) := getD_some hk
        obtain ⟨x, ex, hx⟩ := paired_get hp k _ ek
        refine ⟨_, rfl, _, rfl, _, rfl, x, t.getD k [], b, n, ?_, hx.same s2, hl2 _ (List.mem_of_getElem? ek), fun H3 s3 => q H3 s3⟩
        rw [show xs.getD k .non = x by rw [List.getD_eq_getElem?_getD, ex]; rfl]
        rfl
      · refine ⟨D, t.map fun r => rowB b n r, rfl, SqL.of ?_, ?_⟩
        · rw [hD2, ← range_map_getD t [] (fun r => rowB b n r), List.map_map]
          rfl
        · have e : tabB b n t = (t.map fun r => rowB b n r).all id := by
            unfold tabB
            rw [show lenB t n n = true by rw [← c]; simp [lenB, el], Bool.true_and]
          rw [e] at k
          exact k H2 s2
    · have e : tabB b n t = false := by
        unfold tabB
        rw [show lenB t n n = false by rw [← Bool.eq_false_iff.mpr c]; simp [lenB, el], Bool.false_and]
      rw [e] at k
      exact k H (Same.refl _)
/-! ### are_tables -/
theorem scTabs : FnScope ["tables", "base", "states"] ["tables", "base"] (defScope sTabs) := ⟨rfl, rfl, rfl, by decide +kernel, rfl, by decide +kernel, by decide +kernel⟩
theorem ok_tabs {f : Addr} {fd : FuncData} (F : Fun K "are_tables" "are_tables" sTabs f fd) (B : Blt mg) (Nm : Nums mg) (h1 : Has P w K mg base "is_tuple_of" 1 ["value", "least", "most"] spTupOf) (h2 : Has P w K mg base "is_table" 3 ["table", "base", "states"] spTab) :
    FnOk P w K mg base CX0 4 f fd ["tables", "base"] spTabs := by
  refine F.ok scTabs (fun vs H Q E h => ?_) (fun cdv A outer s H vs Q E hr h => ?_)
  · obtain ⟨v, ts, b, rfl, _⟩ := h
    rfl
  · obtain ⟨v, ts, b, rfl, ⟨a, xs, rfl, ha, hp⟩, hl, hl2, k⟩ := h
    have el := paired_length hp
    obtain ⟨t6, m6⟩ := Nm.mt
    obtain ⟨t12, m12⟩ := Nm.ms
    have r1 : Room 1 _ := hr.mono (by decide)
    refine ⟨_, pss_cons (ps_if (PW.pt (pw_or (pt_not (pt_val (pe_fn h1 r1 (pa_cons (pv 0) (pa_cons pe_int (pa_cons (pe_glob (v := .int 6) rfl m6 ⟨_, rfl⟩) pa_nil))))))
        (pw_or1 (pt_not (pt_val (pe_fn h1 r1 (pa_cons (pe_ix ix_tup (pv 0) pe_int (fun _ _ => rfl)) (pa_cons pe_int (pa_cons (pe_glob (v := .int 12) rfl m12 ⟨_, rfl⟩) pa_nil))))))))) (pss_one (ps_ret pe_bl)) pss_nil)
      (pss_cons (ps_set (i := 2) scTabs.nd rfl (Or.inr rfl) (pe_callB call_len_seq rfl B.len PySem.boot_len (pa_cons (pe_ix ix_tup (pv 0) pe_int (fun _ _ => rfl)) pa_nil)))
      (pss_one (ps_ret (pe_callB (call_all rfl) rfl B.all boot_all (pa_cons (pe_comp (N := ["table", "base", "states"]) (js := [none, some 1, some 2]) rfl rfl (pi_tup (pv 0))
        (fun _ _ _ _ => pg_name (i := 0) (ndOf (N := ["table", "base", "states"]) (by decide +kernel)) rfl (Or.inl rfl)) (fun _ _ _ _ => pts_nil)
        (fun _ _ _ _ => pe_fn h2 hr (pa_cons (pv 0) (pa_cons (pv 1) (pa_cons (pv 2) pa_nil))))) pa_nil))))), ?_⟩
    refine ⟨_, rfl, a, xs, 1, 6, rfl, ha, _, rfl, ite2 (fun c => ?_) (fun c => ?_)⟩
    · have e : tabsB b ts = false := by
        unfold tabsB
        have c' : lenB xs 1 6 = false := by simpa using c
        rw [show lenB ts 1 6 = false by rw [← c']; simp [lenB, el]]
        simp
      rw [e] at k
      exact k H (Same.refl _)
    · have c' : lenB ts 1 6 = true := by
        have : lenB xs 1 6 = true := by simpa using c
        rw [← this]
        simp [lenB, el]
      have hne : 0 < ts.length := by
        have := (lenB_iff.mp c').1
        omega
      have e0 : ts[0]? = some (ts.headD []) := by
        cases ts with
        | nil => simp at hne
        | cons t r => rfl
      obtain ⟨x0, ex0, ⟨a0, ys, rfl, ha0, hp0⟩⟩ := paired_get hp 0 _ e0
      have el0 := paired_length hp0
      refine ⟨_, rfl, a, xs, 0, _, rfl, rfl, SqT.of ha, atI_nat ex0, a0, ys, 1, 12, rfl, ha0, _, rfl, ite2 (fun d => ?_) (fun d => ?_)⟩
      · have e : tabsB b ts = false := by
          unfold tabsB
          have d' : lenB ys 1 12 = false := by simpa using d
          rw [show lenB (ts.headD []) 1 12 = false by rw [← d']; simp [lenB, el0]]
          simp
        rw [e] at k
        exact k H (Same.refl _)
      · have d' : lenB (ts.headD []) 1 12 = true := by
          have : lenB ys 1 12 = true := by simpa using d
          rw [← this]
          simp [lenB, el0]
        refine ⟨_, rfl, a, xs, 0, _, rfl, rfl, SqT.of ha, atI_nat ex0, a0, ys, rfl, .inr (SqT.of ha0), ?_⟩
        refine ⟨_, rfl, a, rfl, ⟨_, SqT.of ha⟩, ?_⟩
        have wk := Walk.tup (K := K) (SqT.of ha)
        rw [el] at wk
        refine block_map wk hl rfl (fun k => .bl (tabB b (ys.length : Int) (ts.getD k []))) (fun k H2 Q' hk s2 q => ?_) (fun D H2 hD s2 hD2 => ?_)
        · have ek : ts[k]? = some (ts.getD k []) := getD_some hk
          obtain ⟨x, ex, hx⟩ := paired_get hp k _ ek
          refine ⟨_, rfl, _, rfl, _, rfl, x, ts.getD k [], b, (ys.length : Int), ?_, hx.same s2, (hl2 _ (List.mem_of_getElem? ek)).1, (hl2 _ (List.mem_of_getElem? ek)).2, fun H3 s3 => q H3 s3⟩
          rw [show xs.getD k .non = x by rw [List.getD_eq_getElem?_getD, ex]; rfl]
          rfl
        · refine ⟨D, ts.map fun t => tabB b (ys.length : Int) t, rfl, SqL.of ?_, ?_⟩
          · rw [hD2, ← range_map_getD ts [] (fun t => tabB b (ys.length : Int) t), List.map_map]
            rfl
          · have e : tabsB b ts = (ts.map fun t => tabB b (ys.length : Int) t).all id := by
              unfold tabsB
              rw [c', d', el0]
              simp
            rw [e] at k
            exact k H2 s2
/-! ### check_scheme -/
theorem scCheck : FnScope ["scheme"] ["scheme"] (defScope sCheck) := ⟨rfl, rfl, rfl, by decide +kernel, rfl, by decide +kernel, by decide +kernel⟩
theorem ok_check {f : Addr} {fd : FuncData} (F : Fun K "check_scheme" "check_scheme" sCheck f fd) (B : Blt mg) (Nm : Nums mg) (h1 : Has P w K mg base "is_tuple_of" 1 ["value", "least", "most"] spTupOf) (h2 : Has P w K mg base "is_whole" 1 ["value", "least", "most"] spWhole)
    (h3 : Has P w K mg base "are_tables" 4 ["tables", "base"] spTabs) : FnOk P w K mg base CX0 5 f fd ["scheme"] spCheck := by
  refine F.ok scCheck (fun vs H Q E h => ?_) (fun cdv A outer s H vs Q E hr h => ?_)
  · obtain ⟨v, ts, b, rfl, _⟩ := h
    rfl
  · obtain ⟨v, ts, b, rfl, ⟨a, wv, rfl, ha, hT⟩, ok, k⟩ := h
    obtain ⟨t2, m2⟩ := Nm.lb
    obtain ⟨t10, m10⟩ := Nm.mb
    have r1 : Room 1 _ := hr.mono (by decide)
    have hB := schB_iff.mpr ok
    unfold schB at hB
    rw [Bool.and_eq_true] at hB
    refine ⟨_, pss_cons (ps_if (pt_not (pt_val (pe_fn h1 r1 (pa_cons (pv 0) (pa_cons pe_int (pa_cons pe_int pa_nil)))))) (pss_one ps_never) pss_nil)
      (pss_cons (ps_if (pt_not (pt_val (pe_fn h2 r1 (pa_cons (pe_ix ix_tup (pv 0) pe_int (fun _ _ => rfl)) (pa_cons (pe_glob (v := .int 2) rfl m2 ⟨_, rfl⟩) (pa_cons (pe_glob (v := .int 10) rfl m10 ⟨_, rfl⟩) pa_nil)))))) (pss_one ps_never) pss_nil)
      (pss_one (ps_if (pt_not (pt_val (pe_fn h3 hr (pa_cons (pe_ix ix_tup (pv 0) pe_int (fun _ _ => rfl)) (pa_cons (pe_ix ix_tup (pv 0) pe_int (fun _ _ => rfl)) pa_nil))))) (pss_one ps_never) pss_nil))), ?_⟩
    refine ⟨_, rfl, a, _, 2, 2, rfl, ha, _, rfl, iteF ?_⟩
    refine ⟨_, rfl, a, _, 0, _, rfl, rfl, SqT.of ha, rfl, b, 2, 10, rfl, _, rfl, ?_⟩
    rw [hB.1]
    refine iteF ?_
    refine ⟨_, rfl, a, _, 1, _, rfl, rfl, SqT.of ha, rfl, _, rfl, a, _, 0, _, rfl, rfl, SqT.of ha, rfl, wv, ts, b, rfl, hT, ?_, ?_, fun H' s' => ⟨_, rfl, ?_⟩⟩
    · have := ok.t2
      omega
    · intro t ht
      have h1 := ok.rows t ht
      have h2 := ok.n2
      refine ⟨by omega, fun r hr => ?_⟩
      have h3 := ok.figs t ht r hr
      have h4 := ok.b2
      omega
    · rw [hB.2]
      refine iteF ?_
      exact k H' s'
/-! ### check_figures -/
theorem get_ints {fs : List Int} {i : Nat} {x : V} (h : (fs.map V.int)[i]? = some x) : ∃ f, fs[i]? = some f ∧ x = .int f := by
  rw [List.getElem?_map] at h
  cases e : fs[i]? with
  | none => rw [e] at h; cases h
  | some f => rw [e] at h; exact ⟨f, rfl, (Option.some.inj h).symm⟩
theorem scFigs : FnScope ["scheme", "figures", "figure"] ["scheme", "figures"] (defScope sFigs) := ⟨rfl, rfl, rfl, by decide +kernel, rfl, by decide +kernel, by decide +kernel⟩
theorem ok_figs {f : Addr} {fd : FuncData} (F : Fun K "check_figures" "check_figures" sFigs f fd) (h2 : Has P w K mg base "is_whole" 1 ["value", "least", "most"] spWhole) : FnOk P w K mg base CX0 2 f fd ["scheme", "figures"] (spFigs K) := by
  refine F.ok scFigs (fun vs H Q E h => ?_) (fun cdv A outer s H vs Q E hr h => ?_)
  · obtain ⟨v, ts, b, a, fs, rfl, _⟩ := h
    rfl
  · obtain ⟨v, ts, b, a, fs, rfl, ⟨a0, wv, rfl, ha0, hT⟩, hS, hf, k⟩ := h
    refine ⟨_, pss_one (ps_for PassesOwn.never rfl (pi_list (pv 1)) (pg_name (i := 2) scFigs.nd rfl (Or.inl rfl))
      (pss_one (ps_if (pt_not (pt_val (pe_fn h2 hr (pa_cons (pv 2) (pa_cons pe_int (pa_cons (pe_op op_sub (pe_ix ix_tup (pv 0) pe_int (fun _ _ => rfl)) pe_int) pa_nil)))))) (pss_one ps_never) pss_nil))), ?_⟩
    refine ⟨_, rfl, a, rfl, ⟨_, hS⟩, for_list (K := K) (a := a) (xs := fs.map V.int) (fun i σ H2 => (∃ x, σ = [some (.ref a0), some (.ref a), x]) ∧ H2 = H) ⟨⟨_, rfl⟩, rfl⟩ (fun i σ H2 _ ⟨_, e⟩ => e ▸ hS) ?_ ?_⟩
    · rintro i y σ H2 hi ⟨⟨x, rfl⟩, rfl⟩
      obtain ⟨z, ez, rfl⟩ := get_ints hi
      have hz := hf z (List.mem_of_getElem? ez)
      refine ⟨_, rfl, _, rfl, a0, _, 0, _, rfl, rfl, SqT.of ha0, rfl, _, _, rfl, rfl, z, 0, b - 1, rfl, _, rfl, ?_⟩
      rw [wholeB_iff.mpr ⟨hz.1, by omega⟩]
      exact iteF ⟨⟨_, rfl⟩, rfl⟩
    · rintro σ H2 ⟨_, rfl⟩
      exact k _ (Same.refl _)
/-! ### moved -/
theorem turn_next (a n : Nat) : (((a % n : Nat) : Int) + 1) % (n : Int) = (((a + 1) % n : Nat) : Int) := by
  have e : (((a % n : Nat) : Int) + 1) = ((a % n + 1 : Nat) : Int) := by simp
  rw [e, ← Int.natCast_emod, Nat.mod_add_mod]
theorem scMoved : FnScope ["tables", "spot", "figures", "turn", "state", "figure"] ["tables", "spot", "figures"] (defScope sMoved) := ⟨rfl, rfl, rfl, by decide +kernel, rfl, by decide +kernel, by decide +kernel⟩
theorem ok_moved {f : Addr} {fd : FuncData} (F : Fun K "moved" "moved" sMoved f fd) (B : Blt mg) : FnOk P w K mg base CX0 1 f fd ["tables", "spot", "figures"] (spMoved K) := by
  refine F.ok scMoved (fun vs H Q E h => ?_) (fun cdv A outer s H vs Q E hr h => ?_)
  · obtain ⟨v, ts, b, p, a, t, st, fs, rfl, _⟩ := h
    rfl
  · obtain ⟨v, ts, b, p, a, t, st, fs, rfl, hT, ok, hp, hS, ht, s0, s1, hf, k⟩ := h
    refine ⟨_, pss_cons (ps_set (i := 3) scMoved.nd rfl (Or.inl rfl) (pe_ix ix_tup (pv 1) pe_int (fun _ _ => rfl)))
      (pss_cons (ps_set (i := 4) scMoved.nd rfl (Or.inl rfl) (pe_ix ix_tup (pv 1) pe_int (fun _ _ => rfl)))
      (pss_cons (ps_for PassesOwn.never rfl (pi_list (pv 2)) (pg_name (i := 5) scMoved.nd rfl (Or.inl rfl))
        (pss_cons (ps_set (i := 4) scMoved.nd rfl (Or.inl rfl) (pe_ix ix_tup (pe_ix ix_tup (pe_ix ix_tup (pv 0) (pv 3) (fun _ _ => rfl)) (pv 4) (fun _ _ => rfl)) (pv 5) (fun _ _ => rfl)))
        (pss_one (ps_set (i := 3) scMoved.nd rfl (Or.inl rfl) (pe_op op_mod (pe_op op_add (pv 3) pe_int) (pe_callB call_len_seq rfl B.len PySem.boot_len (pa_cons (pv 0) pa_nil)))))))
      (pss_one (ps_ret (pe_tup (pa_cons (pv 3) (pa_cons (pv 4) pa_nil))))))), ?_⟩
    refine ⟨_, rfl, p, _, 0, _, rfl, rfl, hp, rfl, ?_⟩
    refine ⟨_, rfl, p, _, 1, _, rfl, rfl, hp, rfl, ?_⟩
    refine ⟨_, rfl, a, rfl, ⟨_, hS⟩, for_list (K := K) (a := a) (xs := fs.map V.int)
      (fun i σ H2 => (∃ x, σ = [some v, some (.ref p), some (.ref a), some (.int (((t + i) % ts.length : Nat) : Int)), some (.int (rd ts t st (fs.take i))), x]) ∧ H2 = H) ⟨⟨none, ?_⟩, rfl⟩ (fun i σ H2 _ ⟨_, e⟩ => e ▸ hS) ?_ ?_⟩
    · rw [Nat.add_zero, Nat.mod_eq_of_lt ht]
      rfl
    · rintro i y σ H2 hi ⟨⟨x, rfl⟩, rfl⟩
      obtain ⟨z, ez, rfl⟩ := get_ints hi
      have hz := hf z (List.mem_of_getElem? ez)
      have hlt := ok.rd_lt (fs.take i) t st s0 s1 fun g hg => hf g (List.mem_of_mem_take hg)
      have hm : (t + i) % ts.length < ts.length := Nat.mod_lt _ ok.t1
      obtain ⟨a1, x1, y1, a2, x2, y2, a3, x3, rfl, q1, q2, rfl, q3, q4, rfl, q5, q6⟩ := hT.look ok hm hlt.1 hlt.2 hz.1 hz.2
      obtain ⟨a1', x1', e1', q1', el⟩ := hT.len
      cases e1'
      have hil : i < fs.length := (List.getElem?_eq_some_iff.mp ez).1
      have enx : ent ts ((t + i) % ts.length) (rd ts t st (fs.take i)) z = rd ts t st (fs.take (i + 1)) := by
        rw [take_succ_get ez, rd_snoc, List.length_take_of_le (by omega)]
      rw [enx] at q6
      refine ⟨_, rfl, _, rfl, a1, x1, _, _, rfl, rfl, SqT.of q1, q2, _, rfl, a2, x2, _, _, rfl, rfl, SqT.of q3, q4, _, rfl, a3, x3, _, _, rfl, rfl, SqT.of q5, q6, ?_⟩
      refine ⟨_, rfl, _, _, rfl, rfl, _, rfl, a1, x1', rfl, .inr (SqT.of q1'), _, _, rfl, rfl, ?_, ?_⟩
      · have := ok.t1
        omega
      · refine ⟨⟨some (.int z), ?_⟩, rfl⟩
        rw [el]
        show [some (V.ref a1), some (V.ref p), some (V.ref a), some (V.int (((((t + i) % ts.length : Nat) : Int) + 1) % (ts.length : Int))), some (V.int (rd ts t st (fs.take (i + 1)))), some (V.int z)] = _
        rw [turn_next]
        rfl
    · rintro σ H2 ⟨⟨x, rfl⟩, rfl⟩
      rw [List.length_map, List.take_length]
      refine ⟨_, rfl, _, rfl, (by show 2 ≤ sizeLine; decide), fun q hq => ?_⟩
      exact k q _ (Same.new hq) upd_same
/-! ### spot_after, state_after, good -/
theorem scSpot : FnScope ["scheme", "figures"] ["scheme", "figures"] (defScope sSpot) := ⟨rfl, rfl, rfl, by decide +kernel, rfl, by decide +kernel, by decide +kernel⟩
theorem ok_spot {f : Addr} {fd : FuncData} (F : Fun K "spot_after" "spot_after" sSpot f fd) (St : StartAt K mg) (h1 : Has P w K mg base "check_scheme" 5 ["scheme"] spCheck) (h2 : Has P w K mg base "check_figures" 2 ["scheme", "figures"] (spFigs K))
    (h3 : Has P w K mg base "moved" 1 ["tables", "spot", "figures"] (spMoved K)) : FnOk P w K mg base CX0 6 f fd ["scheme", "figures"] (spSpot K) := by
  refine F.ok scSpot (fun vs H Q E h => ?_) (fun cdv A outer s H vs Q E hr h => ?_)
  · obtain ⟨v, ts, b, a, fs, rfl, _⟩ := h
    rfl
  · obtain ⟨v, ts, b, a, fs, rfl, hC, ok, hS, hf, k⟩ := h
    obtain ⟨aS, mS, hSt⟩ := St.at'
    refine ⟨_, pss_cons (ps_expr (pe_fn h1 hr (pa_cons (pv 0) pa_nil)))
      (pss_cons (ps_expr (pe_fn h2 (hr.mono (by decide)) (pa_cons (pv 0) (pa_cons (pv 1) pa_nil))))
      (pss_one (ps_ret (pe_fn h3 (hr.mono (by decide)) (pa_cons (pe_ix ix_tup (pv 0) pe_int (fun _ _ => rfl)) (pa_cons (pe_glob (v := .ref aS) rfl mS rfl) (pa_cons (pv 1) pa_nil))))))), ?_⟩
    refine ⟨_, rfl, v, ts, b, rfl, hC, ok, fun H1 s1 => ?_⟩
    refine ⟨_, rfl, _, rfl, v, ts, b, a, fs, rfl, hC.same s1, s1.seq hS, hf, fun H2 s2 => ?_⟩
    obtain ⟨a0, wv, rfl, ha0, hT⟩ := hC.same (s1.trans s2)
    refine ⟨_, rfl, a0, _, 1, _, rfl, rfl, SqT.of ha0, rfl, _, rfl, wv, ts, b, aS, a, 0, 0, fs, rfl, hT, ok, hSt _, (s1.trans s2).seq hS, ok.t1, Int.le_refl _, ?_, hf, fun q H3 s3 hq => ?_⟩
    · have := ok.n1
      omega
    · rw [Nat.zero_add] at hq
      exact k q H3 ((s1.trans s2).trans s3) hq
theorem scState : FnScope ["scheme", "figures"] ["scheme", "figures"] (defScope sState) := ⟨rfl, rfl, rfl, by decide +kernel, rfl, by decide +kernel, by decide +kernel⟩
theorem ok_state {f : Addr} {fd : FuncData} (F : Fun K "state_after" "state_after" sState f fd) (h1 : Has P w K mg base "spot_after" 6 ["scheme", "figures"] (spSpot K)) : FnOk P w K mg base CX0 7 f fd ["scheme", "figures"] (spState K) := by
  refine F.ok scState (fun vs H Q E h => ?_) (fun cdv A outer s H vs Q E hr h => ?_)
  · obtain ⟨v, ts, b, a, fs, rfl, _⟩ := h
    rfl
  · obtain ⟨v, ts, b, a, fs, rfl, hC, ok, hS, hf, k⟩ := h
    refine ⟨_, pss_one (ps_ret (pe_ix ix_tup (pe_fn h1 hr (pa_cons (pv 0) (pa_cons (pv 1) pa_nil))) pe_int (fun _ _ => rfl))), ?_⟩
    refine ⟨_, rfl, _, rfl, v, ts, b, a, fs, rfl, hC, ok, hS, hf, fun q H1 s1 hq => ⟨q, _, 1, _, rfl, rfl, SqT.of hq, rfl, k H1 s1⟩⟩
end
end My

/-! OWN PART 4: what makes the inputs -/
namespace My
open PySem L2 PyProof.Rows
/-- a script's cell -/
def cel (ns : List Int) (k : Int) : Int := ns.getD k.toNat 0
def spCell (K : PySem.W.Frag) : Sp := fun vs H Q _ => ∃ (a : Addr) (ns : List Int) (k : Int), vs = [.ref a, .int k] ∧ SqL K H a (ns.map V.int) ∧ 0 ≤ k ∧ Q (.int (cel ns k)) H
def spStir : Sp := fun vs H Q _ => ∃ c k : Int, vs = [.int c, .int k] ∧ ∀ r, Q (.int r) H
def spWeight (K : PySem.W.Frag) : Sp := fun vs H Q _ => ∃ (a : Addr) (ns : List Int) (at' : Int) (t : Nat) (n : Int), vs = [.ref a, .int at', .int t, .int n] ∧ SqL K H a (ns.map V.int) ∧ 0 ≤ at' ∧ t ≤ 1000 ∧ 1 ≤ n ∧ n ≤ 12 ∧
  ∀ r, 0 ≤ r → r < n → Q (.int r) H
def spScheme (K : PySem.W.Frag) : Sp := fun vs H Q _ => ∃ (a m : Addr) (ns : List Int) (at' m0 m1 m2 : Int), vs = [.ref a, .int at', .ref m] ∧ SqL K H a (ns.map V.int) ∧ 0 ≤ at' ∧ H m = some (.tup [.int m0, .int m1, .int m2]) ∧
  2 ≤ m0 ∧ m0 ≤ 10 ∧ 1 ≤ m1 ∧ m1 ≤ 12 ∧ 1 ≤ m2 ∧ m2 ≤ 6 ∧ ∀ v b ts H', Same H H' → SchAt H' v b ts → Ok b ts → b ≤ m0 → (nst ts : Int) ≤ m1 → (ts.length : Int) ≤ m2 → Q v H'
def spFigures (K : PySem.W.Frag) : Sp := fun vs H Q _ => ∃ (a : Addr) (ns : List Int) (at' b most : Int), vs = [.ref a, .int at', .int b, .int most] ∧ SqL K H a (ns.map V.int) ∧ 0 ≤ at' ∧ 2 ≤ b ∧ b ≤ 10 ∧ 0 ≤ most ∧ most ≤ 100 ∧
  ∀ D fs H', Same H H' → H D = none → H' D = some (.lst (fs.map V.int)) → figsIn b fs → (fs.length : Int) ≤ most → Q (.ref D) H'
def spRead (K : PySem.W.Frag) : Sp := fun vs H Q _ => ∃ (v : V) (ts : List Tab) (b : Int) (a : Addr) (t : Nat) (s : Int) (fs : List Int), vs = [v, .int t, .int s, .ref a] ∧ SchAt H v b ts ∧ Ok b ts ∧ SqL K H a (fs.map V.int) ∧
  0 ≤ s ∧ s < (nst ts : Int) ∧ figsIn b fs ∧ Q (.int (rd ts t s fs)) H
section
variable {P : Program} {w : World} {K : PySem.W.Frag} {mg : Str → Option Value} {base : Heap}
theorem scCell : FnScope ["script", "k"] ["script", "k"] (defScope sCell) := ⟨rfl, rfl, rfl, by decide +kernel, rfl, by decide +kernel, by decide +kernel⟩
theorem ok_cell {f : Addr} {fd : FuncData} (F : Fun K "_law_cell_at" "_law_cell_at" sCell f fd) (B : Blt mg) : FnOk P w K mg base CX0 1 f fd ["script", "k"] (spCell K) := by
  refine F.ok scCell (fun vs H Q E h => ?_) (fun cdv A outer s H vs Q E hr h => ?_)
  · obtain ⟨a, ns, k, rfl, _⟩ := h
    rfl
  · obtain ⟨a, ns, k, rfl, hS, h0, q⟩ := h
    refine ⟨_, pss_cons (ps_if (pt_cmpR op_lt (pv 1) (pe_callB call_len_seq rfl B.len PySem.boot_len (pa_cons (pv 0) pa_nil)) (nomark _)) (pss_one (ps_ret (pe_ix ix_list (pv 0) (pv 1) (fun _ _ => rfl)))) pss_nil)
      (pss_one (ps_ret pe_int)), ?_⟩
    refine ⟨_, rfl, _, rfl, a, _, rfl, .inl hS, _, _, rfl, rfl, _, rfl, ite2 (fun c => ?_) (fun c => ?_)⟩
    · have hk : k.toNat < ns.length := by
        have := of_decide_eq_true c
        rw [List.length_map] at this
        omega
      refine ⟨_, rfl, _, rfl, a, _, k, .int (cel ns k), rfl, rfl, hS, atI_int h0 ?_, q⟩
      rw [List.getElem?_map, getD_some (d := 0) hk]
      rfl
    · have e : cel ns k = 0 := by
        have hk : ns.length ≤ k.toNat := by
          have := of_decide_eq_false (Bool.eq_false_iff.mpr c)
          rw [List.length_map] at this
          omega
        unfold cel
        rw [List.getD_eq_getElem?_getD, List.getElem?_eq_none hk]
        rfl
      rw [e] at q
      exact q
theorem hide {A : Prop} (h : ∀ G : Prop, (A → G) → G) : A := h A id
theorem sealF {wi : TI} {g : TG} {tb : TS} {D : Ends} {σ : L2.St} {H : Hp} (h : ∀ E : Ends, (∀ σ H, D.nx σ H → E.nx σ H) → (∀ v H, D.rt v H → E.rt v H) → tFor wi g tb E σ H) : tFor wi g tb D σ H := h D (fun _ _ x => x) fun _ _ x => x
theorem sealE {a u : TS} {D : Ends} {σ : L2.St} {H : Hp} (h : ∀ E : Ends, (∀ σ H, D.nx σ H → E.nx σ H) → (∀ v H, D.rt v H → E.rt v H) → tSeq a u E σ H) : tSeq a u D σ H := h D (fun _ _ x => x) fun _ _ x => x
/-! ### the rest of a block as a name: what stands behind is not carried through each step -/
theorem cut1 {a1 u : TS} {D : Ends} {σ : L2.St} {H : Hp} (h : ∀ T : TS, (∀ σ H, u D σ H → T D σ H) → (tSeq a1 T) D σ H) : (tSeq a1 u) D σ H := h u fun _ _ x => x
theorem cut2 {a1 a2 u : TS} {D : Ends} {σ : L2.St} {H : Hp} (h : ∀ T : TS, (∀ σ H, u D σ H → T D σ H) → (tSeq a1 (tSeq a2 T)) D σ H) : (tSeq a1 (tSeq a2 u)) D σ H := h u fun _ _ x => x
theorem cut3 {a1 a2 a3 u : TS} {D : Ends} {σ : L2.St} {H : Hp} (h : ∀ T : TS, (∀ σ H, u D σ H → T D σ H) → (tSeq a1 (tSeq a2 (tSeq a3 T))) D σ H) : (tSeq a1 (tSeq a2 (tSeq a3 u))) D σ H := h u fun _ _ x => x
theorem cut4 {a1 a2 a3 a4 u : TS} {D : Ends} {σ : L2.St} {H : Hp} (h : ∀ T : TS, (∀ σ H, u D σ H → T D σ H) → (tSeq a1 (tSeq a2 (tSeq a3 (tSeq a4 T)))) D σ H) : (tSeq a1 (tSeq a2 (tSeq a3 (tSeq a4 u)))) D σ H := h u fun _ _ x => x
theorem cut5 {a1 a2 a3 a4 a5 u : TS} {D : Ends} {σ : L2.St} {H : Hp} (h : ∀ T : TS, (∀ σ H, u D σ H → T D σ H) → (tSeq a1 (tSeq a2 (tSeq a3 (tSeq a4 (tSeq a5 T))))) D σ H) : (tSeq a1 (tSeq a2 (tSeq a3 (tSeq a4 (tSeq a5 u))))) D σ H := h u fun _ _ x => x
theorem cut6 {a1 a2 a3 a4 a5 a6 u : TS} {D : Ends} {σ : L2.St} {H : Hp} (h : ∀ T : TS, (∀ σ H, u D σ H → T D σ H) → (tSeq a1 (tSeq a2 (tSeq a3 (tSeq a4 (tSeq a5 (tSeq a6 T)))))) D σ H) : (tSeq a1 (tSeq a2 (tSeq a3 (tSeq a4 (tSeq a5 (tSeq a6 u)))))) D σ H := h u fun _ _ x => x
theorem cut7 {a1 a2 a3 a4 a5 a6 a7 u : TS} {D : Ends} {σ : L2.St} {H : Hp} (h : ∀ T : TS, (∀ σ H, u D σ H → T D σ H) → (tSeq a1 (tSeq a2 (tSeq a3 (tSeq a4 (tSeq a5 (tSeq a6 (tSeq a7 T))))))) D σ H) : (tSeq a1 (tSeq a2 (tSeq a3 (tSeq a4 (tSeq a5 (tSeq a6 (tSeq a7 u))))))) D σ H := h u fun _ _ x => x
theorem cut8 {a1 a2 a3 a4 a5 a6 a7 a8 u : TS} {D : Ends} {σ : L2.St} {H : Hp} (h : ∀ T : TS, (∀ σ H, u D σ H → T D σ H) → (tSeq a1 (tSeq a2 (tSeq a3 (tSeq a4 (tSeq a5 (tSeq a6 (tSeq a7 (tSeq a8 T)))))))) D σ H) : (tSeq a1 (tSeq a2 (tSeq a3 (tSeq a4 (tSeq a5 (tSeq a6 (tSeq a7 (tSeq a8 u)))))))) D σ H := h u fun _ _ x => x
/-! ### _law_scheme -/
def rowIn (b n : Int) (r : List Int) : Prop := (r.length : Int) = b ∧ ∀ e ∈ r, 0 ≤ e ∧ e < n
def tabIn (b n : Int) (t : Tab) : Prop := (t.length : Int) = n ∧ ∀ r ∈ t, rowIn b n r
theorem ok_of {b n : Int} {ts : List Tab} (b1 : 2 ≤ b) (b2 : b ≤ 10) (n1 : 1 ≤ n) (n2 : n ≤ 12) (t1 : 1 ≤ ts.length) (t2 : ts.length ≤ 6) (h : ∀ t ∈ ts, tabIn b n t) : Ok b ts ∧ (nst ts : Int) = n := by
  have hn : (nst ts : Int) = n := by
    cases ts with
    | nil => simp at t1
    | cons t r => exact (h t List.mem_cons_self).1
  refine ⟨⟨b1, b2, t1, t2, by omega, by omega, fun t ht => ?_, fun t ht r hr => ((h t ht).2 r hr).1, fun t ht r hr e he => ?_⟩, hn⟩
  · have := (h t ht).1
    omega
  · have := ((h t ht).2 r hr).2 e he
    omega
theorem mem_snoc {α : Type} {P : α → Prop} {xs : List α} {x : α} (h : ∀ y ∈ xs, P y) (hx : P x) : ∀ y ∈ xs ++ [x], P y := fun y hy => by
  rcases List.mem_append.mp hy with hy | hy
  · exact h y hy
  · rw [List.mem_singleton.mp hy]
    exact hx
/-! ### _law_figures -/
theorem scFigures : FnScope ["script", "at", "base", "most"] ["script", "at", "base", "most"] (defScope sFigures) := ⟨rfl, rfl, rfl, by decide +kernel, rfl, by decide +kernel, by decide +kernel⟩
theorem ok_figures {f : Addr} {fd : FuncData} (F : Fun K "_law_figures" "_law_figures" sFigures f fd) (B : Blt mg) (h1 : Has P w K mg base "_law_cell_at" 1 ["script", "k"] (spCell K)) :
    FnOk P w K mg base CX0 2 f fd ["script", "at", "base", "most"] (spFigures K) := by
  refine F.ok scFigures (fun vs H Q E h => ?_) (fun cdv A outer s H vs Q E hr h => ?_)
  · obtain ⟨a, ns, at', b, most, rfl, _⟩ := h
    rfl
  · obtain ⟨a, ns, at', b, most, rfl, hS, h0, b1, b2, m1, m2, q⟩ := h
    refine ⟨_, pss_one (ps_ret (pe_comp (N := ["k", "at", "base", "script"]) (js := [none, some 1, some 2, some 0]) rfl rfl (pi_range1 rfl B.range (pa_cons (pe_op op_mod (pe_fn h1 hr (pa_cons (pv 0) (pa_cons (pv 1) pa_nil))) (pe_op op_add (pv 3) pe_int)) pa_nil))
        (fun _ _ _ _ => pg_name (i := 0) (ndOf (N := ["k", "at", "base", "script"]) (by decide +kernel)) rfl (Or.inl rfl)) (fun _ _ _ _ => pts_nil)
        (fun _ _ _ _ => pe_op op_mod (pe_fn h1 hr (pa_cons (pv 3) (pa_cons (pe_op op_add (pe_op op_add (pv 1) pe_int) (pv 0)) pa_nil))) (pv 2)))), ?_⟩
    refine ⟨_, rfl, _, rfl, a, ns, at', rfl, hS, h0, _, rfl, _, _, rfl, rfl, _, _, rfl, rfl, (by show (0 : Int) < most + 1; omega), ?_⟩
    have e1 := Int.emod_nonneg (cel ns at') (show most + 1 ≠ 0 by omega)
    have e2 := Int.emod_lt_of_pos (cel ns at') (show 0 < most + 1 by omega)
    show ∃ j : Int, [V.int (cel ns at' % (most + 1))] = [V.int j] ∧ _
    generalize cel ns at' % (most + 1) = n at e1 e2 ⊢
    refine ⟨n, rfl, by omega, by omega, ?_⟩
    refine block_map (Walk.rng 0 n.toNat) (by omega) rfl (fun k => .int (cel ns (at' + 1 + (0 + (k : Int))) % b)) (fun k H2 Q' hk s2 q' => ?_) (fun D H2 hD s2 hD2 => ?_)
    · exact ⟨_, rfl, _, rfl, _, _, rfl, rfl, _, rfl, _, _, rfl, rfl, a, ns, _, rfl, s2.seq hS, by omega, _, rfl, _, _, rfl, rfl, (by show (0 : Int) < b; omega), q' _ (Same.refl _)⟩
    · refine q D ((List.range n.toNat).map fun k : Nat => cel ns (at' + 1 + (0 + (k : Int))) % b) H2 s2 hD ?_ (fun g hg => ?_) ?_
      · rw [hD2, List.map_map]
        rfl
      · obtain ⟨k, _, rfl⟩ := List.mem_map.mp hg
        exact ⟨Int.emod_nonneg _ (by omega), Int.emod_lt_of_pos _ (by omega)⟩
      · rw [List.length_map, List.length_range]
        omega
/-! ### _law_read -/
end
end My

/-! checks_at, checks -/
namespace My
open PySem L2 PyProof.Rows
/-- the places of 0 in a row -/
def zer (r : List Int) (k : Nat) : Bool := decide (r.getD k 0 = 0)
def chkL (r : List Int) : List Int := ((List.range r.length).filter (zer r)).map fun k : Nat => (k : Int)
def rowOf (ts : List Tab) (t : Nat) (s : Int) : List Int := (ts.getD t []).getD s.toNat []
theorem Ok.row {b : Int} {ts : List Tab} (o : Ok b ts) {t : Nat} {s : Int} (ht : t < ts.length) (s0 : 0 ≤ s) (s1 : s < (nst ts : Int)) : ∃ tab, ts[t]? = some tab ∧ tab[s.toNat]? = some (rowOf ts t s) ∧ ((rowOf ts t s).length : Int) = b := by
  have h1 : ts[t] ∈ ts := List.getElem_mem ht
  have l1 := o.rows _ h1
  have hs : s.toNat < ts[t].length := by omega
  have h2 : ts[t][s.toNat] ∈ ts[t] := List.getElem_mem hs
  have e : rowOf ts t s = ts[t][s.toNat] := by
    unfold rowOf
    simp [List.getD_eq_getElem?_getD, ht, hs]
  rw [e]
  exact ⟨ts[t], by simp [ht], by simp [hs], o.figs _ h1 _ h2⟩
def spChecksAt (K : PySem.W.Frag) : Sp := fun vs H Q _ => ∃ (v : V) (ts : List Tab) (b : Int) (p : Addr) (t : Nat) (s : Int), vs = [v, .ref p] ∧ TabsAt H v ts ∧ Ok b ts ∧ SqT K H p [.int t, .int s] ∧ t < ts.length ∧ 0 ≤ s ∧ s < (nst ts : Int) ∧
  ∀ D H', Same H H' → H D = none → H' D = some (.lst ((chkL (rowOf ts t s)).map V.int)) → Q (.ref D) H'
def spChecks (K : PySem.W.Frag) : Sp := fun vs H Q _ => ∃ (v : V) (ts : List Tab) (b : Int) (a : Addr) (fs : List Int), vs = [v, .ref a] ∧ SchAt H v b ts ∧ Ok b ts ∧ SqL K H a (fs.map V.int) ∧ figsIn b fs ∧
  ∀ D H', Same H H' → H D = none → H' D = some (.lst ((chkL (rowOf ts (fs.length % ts.length) (rd ts 0 0 fs))).map V.int)) → Q (.ref D) H'
section
variable {P : Program} {w : World} {K : PySem.W.Frag} {mg : Str → Option Value} {base : Heap}
end
end My

namespace My
/-! ### slips: the mirror -/
inductive Kd where
  | one | swap | twin | jump | out
  deriving DecidableEq
def wid : Kd → Nat
  | .one => 1 | .swap => 2 | .twin => 2 | .jump => 3 | .out => 1
/-- 0, 1, .. below b -/
def figsOf (b : Int) : List Int := (List.range b.toNat).map fun k : Nat => (k : Int)
def fstI (w : List Int) : Int := w.headD 0
def lstI (w : List Int) : Int := w.getLastD 0
def midI (w : List Int) : List Int := (w.drop 1).take (w.length - 2)
def othersI (b f : Int) : List Int := (figsOf b).filter fun g => decide (g ≠ f)
/-- what is written in the place of the window w (the program's way) -/
def wr (b : Int) (k : Kd) (w : List Int) : List (List Int) := match k with
  | .out => [[]]
  | .one => (othersI b (fstI w)).map fun g => [g]
  | .twin => if fstI w = lstI w then (othersI b (fstI w)).map fun g => [g, g] else []
  | .swap | .jump => if fstI w = lstI w then [] else [[lstI w] ++ midI w ++ [fstI w]]
def spliced (fs : List Int) (p n : Nat) (m : List Int) : List Int := fs.take p ++ m ++ fs.drop (p + n)
def slp (b : Int) (k : Kd) (fs : List Int) : List (List Int) :=
  (List.range (fs.length + 1 - wid k)).flatMap fun p => (wr b k ((fs.drop p).take (wid k))).map (spliced fs p (wid k))
/-- the law's way -/
def mk (b : Int) (k : Kd) (w : List Int) : List (List Int) :=
  ((figsOf b).flatMap fun g => (if k = .one ∧ g ≠ fstI w then [[g]] else []) ++ (if k = .twin ∧ fstI w = w.getD 1 0 ∧ g ≠ fstI w then [[g, g]] else [])) ++
  (if k = .out then [[]] else []) ++ (if (k = .swap ∨ k = .jump) ∧ fstI w ≠ lstI w then [w.reverse] else [])
theorem flat_filter {α β : Type} (p : α → Prop) [DecidablePred p] (f : α → β) : ∀ l : List α, (l.flatMap fun g => if p g then [f g] else []) = (l.filter fun g => decide (p g)).map f
  | [] => rfl
  | x :: l => by
    rw [List.flatMap_cons, flat_filter p f l, List.filter_cons]
    by_cases h : p x <;> simp [h]
theorem flat_nil {α β : Type} : ∀ l : List α, (l.flatMap fun _ => ([] : List β)) = []
  | [] => rfl
  | _ :: l => by rw [List.flatMap_cons, flat_nil l]; rfl
theorem mk_wr {b : Int} {k : Kd} {w : List Int} (h : w.length = wid k) : mk b k w = wr b k w := by
  cases k with
  | one =>
    unfold mk wr othersI
    simp only [reduceCtorEq, false_and, if_false, List.append_nil, true_and, or_self]
    exact flat_filter (fun g => g ≠ fstI w) (fun g => [g]) _
  | twin =>
    unfold mk wr othersI
    match w, h with
    | [x, y], _ =>
      simp only [reduceCtorEq, false_and, if_false, List.append_nil, true_and, or_self, List.nil_append]
      show ((figsOf b).flatMap fun g => if x = y ∧ g ≠ x then [[g, g]] else []) = if x = y then _ else []
      by_cases e : x = y
      · rw [if_pos e]
        simp only [e, true_and]
        exact flat_filter (fun g => g ≠ y) (fun g => [g, g]) _
      · rw [if_neg e]
        simp only [e, false_and, if_false]
        exact flat_nil _
  | out =>
    unfold mk wr
    simp only [reduceCtorEq, false_and, if_false, List.append_nil, or_self, if_true]
    rw [flat_nil]
    rfl
  | swap =>
    unfold mk wr
    match w, h with
    | [x, y], _ =>
      simp only [reduceCtorEq, false_and, if_false, List.append_nil, true_or, true_and]
      rw [flat_nil]
      show (if x ≠ y then [[y, x]] else []) = if x = y then [] else [[y] ++ [] ++ [x]]
      by_cases e : x = y <;> simp [e]
  | jump =>
    unfold mk wr
    match w, h with
    | [x, y, z], _ =>
      simp only [reduceCtorEq, false_and, if_false, List.append_nil, or_true, true_and]
      rw [flat_nil]
      show (if x ≠ z then [[z, y, x]] else []) = if x = z then [] else [[z] ++ [y] ++ [x]]
      by_cases e : x = z <;> simp [e]
end My

set_option maxHeartbeats 1000000
/-! OWN PART 6: the slips -/
namespace L2
open PySem PySem.Spec PyProof.Rows
theorem ifN {c : Bool} {A B : Prop} (h : c = false) (b : B) : if c = true then A else B := by
  subst h
  exact iteF b
theorem ifY {c : Bool} {A B : Prop} (h : c = true) (a : A) : if c = true then A else B := by
  subst h
  exact iteT a
theorem smallM {n : Nat} (h : n ≤ 1000000) : n < sizeLine := Nat.lt_of_le_of_lt h (by rw [sizeLine_eq]; decide)
/-- [y(x) for x in .. if p(x)], the values told by what is true of them -/
theorem block_rel {J : It} {H1 : Hp} {n : Nat} {item : Nat → V} {js : List (Option Nat)} {i : Nat} {tc : TT} {te : TE} {σ : St} {R : VK} (Wk : Walk J H1 n (fun k x _ => x = item k)) (hn : n ≤ 1000) (hi : (cst js σ)[i]? = some none)
    (p : Nat → Bool) (Y : Addr → Nat → V → Hp → Prop)
    (mono : ∀ D k v ys H H', (∀ b o, b ≠ D → H b = some o → H' b = some o) → H D = some (.lst ys) → Y D k v H → Y D k v H')
    (test : ∀ k H2 (Q : Bool → Hp → Prop), k < n → Same H1 H2 → (∀ H3, Same H2 H3 → Q (p k) H3) → tc ((cst js σ).set i (some (item k))) H2 Q)
    (step : ∀ D k ys H2 (Q : VK), k < n → p k = true → H1 D = none → H2 D = some (.lst ys) → Same H1 H2 → (∀ y H3, Same H2 H3 → Y D k y H3 → Q y H3) → te ((cst js σ).set i (some (item k))) H2 Q)
    (fin : ∀ D ys H2, H1 D = none → Same H1 H2 → H2 D = some (.lst ys) → Paired (fun y k => Y D k y H2) ys ((List.range n).filter p) → R (.ref D) H2) : tBlock js (gName i) tc te σ R J H1 := by
  refine block_gen Wk (fun D k ys H2 => H2 D = some (.lst ys) ∧ Paired (fun y k => Y D k y H2) ys ((List.range k).filter p)) (fun D hD => ⟨upd_same, .nil⟩) (fun D k x ys H1' H2 Keep Drop hD hk s1 s2 hys e ex keep drop => ?_) (fun D ys H2 hD s hys e => fin D ys H2 hD s hys e.2)
  subst ex
  obtain ⟨e0, e⟩ := e
  have s := s1.trans s2
  have hl0 : ys.length ≤ k := by
    rw [My.paired_length e]
    exact Nat.le_trans (List.length_filter_le _ _) (by simp)
  have hl : ys.length < sizeLine := Nat.lt_of_le_of_lt hl0 (small1000 (by omega))
  have e1 : List.range (k + 1) = List.range k ++ [k] := List.range_succ
  refine ⟨Ext.set hi, test k H2 _ hk s fun H3 s3 => ?_⟩
  have up : ∀ {H4}, Same H2 H4 → Paired (fun y k => Y D k y H4) ys ((List.range k).filter p) := fun {H4} s4 => My.paired_imp (fun y j hy => mono D j y ys H1' H4 (fun b o _ hb => s4 _ _ (s2 _ _ hb)) e0 hy) e
  cases hp : p k with
  | true =>
    rw [if_pos rfl]
    refine step D k ys H3 _ hk hp hD (s3 _ _ hys) (s.trans s3) fun y H4 s4 hy => keep _ _ (s3.trans s4) hl ⟨upd_same, ?_⟩
    rw [e1, List.filter_append]
    have hD4 : H4 D = some (.lst ys) := s4 _ _ (s3 _ _ hys)
    have fr : ∀ b o, b ≠ D → H4 b = some o → (upd H4 D (.lst (ys ++ [y]))) b = some o := fun b o hb h => by
      rw [upd_ne hb]
      exact h
    have : [k].filter p = [k] := by simp [hp]
    rw [this]
    exact My.paired_snoc (My.paired_imp (fun y j hy => mono D j y ys H4 _ fr hD4 hy) (up (s3.trans s4))) (mono D k y ys H4 _ fr hD4 hy)
  | false =>
    rw [if_neg (by decide)]
    refine drop _ s3 ⟨s3 _ _ hys, ?_⟩
    have : [k].filter p = [] := by simp [hp]
    rw [e1, List.filter_append, this, List.append_nil]
    exact up s3
end L2
namespace My
open PySem L2 PyProof.Rows
/-! ### kinds -/
def kst : Kd → Str
  | .one => "one" | .swap => "swap" | .twin => "twin" | .jump => "jump" | .out => "out"
def WD : List (Str × Int) := [("one", 1), ("swap", 2), ("twin", 2), ("jump", 3), ("out", 1)]
def WDD : List (Str × PyData) := [("one", .int 1), ("swap", .int 2), ("twin", .int 2), ("jump", .int 3), ("out", .int 1)]
structure WidthsAt (P : Program) (w : World) (K : PySem.W.Frag) (mg : Str → Option Value) : Prop where
  at' : ∃ a, mg "WIDTHS" = some (.ref a) ∧ TabK P w K a WD
theorem wd_look (k : Kd) : PySem.Spec.lookup (.str (kst k)) (tabD WD) = some (.int (wid k : Nat)) := by
  cases k <;> with_unfolding_all rfl
/-! ### lists of lists -/
def LL (H : Hp) (as : List Addr) (yss : List (List Int)) : Prop := Paired (fun a ys => H a = some (.lst (ys.map V.int))) as yss
theorem LL.same {H H' : Hp} {as : List Addr} {yss : List (List Int)} (s : Same H H') (h : LL H as yss) : LL H' as yss := paired_imp (fun _ _ e => s _ _ e) h
theorem LL.put {H : Hp} {l : Addr} {o : HO} : ∀ {as : List Addr} {yss : List (List Int)}, LL H as yss → l ∉ as → LL (upd H l o) as yss
  | _, _, .nil, _ => .nil
  | _, _, .cons h t, n => .cons (by
      rw [upd_ne]
      · exact h
      · intro e
        subst e
        exact n List.mem_cons_self) (LL.put t fun z => n (List.mem_cons_of_mem _ z))
theorem LL.length {H : Hp} {as : List Addr} {yss : List (List Int)} (h : LL H as yss) : as.length = yss.length := paired_length h
theorem LL.some {H : Hp} : ∀ {as : List Addr} {yss : List (List Int)}, LL H as yss → ∀ a ∈ as, ∃ ys : List Int, H a = .some (.lst (ys.map V.int))
  | _, _, .nil, _, z => by cases z
  | _, _, .cons h t, a, z => by
    rcases List.mem_cons.mp z with rfl | z
    · exact ⟨_, h⟩
    · exact LL.some t a z
/-- a list of lists, all of them new since H0 and apart -/
structure Told (H0 H : Hp) (D : Addr) (as : List Addr) (yss : List (List Int)) : Prop where
  at' : H D = some (.lst (as.map V.ref))
  newD : H0 D = none
  nd : as.Nodup
  new : ∀ a ∈ as, H0 a = none ∧ a ≠ D
  ll : LL H as yss
theorem ref_getD {as : List Addr} {k : Nat} (h : k < as.length) : (as.map V.ref).getD k .non = V.ref (as.getD k 0) := by
  simp [List.getD_eq_getElem?_getD, List.getElem?_map, List.getElem?_eq_getElem h]
theorem int_getD {ns : List Int} {k : Nat} (h : k < ns.length) : (ns.map V.int).getD k .non = V.int (ns.getD k 0) := by
  simp [List.getD_eq_getElem?_getD, List.getElem?_map, List.getElem?_eq_getElem h]
theorem range_filter_map {α β : Type} (xs : List α) (d : α) (p : α → Bool) (f : α → β) : ((List.range xs.length).filter fun k => p (xs.getD k d)).map (fun k => f (xs.getD k d)) = (xs.filter p).map f := by
  have h : (xs.filter p) = ((List.range xs.length).filter fun k => p (xs.getD k d)).map fun k => xs.getD k d := by
    have e := range_map_getD xs d (fun x => x)
    rw [List.map_id'] at e
    conv => lhs; rw [← e]
    rw [List.filter_map]
    rfl
  rw [h, List.map_map]
  rfl
theorem paired_map_left {α β γ : Type} {F : α → β → Prop} {f : β → γ} {G : α → γ → Prop} (h : ∀ a b, F a b → G a (f b)) : ∀ {l₁ : List α} {l₂ : List β}, Paired F l₁ l₂ → Paired G l₁ (l₂.map f)
  | _, _, .nil => .nil
  | _, _, .cons a t => .cons (h _ _ a) (paired_map_left h t)
/-- values that are lists told by numbers -/
theorem paired_lists {H : Hp} {D : Addr} {N : Addr → Prop} {f : Nat → List Int} : ∀ {ys : List V} {ks : List Nat}, Paired (fun y k => ∃ a, y = V.ref a ∧ a ≠ D ∧ N a ∧ H a = some (.lst ((f k).map V.int))) ys ks → ∃ as : List Addr, ys = as.map V.ref ∧ LL H as (ks.map f) ∧ ∀ a ∈ as, N a
  | _, _, .nil => ⟨[], rfl, .nil, fun _ z => by cases z⟩
  | _, _, .cons ⟨a, e, _, n, h⟩ t => by
    obtain ⟨as, e2, h2, h3⟩ := paired_lists t
    refine ⟨a :: as, by rw [e, e2]; rfl, .cons h h2, fun x hx => ?_⟩
    rcases List.mem_cons.mp hx with rfl | hx
    · exact n
    · exact h3 x hx
theorem lists_mono {f : Nat → List Int} {N : Addr → Prop} (D : Addr) (k : Nat) (v : V) (ys : List V) (H H' : Hp) (fr : ∀ b o, b ≠ D → H b = some o → H' b = some o) (_ : H D = some (.lst ys)) (h : ∃ a, v = V.ref a ∧ a ≠ D ∧ N a ∧ H a = some (.lst ((f k).map V.int))) :
    ∃ a, v = V.ref a ∧ a ≠ D ∧ N a ∧ H' a = some (.lst ((f k).map V.int)) := by
  obtain ⟨a, e, n, m, h⟩ := h
  exact ⟨a, e, n, m, fr a _ n h⟩
/-! ### slices -/
theorem cut_upto (xs : List V) (k : Nat) : cutV xs none (some (k : Int)) = xs.take k := by
  unfold cutV
  rw [HT.sIx_none, HT.sIx_nat, List.drop_zero, Nat.sub_zero, ← List.take_take, List.take_length]
theorem cut_from (xs : List V) (k : Nat) : cutV xs (some (k : Int)) none = xs.drop k := by
  unfold cutV
  rw [HT.sIx_none, HT.sIx_nat]
  by_cases h : k ≤ xs.length
  · rw [Nat.min_eq_left h, List.take_of_length_le (by simp)]
  · rw [Nat.min_eq_right (by omega), List.drop_eq_nil_of_le (by omega), List.drop_eq_nil_of_le (by omega), List.take_nil]
theorem cut_run (xs : List V) {p q : Nat} (h : q ≤ xs.length) : cutV xs (some (p : Int)) (some (q : Int)) = (xs.drop p).take (q - p) := by
  unfold cutV
  rw [HT.sIx_nat, HT.sIx_nat, Nat.min_eq_left h]
  by_cases hp : p ≤ xs.length
  · rw [Nat.min_eq_left hp]
  · rw [Nat.min_eq_right (by omega), List.drop_eq_nil_of_le (by omega), List.drop_eq_nil_of_le (by omega), List.take_nil, List.take_nil]
theorem cut_mid {w : List Int} (h1 : 2 ≤ w.length) (h2 : w.length ≤ 3) : cutV (w.map V.int) (some 1) (some (-1)) = (midI w).map V.int := by
  unfold cutV midI HT.sIx
  rw [List.length_map, ← List.map_drop, ← List.map_take]
  have e1 : (if (1 : Int) < 0 then ((1 : Int) + (w.length : Int)).toNat else min (1 : Int).toNat w.length) = 1 := by
    rw [if_neg (by decide)]
    simp
    omega
  have e2 : (if (-1 : Int) < 0 then ((-1 : Int) + (w.length : Int)).toNat else min (-1 : Int).toNat w.length) = w.length - 1 := by
    rw [if_pos (by decide)]
    omega
  simp only [e1, e2]
  rw [show w.length - 1 - 1 = w.length - 2 by omega]
/-! ### promises -/
def spKind : Sp := fun vs H Q _ => ∃ k : Kd, vs = [.str (kst k)] ∧ Q .non H
def spWritings (K : PySem.W.Frag) : Sp := fun vs H Q _ => ∃ (k : Kd) (a : Addr) (w : List Int) (b : Int), vs = [.str (kst k), .ref a, .int b] ∧ SqL K H a (w.map V.int) ∧ w.length = wid k ∧ 2 ≤ b ∧ b ≤ 10 ∧
  ∀ D as H', Same H H' → H D = none → H' D = some (.lst (as.map V.ref)) → LL H' as (wr b k w) → (∀ a ∈ as, H a = none) → Q (.ref D) H'
def spSlips (K : PySem.W.Frag) : Sp := fun vs H Q _ => ∃ (v : V) (ts : List Tab) (b : Int) (k : Kd) (a : Addr) (fs : List Int), vs = [v, .str (kst k), .ref a] ∧ SchAt H v b ts ∧ Ok b ts ∧ SqL K H a (fs.map V.int) ∧ figsIn b fs ∧ fs.length ≤ 10000 ∧
  ∀ D as H', Same H H' → Told H H' D as (slp b k fs) → Q (.ref D) H'
section
variable {P : Program} {w : World} {K : PySem.W.Frag} {mg : Str → Option Value} {base : Heap}
end
end My

/-! OWN PART (its first half, for k10) 24: weighted schemes, as mathematics -/
set_option maxHeartbeats 1000000
namespace My
open PySem L2 PyProof.Rows
def wRow (b m w s : Int) : List Int := (figsOf b).map fun f => (s + f * w) % m
def wTab (b m w : Int) : Tab := (figsOf m).map fun s => wRow b m w s
def wTabs (b m : Int) (ws : List Int) : List Tab := ws.map (wTab b m)
theorem length_figsOf' (b : Int) : (figsOf b).length = b.toNat := by
  unfold figsOf
  rw [List.length_map, List.length_range]
theorem length_wTab (b m w : Int) : (wTab b m w).length = m.toNat := by
  unfold wTab
  rw [List.length_map, length_figsOf']
theorem nst_w {b m : Int} {ws : List Int} (l1 : 1 ≤ ws.length) : nst (wTabs b m ws) = m.toNat := by
  cases ws with
  | nil => simp at l1
  | cons w r => exact length_wTab b m w
theorem wTabs_ok {b m : Int} {ws : List Int} (b1 : 2 ≤ b) (b2 : b ≤ 10) (m1 : 1 ≤ m) (m2 : m ≤ 12) (l1 : 1 ≤ ws.length) (l2 : ws.length ≤ 6) : Ok b (wTabs b m ws) := by
  have hn := nst_w (b := b) (m := m) l1
  refine ⟨b1, b2, by unfold wTabs; rw [List.length_map]; exact l1, by unfold wTabs; rw [List.length_map]; exact l2, by omega, by omega, fun t ht => ?_, fun t ht r hr => ?_, fun t ht r hr e he => ?_⟩
  · obtain ⟨w, _, rfl⟩ := List.mem_map.mp ht
    rw [hn, length_wTab]
  · obtain ⟨w, _, rfl⟩ := List.mem_map.mp ht
    obtain ⟨s, _, rfl⟩ := List.mem_map.mp hr
    unfold wRow
    rw [List.length_map, length_figsOf']
    omega
  · obtain ⟨w, _, rfl⟩ := List.mem_map.mp ht
    obtain ⟨s, _, rfl⟩ := List.mem_map.mp hr
    obtain ⟨f, _, rfl⟩ := List.mem_map.mp he
    have h1 := Int.emod_nonneg (s + f * w) (show m ≠ 0 by omega)
    have h2 := Int.emod_lt_of_pos (s + f * w) (show 0 < m by omega)
    omega
theorem figsOf_get {b f : Int} (h0 : 0 ≤ f) (h1 : f < b) : (figsOf b)[f.toNat]? = some f := by
  unfold figsOf
  rw [List.getElem?_map, List.getElem?_range (by omega)]
  simp [Int.toNat_of_nonneg h0]
theorem ent_w {b m : Int} {ws : List Int} {t : Nat} {s f : Int} (ht : t < ws.length) (s0 : 0 ≤ s) (s1 : s < m) (f0 : 0 ≤ f) (f1 : f < b) : ent (wTabs b m ws) t s f = (s + f * ws.getD t 0) % m := by
  unfold ent wTabs
  rw [List.getD_eq_getElem?_getD, List.getD_eq_getElem?_getD, List.getD_eq_getElem?_getD, List.getElem?_map, List.getElem?_eq_getElem ht]
  show (((wTab b m ws[t])[s.toNat]?).getD [])[f.toNat]?.getD 0 = _
  unfold wTab
  rw [List.getElem?_map, figsOf_get s0 s1]
  show (wRow b m ws[t] s)[f.toNat]?.getD 0 = _
  unfold wRow
  rw [List.getElem?_map, figsOf_get f0 f1, List.getD_eq_getElem?_getD, List.getElem?_eq_getElem ht]
  rfl
def wsum (ws : List Int) : Nat → List Int → Int
  | _, [] => 0
  | t, f :: fs => f * ws.getD (t % ws.length) 0 + wsum ws (t + 1) fs
theorem rd_w {b m : Int} {ws : List Int} (m1 : 1 ≤ m) (l1 : 1 ≤ ws.length) : ∀ (fs : List Int) (t : Nat) (s : Int), 0 ≤ s → s < m → figsIn b fs → rd (wTabs b m ws) t s fs = (s + wsum ws t fs) % m
  | [], t, s, s0, s1, _ => by
    show s = (s + 0) % m
    rw [Int.add_zero, Int.emod_eq_of_lt s0 s1]
  | f :: fs, t, s, s0, s1, hf => by
    have hl : (wTabs b m ws).length = ws.length := by unfold wTabs; rw [List.length_map]
    show rd (wTabs b m ws) (t + 1) (ent (wTabs b m ws) (t % (wTabs b m ws).length) s f) fs = (s + (f * ws.getD (t % ws.length) 0 + wsum ws (t + 1) fs)) % m
    have h0 := hf f List.mem_cons_self
    rw [hl, ent_w (Nat.mod_lt _ (by omega)) s0 s1 h0.1 h0.2]
    generalize ws.getD (t % ws.length) 0 = w
    rw [rd_w m1 l1 fs (t + 1) _ (Int.emod_nonneg _ (by omega)) (Int.emod_lt_of_pos _ (by omega)) fun g hg => hf g (List.mem_cons_of_mem _ hg)]
    rw [Int.add_emod, Int.emod_emod, ← Int.add_emod, Int.add_assoc]
end My

/-! OWN PART 48: slipseen.making, weighted, also where it refuses -/
set_option maxHeartbeats 2000000
namespace L2
open PySem PySem.Spec PyProof.Rows
section
variable {X : Cx} {o e : Expr} {to : TE} {t : TA} {apos cpos : Pos}
theorem pe_index (ho : PE X o to) (ha : PA X [e] t) (hbase : attributeBase o "index" X.env (eval o X.env) = eval o X.env := by rfl)
    (hfew : ((backTo cpos (starEach [e] X.env)).all (fun x => !x.1) && (backToKw cpos (keywordEach [] X.env)).all (fun x => x.1.isSome)
      && decide (([e] : List Expr).length + ([] : List Keyword).length + (if ([] : List Keyword).isEmpty then 0 else 1) < 30)) = true := by rfl)
    (hline : (apos.endLine == cpos.line) = true := by rfl) (hs : starEach [e] X.env = (false, eval e X.env) :: starEach [] X.env := by rfl) (hplain : (backTo cpos (starEach [] X.env)).any (·.1) = false := by rfl) :
    PE X (.Call (.Attribute o "index" apos) [e] [] cpos) (tBM X.K "list" (rIndex X.K) to t) := pe_bm PySem.F.plainAttrs_list PySem.F.slot_list_index PySem.F.type_list_index mt_index ho ha hbase hfew hline hs hplain
theorem pe_count (ho : PE X o to) (ha : PA X [e] t) (hbase : attributeBase o "count" X.env (eval o X.env) = eval o X.env := by rfl)
    (hfew : ((backTo cpos (starEach [e] X.env)).all (fun x => !x.1) && (backToKw cpos (keywordEach [] X.env)).all (fun x => x.1.isSome)
      && decide (([e] : List Expr).length + ([] : List Keyword).length + (if ([] : List Keyword).isEmpty then 0 else 1) < 30)) = true := by rfl)
    (hline : (apos.endLine == cpos.line) = true := by rfl) (hs : starEach [e] X.env = (false, eval e X.env) :: starEach [] X.env := by rfl) (hplain : (backTo cpos (starEach [] X.env)).any (·.1) = false := by rfl) :
    PE X (.Call (.Attribute o "count" apos) [e] [] cpos) (tBM X.K "list" (rCountL X.K) to t) := pe_bm PySem.F.plainAttrs_list PySem.F.slot_list_count PySem.F.type_list_count mt_count ho ha hbase hfew hline hs hplain
end
end L2
namespace My
open PySem L2 PyProof.Rows
def wOk (b m : Int) (ws : List Int) : Prop := 2 ≤ b ∧ b ≤ 10 ∧ 1 ≤ m ∧ m ≤ 12 ∧ 1 ≤ ws.length ∧ ws.length ≤ 6 ∧ ∀ w ∈ ws, 0 ≤ w ∧ w < m
def spCheckW (K : PySem.W.Frag) : Sp := fun vs H Q _ => ∃ (b m : Int) (W : Addr) (ws : List Int), vs = [.int b, .ref W, .int m] ∧ SqL K H W (ws.map V.int) ∧ wOk b m ws ∧ ∀ H', Same H H' → Q .non H'
def spWRow : Sp := fun vs H Q _ => ∃ (b w m s : Int), vs = [.int b, .int w, .int m, .int s] ∧ 2 ≤ b ∧ b ≤ 10 ∧ 1 ≤ m ∧ ∀ a H', Same H H' → H' a = some (.tup ((wRow b m w s).map V.int)) → Q (.ref a) H'
def spWTab : Sp := fun vs H Q _ => ∃ (b w m : Int), vs = [.int b, .int w, .int m] ∧ 2 ≤ b ∧ b ≤ 10 ∧ 1 ≤ m ∧ m ≤ 12 ∧ ∀ v H', Same H H' → TabAt H' v (wTab b m w) → Q v H'
def spWeighted (K : PySem.W.Frag) : Sp := fun vs H Q _ => ∃ (b m : Int) (W : Addr) (ws : List Int), vs = [.int b, .ref W, .int m] ∧ SqL K H W (ws.map V.int) ∧ wOk b m ws ∧ ∀ v H', Same H H' → SchAt H' v b (wTabs b m ws) → Q v H'
theorem TabAt.fr {H H' : Hp} {D : Addr} {ys : List V} {v : V} {t : Tab} (fr : ∀ b o, b ≠ D → H b = some o → H' b = some o) (hD : H D = some (.lst ys)) (h : TabAt H v t) : TabAt H' v t := by
  have tp : ∀ a xs, H a = some (.tup xs) → H' a = some (.tup xs) := fun a xs e => fr _ _ (ne_of e hD (by intro z; cases z)) e
  obtain ⟨a2, vs2, e2, h2, p2⟩ := h
  refine ⟨a2, vs2, e2, tp _ _ h2, paired_imp (fun x r hx => ?_) p2⟩
  obtain ⟨a3, e3, h3⟩ := hx
  exact ⟨a3, e3, tp _ _ h3⟩
abbrev kitB (K : PySem.W.Frag) (C : Addr) (c : Value) (b : Bool) : Bool := PySem.W.kitOne K (.ref C) c == some b
/-- the classes of errors, as they stand at the top -/
def errsB (K : PySem.W.Frag) (S C c2 c3 c4 c5 c6 : Addr) : Bool :=
  PySem.W.excIn K S bmVE "ValueError.__new__" && (PySem.W.excIn K C bmVE "ValueError.__new__" && ((mroT K C).contains (.ref S) && (PySem.W.findIn K (.ref C) "__getattribute__" == some (some (.builtin "BaseException.__getattribute__")) && (PySem.W.findIn K (.ref C) "__getattr__" == some none && (PySem.W.findIn K (.ref C) "__class__" == some (some (.builtin "object.__class__")) && (PySem.W.mroIn K C (.type "BaseException") == some true && (PySem.W.mroIn K C (.type "object") == some true && ((PySem.W.clsIn K C).isSome && (kitB K C (.ref C) true && (kitB K C (.ref c2) false && (kitB K C (.ref c3) false && (kitB K C (.ref c4) false && (kitB K C (.ref c5) false && (kitB K C (.ref c6) false && kitB K C (.type "ValueError") true))))))))))))))
structure ErrsAt (K : PySem.W.Frag) (mg : Str → Option Value) : Prop where
  at' : ∃ S C c2 c3 c4 c5 c6, mg "SlipError" = some (.ref S) ∧ mg "NoScheme" = some (.ref C) ∧ mg "OtherBase" = some (.ref c2) ∧ mg "NoRoom" = some (.ref c3) ∧ mg "NoKind" = some (.ref c4) ∧ mg "NoFigure" = some (.ref c5) ∧ mg "NoNote" = some (.ref c6) ∧ mg "ValueError" = none ∧
    ExcAt K S (mroT K S) ∧ ExcAt K C (mroT K C) ∧ (mroT K C).contains (.ref S) = true ∧ ExcIs K C ∧ PySem.W.kitOne K (.ref C) (.ref C) = some true ∧ PySem.W.kitOne K (.ref C) (.ref c2) = some false ∧ PySem.W.kitOne K (.ref C) (.ref c3) = some false ∧ PySem.W.kitOne K (.ref C) (.ref c4) = some false ∧ PySem.W.kitOne K (.ref C) (.ref c5) = some false ∧ PySem.W.kitOne K (.ref C) (.ref c6) = some false ∧ PySem.W.kitOne K (.ref C) (.type "ValueError") = some true
theorem errs_mk {K : PySem.W.Frag} {mg : Str → Option Value} {S C c2 c3 c4 c5 c6 : Addr} (m0 : mg "SlipError" = some (.ref S)) (m1 : mg "NoScheme" = some (.ref C)) (m2 : mg "OtherBase" = some (.ref c2)) (m3 : mg "NoRoom" = some (.ref c3)) (m4 : mg "NoKind" = some (.ref c4)) (m5 : mg "NoFigure" = some (.ref c5)) (m6 : mg "NoNote" = some (.ref c6)) (mv : mg "ValueError" = none) (e : errsB K S C c2 c3 c4 c5 c6 = true) : ErrsAt K mg := by
  unfold errsB kitB at e
  simp only [Bool.and_eq_true, beq_iff_eq] at e
  obtain ⟨e1, e2, e3, e4, e5, e6, e7, e8, e9, e10, e11, e12, e13, e14, e15, e16⟩ := e
  exact ⟨S, C, c2, c3, c4, c5, c6, m0, m1, m2, m3, m4, m5, m6, mv, ⟨e1, rfl⟩, ⟨e2, rfl⟩, e3, ⟨e4, e5, e6, e7, e8, e9⟩, e10, e11, e12, e13, e14, e15, e16⟩
def spCheckWX (K : PySem.W.Frag) (mg : Str → Option Value) : Sp := fun vs H Q E => ∃ (b m : Int) (W : Addr) (ws : List Int), vs = [.int b, .ref W, .int m] ∧ SqL K H W (ws.map V.int) ∧ ws.length ≤ 1000 ∧ (wOk b m ws → ∀ H', Same H H' → Q .non H') ∧ (¬ wOk b m ws → ∀ C H', mg "NoScheme" = some (.ref C) → Same H H' → E (.ref C) none H')
def spWeightedX (K : PySem.W.Frag) (mg : Str → Option Value) : Sp := fun vs H Q E => ∃ (b m : Int) (W : Addr) (ws : List Int), vs = [.int b, .ref W, .int m] ∧ SqL K H W (ws.map V.int) ∧ ws.length ≤ 1000 ∧ (wOk b m ws → ∀ v H', Same H H' → SchAt H' v b (wTabs b m ws) → Q v H') ∧ (¬ wOk b m ws → ∀ C H', mg "NoScheme" = some (.ref C) → Same H H' → E (.ref C) none H')
def spTold (K : PySem.W.Frag) : Sp := fun vs H Q _ => ∃ (b m : Int) (W : Addr) (ws : List Int), vs = [.int b, .ref W, .int m] ∧ SqL K H W (ws.map V.int) ∧ ws.length ≤ 1000 ∧ (wOk b m ws → ∀ v H', Same H H' → SchAt H' v b (wTabs b m ws) → Q v H') ∧ (¬ wOk b m ws → ∀ l H', Same H H' → H' l = some (.lst [.int 0, .int 1, .int 1]) → Q (.ref l) H')
section
variable {P : Program} {w : World} {K : PySem.W.Frag} {mg : Str → Option Value} {base : Heap}
abbrev s_check_weighting : Stmt := top 25
theorem sc_check_weighting : FnScope ["base", "weights", "modulus"] ["base", "weights", "modulus"] (defScope s_check_weighting) := ⟨rfl, rfl, rfl, by decide +kernel, rfl, by decide +kernel, by decide +kernel⟩
theorem ok_check_weighting {f : Addr} {fd : FuncData} (F : Fun K "check_weighting" "check_weighting" s_check_weighting f fd) (B : Blt mg) (Nm : Nums mg) (Er : ErrsAt K mg) (h_is_whole : Has P w K mg base "is_whole" 1 ["value", "least", "most"] spWhole) :
    FnOk P w K mg base (CXR P w) 2 f fd ["base", "weights", "modulus"] (spCheckWX K mg) := by
  refine F.okX sc_check_weighting (fun vs H Q E h => ?_) (fun cdv A outer s H vs Q E hr h L => ?_)
  · obtain ⟨_, _, _, _, rfl, _⟩ := h
    rfl
  · obtain ⟨b, m, W, ws, rfl, hW, hlw, q, qE⟩ := h
    have nd := sc_check_weighting.nd
    obtain ⟨t2, m2'⟩ := Nm.lb
    obtain ⟨t10, m10⟩ := Nm.mb
    obtain ⟨t6, m6⟩ := Nm.mt
    obtain ⟨t12, m12⟩ := Nm.ms
    have m2 := m2'
    obtain ⟨S, C, _, _, _, _, _, _, m_NoScheme, _, _, _, _, _, _, _, x_NoScheme, _⟩ := Er.at'
    have no : ¬ wOk b m ws → ∀ H', Same H H' → ∀ z : V, [z].length ≤ sizeLine ∧ E (.ref C) none H' := fun n H' s' z => ⟨by show 1 ≤ sizeLine; decide, qE n C H' m_NoScheme s'⟩
    refine ⟨_, (pss_cons (ps_if (pt_not (pt_val (pe_fn h_is_whole (hr.mono (by decide)) (pa_cons (pv 0) (pa_cons (pe_glob (v := .int 2) rfl m2 ⟨_, rfl⟩) (pa_cons (pe_glob (v := .int 10) rfl m10 ⟨_, rfl⟩) pa_nil)))))) (pss_one (ps_raise L rfl rfl m_NoScheme x_NoScheme (pa_cons pe_str pa_nil))) pss_nil)
      (pss_cons (ps_if (pt_not (pt_val (pe_fn h_is_whole (hr.mono (by decide)) (pa_cons (pv 2) (pa_cons pe_int (pa_cons (pe_glob (v := .int 12) rfl m12 ⟨_, rfl⟩) pa_nil)))))) (pss_one (ps_raise L rfl rfl m_NoScheme x_NoScheme (pa_cons pe_str pa_nil))) pss_nil)
      (pss_cons (ps_if (pt_not (pt_chain op_le op_le pe_int (pe_callB call_len_seq rfl B.len PySem.boot_len (pa_cons (pv 1) pa_nil)) (pe_glob (v := .int 6) rfl m6 ⟨_, rfl⟩))) (pss_one (ps_raise L rfl rfl m_NoScheme x_NoScheme (pa_cons pe_str pa_nil))) pss_nil)
      (pss_one (ps_if (pt_not (pt_val (pe_callB (call_all rfl) rfl B.all boot_all (pa_cons (pe_comp (N := ["weight", "modulus"]) (js := [none, some 2]) rfl rfl (pi_list (pv 1)) (fun _ _ _ _ => (pg_name (i := 0) (ndOf (N := ["weight", "modulus"]) (by decide +kernel)) rfl (Or.inl rfl))) (fun _ _ _ _ => pts_nil) (fun _ _ _ _ => (pe_fn h_is_whole (hr.mono (by decide)) (pa_cons (pv 0) (pa_cons pe_int (pa_cons (pe_op op_sub (pv 1) pe_int) pa_nil)))))) pa_nil)))) (pss_one (ps_raise L rfl rfl m_NoScheme x_NoScheme (pa_cons pe_str pa_nil))) pss_nil))))), ?_⟩
    refine ⟨_, rfl, b, 2, 10, rfl, _, rfl, ?_⟩
    cases hb : wholeB b 2 10 with
    | false => exact ifY rfl (no (fun ok => by rw [wholeB_iff.mpr ⟨ok.1, ok.2.1⟩] at hb; cases hb) H (Same.refl _) _)
    | true =>
    obtain ⟨b1, b2⟩ := wholeB_iff.mp hb
    refine iteF ?_
    refine ⟨_, rfl, m, 1, 12, rfl, _, rfl, ?_⟩
    cases hm : wholeB m 1 12 with
    | false => exact ifY rfl (no (fun ok => by rw [wholeB_iff.mpr ⟨ok.2.2.1, ok.2.2.2.1⟩] at hm; cases hm) H (Same.refl _) _)
    | true =>
    obtain ⟨m1, m2x⟩ := wholeB_iff.mp hm
    refine iteF ?_
    refine ⟨_, rfl, _, _, rfl, .inl hW, _, _, rfl, rfl, _, rfl, ?_⟩
    by_cases l1 : 1 ≤ ws.length
    case neg => exact ifN (by simp; omega) ⟨_, rfl, ifY rfl (no (fun ok => l1 ok.2.2.2.2.1) H (Same.refl _) _)⟩
    refine ifY (by simp; omega) ⟨_, _, rfl, rfl, _, rfl, ?_⟩
    by_cases l2 : ws.length ≤ 6
    case neg => exact ifY (by simp; omega) (no (fun ok => l2 ok.2.2.2.2.2.1) H (Same.refl _) _)
    refine ifN (by simp; omega) ?_
    have wk := Walk.lst (K := K) hW
    rw [List.length_map] at wk
    refine ⟨_, rfl, W, rfl, ⟨_, hW⟩, ?_⟩
    refine block_map wk (by omega) rfl (fun k => .bl (wholeB (ws.getD k 0) 0 (m - 1))) (fun k H2 Q' hk s2 q' => ?_) (fun D H2 hD s2 hD2 => ?_)
    · refine ⟨_, rfl, _, rfl, _, _, rfl, rfl, ws.getD k 0, 0, m - 1, ?_, q' _ (Same.refl _)⟩
      rw [int_getD hk]
      rfl
    · refine ⟨D, ws.map fun e => wholeB e 0 (m - 1), rfl, SqL.of ?_, _, rfl, ?_⟩
      · rw [hD2, ← range_map_getD ws 0 (fun e => wholeB e 0 (m - 1)), List.map_map]
        rfl
      · cases ha : (ws.map fun e => wholeB e 0 (m - 1)).all id with
        | true =>
          refine ifN rfl (q ⟨b1, b2, m1, m2x, l1, l2, fun w hw => ?_⟩ H2 s2)
          have := wholeB_iff.mp (List.all_eq_true.mp ha _ (List.mem_map_of_mem (f := fun e => wholeB e 0 (m - 1)) hw))
          exact ⟨this.1, by omega⟩
        | false =>
          refine ifY rfl (no (fun ok => ?_) H2 s2 _)
          have : (ws.map fun e => wholeB e 0 (m - 1)).all id = true := by
            rw [List.all_eq_true]
            intro x hx
            obtain ⟨e, he, rfl⟩ := List.mem_map.mp hx
            have := ok.2.2.2.2.2.2 e he
            exact wholeB_iff.mpr ⟨this.1, by omega⟩
          rw [this] at ha
          cases ha
abbrev s_weighted_row : Stmt := top 26
theorem sc_weighted_row : FnScope ["base", "weight", "modulus", "state"] ["base", "weight", "modulus", "state"] (defScope s_weighted_row) := ⟨rfl, rfl, rfl, by decide +kernel, rfl, by decide +kernel, by decide +kernel⟩
theorem ok_weighted_row {f : Addr} {fd : FuncData} (F : Fun K "weighted_row" "weighted_row" s_weighted_row f fd) (B : Blt mg)   :
    FnOk P w K mg base CX0 1 f fd ["base", "weight", "modulus", "state"] spWRow := by
  refine F.ok sc_weighted_row (fun vs H Q E h => ?_) (fun cdv A outer s H vs Q E hr h => ?_)
  · obtain ⟨_, _, _, _, rfl, _⟩ := h
    rfl
  · obtain ⟨b, w', m, s', rfl, b1, b2, m1, q⟩ := h
    have nd := sc_weighted_row.nd
    refine ⟨_, (pss_one (ps_ret (pe_callTy call_tuple_of rfl B.tTuple boot_tuple (pa_cons (pe_comp (N := ["figure", "modulus", "state", "weight"]) (js := [none, some 2, some 3, some 1]) rfl rfl (pi_range1 rfl B.range (pa_cons (pv 0) pa_nil)) (fun _ _ _ _ => (pg_name (i := 0) (ndOf (N := ["figure", "modulus", "state", "weight"]) (by decide +kernel)) rfl (Or.inl rfl))) (fun _ _ _ _ => pts_nil) (fun _ _ _ _ => (pe_op op_mod (pe_op op_add (pv 2) (pe_op op_mul (pv 0) (pv 3))) (pv 1)))) pa_nil)))), ?_⟩
    refine ⟨_, rfl, b, rfl, by omega, by omega, ?_⟩
    refine block_map (Walk.rng 0 b.toNat) (by omega) rfl (fun k => .int ((s' + (0 + (k : Int)) * w') % m)) (fun k H2 Q' hk s2 q' => ?_) (fun D H2 hD s2 hD2 => ?_)
    · refine ⟨_, rfl, _, rfl, _, rfl, _, _, rfl, rfl, .inl ⟨by omega, by omega⟩, _, _, rfl, rfl, _, rfl, _, _, rfl, rfl, by omega, ?_⟩
      exact q' _ (Same.refl _)
    · refine ⟨D, _, rfl, .inl ⟨SqL.of hD2, fun l hl => ?_⟩⟩
      refine q l _ (s2.put (s2.free hl)) ?_
      rw [upd_same]
      congr 2
      unfold wRow figsOf
      rw [List.map_map, List.map_map]
      refine List.map_congr_left fun k _ => ?_
      show V.int ((s' + (0 + (k : Int)) * w') % m) = V.int ((s' + (k : Int) * w') % m)
      rw [Int.zero_add]
abbrev s_weighted_table : Stmt := top 27
theorem sc_weighted_table : FnScope ["base", "weight", "modulus"] ["base", "weight", "modulus"] (defScope s_weighted_table) := ⟨rfl, rfl, rfl, by decide +kernel, rfl, by decide +kernel, by decide +kernel⟩
theorem ok_weighted_table {f : Addr} {fd : FuncData} (F : Fun K "weighted_table" "weighted_table" s_weighted_table f fd) (B : Blt mg)  (h_weighted_row : Has P w K mg base "weighted_row" 1 ["base", "weight", "modulus", "state"] spWRow) :
    FnOk P w K mg base CX0 2 f fd ["base", "weight", "modulus"] spWTab := by
  refine F.ok sc_weighted_table (fun vs H Q E h => ?_) (fun cdv A outer s H vs Q E hr h => ?_)
  · obtain ⟨_, _, _, rfl, _⟩ := h
    rfl
  · obtain ⟨b, w', m, rfl, b1, b2, m1, m2, q⟩ := h
    have nd := sc_weighted_table.nd
    refine ⟨_, (pss_one (ps_ret (pe_callTy call_tuple_of rfl B.tTuple boot_tuple (pa_cons (pe_comp (N := ["state", "base", "weight", "modulus"]) (js := [none, some 0, some 1, some 2]) rfl rfl (pi_range1 rfl B.range (pa_cons (pv 2) pa_nil)) (fun _ _ _ _ => (pg_name (i := 0) (ndOf (N := ["state", "base", "weight", "modulus"]) (by decide +kernel)) rfl (Or.inl rfl))) (fun _ _ _ _ => pts_nil) (fun _ _ _ _ => (pe_fn h_weighted_row (hr.mono (by decide)) (pa_cons (pv 1) (pa_cons (pv 2) (pa_cons (pv 3) (pa_cons (pv 0) pa_nil))))))) pa_nil)))), ?_⟩
    refine ⟨_, rfl, m, rfl, by omega, by omega, ?_⟩
    refine block_rel (Walk.rng 0 m.toNat) (by omega) rfl (fun _ => true) (fun D k y H' => RowAt H' y (wRow b m w' (k : Int))) (fun D k v ys H1 H2 fr hD h => ?_) (fun k H3 Q' _ _ q' => q' _ (Same.refl _)) (fun D k ys H3 Q' hk' _ hD hD3 s3 q' => ?_) (fun D ys H3 hD s3 hDl pr => ?_)
    · obtain ⟨a, e, h⟩ := h
      exact ⟨a, e, fr _ _ (ne_of h hD (by intro z; cases z)) h⟩
    · refine ⟨_, rfl, _, rfl, _, rfl, _, rfl, b, w', m, (k : Int), ?_, b1, b2, m1, fun a H4 s4 ha => q' _ _ s4 ⟨a, rfl, ha⟩⟩
      rw [Int.zero_add]
      rfl
    · rw [List.filter_eq_self.mpr (fun _ _ => rfl)] at pr
      refine ⟨D, ys, rfl, .inl ⟨SqL.of hDl, fun l hl => ?_⟩⟩
      have s4 := Same.new (o := HO.tup ys) hl
      refine q (.ref l) _ (s3.trans s4) ⟨l, ys, rfl, upd_same, ?_⟩
      have := paired_map_left (f := fun k : Nat => wRow b m w' (k : Int)) (G := fun y r => RowAt H3 y r) (fun a b h => h) pr
      have e : (List.range m.toNat).map (fun k : Nat => wRow b m w' (k : Int)) = wTab b m w' := by
        unfold wTab figsOf
        rw [List.map_map]
        rfl
      rw [e] at this
      exact paired_imp (fun _ _ h => h.same s4) this
abbrev s_weighted : Stmt := top 28
theorem sc_weighted : FnScope ["base", "weights", "modulus"] ["base", "weights", "modulus"] (defScope s_weighted) := ⟨rfl, rfl, rfl, by decide +kernel, rfl, by decide +kernel, by decide +kernel⟩
theorem ok_weighted {f : Addr} {fd : FuncData} (F : Fun K "weighted" "weighted" s_weighted f fd) (B : Blt mg)  (h_check_weighting : HasX P w K mg base "check_weighting" 2 ["base", "weights", "modulus"] (spCheckWX K mg)) (h_weighted_table : Has P w K mg base "weighted_table" 2 ["base", "weight", "modulus"] spWTab) :
    FnOk P w K mg base (CXR P w) 4 f fd ["base", "weights", "modulus"] (spWeightedX K mg) := by
  refine F.okX sc_weighted (fun vs H Q E h => ?_) (fun cdv A outer s H vs Q E hr h L => ?_)
  · obtain ⟨_, _, _, _, rfl, _⟩ := h
    rfl
  · obtain ⟨b, m, W, ws, rfl, hW, hlw, q, qE⟩ := h
    have nd := sc_weighted.nd
    refine ⟨_, (pss_cons (ps_expr (pe_fnX h_check_weighting (hr.mono (by decide)) L.pass (pa_cons (pv 0) (pa_cons (pv 1) (pa_cons (pv 2) pa_nil)))))
      (pss_one (ps_ret (pe_tup (pa_cons (pv 0) (pa_cons (pe_callTy call_tuple_of rfl B.tTuple boot_tuple (pa_cons (pe_comp (N := ["weight", "base", "modulus"]) (js := [none, some 0, some 2]) rfl rfl (pi_list (pv 1)) (fun _ _ _ _ => (pg_name (i := 0) (ndOf (N := ["weight", "base", "modulus"]) (by decide +kernel)) rfl (Or.inl rfl))) (fun _ _ _ _ => pts_nil) (fun _ _ _ _ => (pe_fn h_weighted_table (hr.mono (by decide)) (pa_cons (pv 1) (pa_cons (pv 0) (pa_cons (pv 2) pa_nil)))))) pa_nil)) pa_nil)))))), ?_⟩
    refine ⟨_, rfl, _, rfl, _, rfl, b, m, W, ws, rfl, hW, hlw, fun ok H1 s1 => ?_, qE⟩
    obtain ⟨b1, b2, m1, m2, l1, l2, hw⟩ := id ok
    have wk := Walk.lst (K := K) (s1.seq hW)
    rw [List.length_map] at wk
    refine ⟨_, rfl, _, rfl, W, rfl, ⟨_, s1.seq hW⟩, ?_⟩
    refine block_rel wk (by omega) rfl (fun _ => true) (fun D k y H' => TabAt H' y (wTab b m (ws.getD k 0))) (fun D k v ys H1 H2 fr hD h => h.fr fr hD) (fun k H3 Q' _ _ q' => q' _ (Same.refl _)) (fun D k ys H3 Q' hk' _ hD hD3 s3 q' => ?_) (fun D ys H3 hD s3 hDl pr => ?_)
    · refine ⟨_, rfl, _, rfl, _, rfl, b, ws.getD k 0, m, ?_, b1, b2, m1, m2, fun v H4 s4 hv => q' _ _ s4 hv⟩
      rw [int_getD hk']
      rfl
    · rw [List.filter_eq_self.mpr (fun _ _ => rfl)] at pr
      refine ⟨D, ys, rfl, .inl ⟨SqL.of hDl, fun l hl => ⟨(by show 2 ≤ sizeLine; decide), fun t ht => ?_⟩⟩⟩
      have s4 := Same.new (o := HO.tup ys) hl
      have s5 := Same.new (o := HO.tup [V.int b, V.ref l]) ht
      refine q ok (.ref t) _ (s1.trans ((s3.trans s4).trans s5)) ⟨t, .ref l, rfl, upd_same, l, ys, rfl, s5 _ _ upd_same, ?_⟩
      have := paired_map_left (f := fun k : Nat => wTab b m (ws.getD k 0)) (G := fun y r => TabAt H3 y r) (fun a b h => h) pr
      rw [range_map_getD ws 0 (wTab b m)] at this
      exact paired_imp (fun _ _ h => h.same (s4.trans s5)) this
abbrev s__law_told : Stmt := top 33
theorem sc__law_told : FnScope ["base", "weights", "modulus", "e", "kinds"] ["base", "weights", "modulus"] (defScope s__law_told) := ⟨rfl, rfl, rfl, by decide +kernel, rfl, by decide +kernel, by decide +kernel⟩
theorem ok__law_told {f : Addr} {fd : FuncData} (F : Fun K "_law_told" "_law_told" s__law_told f fd) (B : Blt mg) (Er : ErrsAt K mg) (h_weighted : HasX P w K mg base "weighted" 4 ["base", "weights", "modulus"] (spWeightedX K mg)) :
    FnOk P w K mg base CX0 5 f fd ["base", "weights", "modulus"] (spTold K) := by
  refine F.ok sc__law_told (fun vs H Q E h => ?_) (fun cdv A outer s H vs Q E hr h => ?_)
  · obtain ⟨_, _, _, _, rfl, _⟩ := h
    rfl
  · obtain ⟨b, m, W, ws, rfl, hW, hlw, q, qE⟩ := h
    have nd := sc__law_told.nd
    obtain ⟨S, C, c_OtherBase, c_NoRoom, c_NoKind, c_NoFigure, c_NoNote, m_SlipError, m_NoScheme, m_OtherBase, m_NoRoom, m_NoKind, m_NoFigure, m_NoNote, mVE, x_SlipError, x_NoScheme, hin, xI, k1, k2, k3, k4, k5, k6, kV⟩ := Er.at'
    obtain ⟨c_NoScheme, ec⟩ : ∃ c, c = C := ⟨_, rfl⟩
    subst ec
    refine ⟨_, (pss_one (ps_try (i := 3) (fun _ _ _ hp => (pss_one (ps_ret (pe_fnX h_weighted (hr.mono (by decide)) hp (pa_cons (pv 0) (pa_cons (pv 1) (pa_cons (pv 2) pa_nil))))))) (fun _ _ => (pss_cons (ps_set (i := 4) nd rfl (Or.inl rfl) (pe_lst (pa_cons (pe_callB call_isexc rfl B.isi boot_isinstance (pa_cons (pv 3) (pa_cons (pe_glob (v := .ref c_NoScheme) rfl m_NoScheme rfl) pa_nil))) (pa_cons (pe_callB call_isexc rfl B.isi boot_isinstance (pa_cons (pv 3) (pa_cons (pe_glob (v := .ref c_OtherBase) rfl m_OtherBase rfl) pa_nil))) (pa_cons (pe_callB call_isexc rfl B.isi boot_isinstance (pa_cons (pv 3) (pa_cons (pe_glob (v := .ref c_NoRoom) rfl m_NoRoom rfl) pa_nil))) (pa_cons (pe_callB call_isexc rfl B.isi boot_isinstance (pa_cons (pv 3) (pa_cons (pe_glob (v := .ref c_NoKind) rfl m_NoKind rfl) pa_nil))) pa_nil))))))
      (pss_cons (ps_set (i := 4) nd rfl (Or.inl rfl) (pe_op op_cat (pv 4) (pe_lst (pa_cons (pe_callB call_isexc rfl B.isi boot_isinstance (pa_cons (pv 3) (pa_cons (pe_glob (v := .ref c_NoFigure) rfl m_NoFigure rfl) pa_nil))) (pa_cons (pe_callB call_isexc rfl B.isi boot_isinstance (pa_cons (pv 3) (pa_cons (pe_glob (v := .ref c_NoNote) rfl m_NoNote rfl) pa_nil))) pa_nil)))))
      (pss_one (ps_ret (pe_lst (pa_cons (pe_index (pv 4) (pa_cons pe_bl pa_nil)) (pa_cons (pe_count (pv 4) (pa_cons pe_bl pa_nil)) (pa_cons (pe_callTy call_int1 rfl B.tInt boot_int (pa_cons (pe_callB call_isexc rfl B.isi boot_isinstance (pa_cons (pv 3) (pa_cons (pe_ty mVE PyProof.Rows.Boot.«ValueError») pa_nil))) pa_nil)) pa_nil))))))))) rfl rfl rfl nd rfl rfl rfl m_SlipError x_SlipError)), ?_⟩
    refine ⟨_, rfl, _, rfl, _, rfl, b, m, W, ws, rfl, hW, hlw, q, fun nok C' H1 mC s1 => ?_⟩
    have eC : C' = c_NoScheme := by rw [m_NoScheme] at mC; cases mC; rfl
    subst eC
    refine ⟨C', _, rfl, x_NoScheme, hin, fun pn a ha => ?_⟩
    have s2 := s1.trans (Same.new (o := HO.ext (excφ a C')) ha)
    have ga : ∀ {H2 : Hp}, Same (upd H1 a (.ext (excφ a C'))) H2 → H2 a = some (.ext (excφ a C')) := fun z => z _ _ upd_same
    refine ⟨_, rfl, a, C', _, true, rfl, ga (Same.refl _), xI, (fun u hu => by cases hu; exact k1), _, rfl, a, C', _, false, rfl, ga (Same.refl _), xI, (fun u hu => by cases hu; exact k2), _, rfl, a, C', _, false, rfl, ga (Same.refl _), xI, (fun u hu => by cases hu; exact k3), _, rfl, a, C', _, false, rfl, ga (Same.refl _), xI, (fun u hu => by cases hu; exact k4), (by show 4 ≤ sizeLine; decide), fun l hl => ?_⟩
    have t1 := Same.new (o := HO.lst [V.bl true, V.bl false, V.bl false, V.bl false]) hl
    refine ⟨_, rfl, _, rfl, a, C', _, false, rfl, ga t1, xI, (fun u hu => by cases hu; exact k5), _, rfl, a, C', _, false, rfl, ga t1, xI, (fun u hu => by cases hu; exact k6), (by show 2 ≤ sizeLine; decide), fun l2 hl2 => ?_⟩
    have t2 := Same.new (o := HO.lst [V.bl false, V.bl false]) hl2
    refine ⟨l, l2, _, _, rfl, rfl, t2 _ _ upd_same, upd_same, (by show 6 ≤ sizeLine; decide), fun R hR => ?_⟩
    have t3 := Same.new (o := HO.lst ([V.bl true, V.bl false, V.bl false, V.bl false] ++ [V.bl false, V.bl false])) hR
    refine ⟨_, rfl, .inl ⟨rfl, _, SqL.of upd_same⟩, R, _, V.bl true, 0, V.bl true, rfl, rfl, SqL.of upd_same, rfl, rfl, rfl, rfl, (fun i z h _ => absurd h (Nat.not_lt_zero _)), ?_⟩
    refine ⟨_, rfl, .inl ⟨rfl, _, SqL.of upd_same⟩, R, _, V.bl true, rfl, rfl, SqL.of upd_same, rfl, rfl, ?_⟩
    refine ⟨_, rfl, a, C', _, true, rfl, ga ((t1.trans t2).trans t3), xI, (fun u hu => by cases hu; exact kV), .inr ⟨_, rfl, (by show 3 ≤ sizeLine; decide), fun l3 hl3 => ?_⟩⟩
    exact qE nok l3 _ ((((s2.trans t1).trans t2).trans t3).trans (Same.new hl3)) upd_same
end
end My

/-! OWN PART 49: k10's law, what is drawn -/
set_option maxHeartbeats 4000000
namespace My
open PySem L2 PyProof.Rows
def spGiven (K : PySem.W.Frag) : Sp := fun vs H Q _ => ∃ (a : Addr) (ns : List Int), vs = [.ref a] ∧ SqL K H a (ns.map V.int) ∧
  ∀ t W b m ws bad H', Same H H' → H' t = some (.tup [.int b, .ref W, .int m, .bl bad]) → H' W = some (.lst (ws.map V.int)) → ws.length ≤ 7 → (bad = true → ¬ wOk b m ws) → (bad = false → wOk b m ws) → Q (.ref t) H'
section
variable {P : Program} {w : World} {K : PySem.W.Frag} {mg : Str → Option Value} {base : Heap}
abbrev s__law_given : Stmt := top 32
theorem sc__law_given : FnScope ["script", "base", "modulus", "weights", "fault", "far", "side"] ["script"] (defScope s__law_given) := ⟨rfl, rfl, rfl, by decide +kernel, rfl, by decide +kernel, by decide +kernel⟩
theorem ok__law_given {f : Addr} {fd : FuncData} (F : Fun K "_law_given" "_law_given" s__law_given f fd) (B : Blt mg)  (h__law_cell_at : Has P w K mg base "_law_cell_at" 1 ["script", "k"] (spCell K)) :
    FnOk P w K mg base CX0 2 f fd ["script"] (spGiven K) := by
  refine F.ok sc__law_given (fun vs H Q E h => ?_) (fun cdv A outer s H vs Q E hr h => ?_)
  · obtain ⟨_, _, rfl, _⟩ := h
    rfl
  · obtain ⟨a, ns, rfl, hSq, q⟩ := h
    have nd := sc__law_given.nd
    refine ⟨_, (pss_cons (ps_set (i := 1) nd rfl (Or.inl rfl) (pe_op op_add pe_int (pe_op op_mod (pe_fn h__law_cell_at (hr.mono (by decide)) (pa_cons (pv 0) (pa_cons pe_int pa_nil))) pe_int)))
      (pss_cons (ps_set (i := 2) nd rfl (Or.inr rfl) (pe_op op_add pe_int (pe_op op_mod (pe_fn h__law_cell_at (hr.mono (by decide)) (pa_cons (pv 0) (pa_cons pe_int pa_nil))) pe_int)))
      (pss_cons (ps_setC (i := 3) (N := ["k", "modulus", "script"]) (js := [none, some 2, some 0]) nd rfl rfl rfl rfl (pi_range1 rfl B.range (pa_cons (pe_op op_add pe_int (pe_op op_mod (pe_fn h__law_cell_at (hr.mono (by decide)) (pa_cons (pv 0) (pa_cons pe_int pa_nil))) pe_int)) pa_nil)) (fun _ _ _ _ => (pg_name (i := 0) (ndOf (N := ["k", "modulus", "script"]) (by decide +kernel)) rfl (Or.inl rfl))) (fun _ _ _ _ => pts_nil) (fun _ _ _ _ => (pe_op op_mod (pe_fn h__law_cell_at (hr.mono (by decide)) (pa_cons (pv 2) (pa_cons (pe_op op_add pe_int (pv 0)) pa_nil))) (pv 1))))
      (pss_cons (ps_set (i := 4) nd rfl (Or.inl rfl) (pe_op op_mod (pe_fn h__law_cell_at (hr.mono (by decide)) (pa_cons (pv 0) (pa_cons pe_int pa_nil))) pe_int))
      (pss_cons (ps_set (i := 5) nd rfl (Or.inl rfl) (pe_op op_mod (pe_op op_fdiv (pe_fn h__law_cell_at (hr.mono (by decide)) (pa_cons (pv 0) (pa_cons pe_int pa_nil))) pe_int) (pe_op op_pow pe_int pe_int)))
      (pss_cons (ps_set (i := 6) nd rfl (Or.inl rfl) (pe_op op_mod (pe_fn h__law_cell_at (hr.mono (by decide)) (pa_cons (pv 0) (pa_cons pe_int pa_nil))) pe_int))
      (pss_cons (ps_if (pt_cmpR op_eq (pv 4) pe_int (nomark _)) (pss_one (ps_set (i := 1) nd rfl (Or.inl rfl) (pe_ix ix_list (pe_lst (pa_cons pe_int (pa_cons pe_int (pa_cons (pe_op op_add pe_int (pv 5)) (pa_cons (pe_op op_sub (pe_un un_neg pe_int) (pv 5)) pa_nil))))) (pv 6) (fun _ _ => rfl)))) pss_nil)
      (pss_cons (ps_if (pt_cmpR op_eq (pv 4) pe_int (nomark _)) (pss_cons (ps_set (i := 2) nd rfl (Or.inr rfl) (pe_ix ix_list (pe_lst (pa_cons pe_int (pa_cons (pe_op op_sub (pe_un un_neg pe_int) (pv 5)) (pa_cons (pe_op op_add pe_int (pv 5)) (pa_cons pe_int pa_nil))))) (pv 6) (fun _ _ => rfl)))
      (pss_one (ps_setC (i := 3) (N := ["weight"]) (js := [none]) nd rfl rfl rfl rfl (pi_list (pv 3)) (fun _ _ _ _ => (pg_name (i := 0) (ndOf (N := ["weight"]) (by decide +kernel)) rfl (Or.inl rfl))) (fun _ _ _ _ => pts_nil) (fun _ _ _ _ => pe_int)))) pss_nil)
      (pss_cons (ps_if (pt_cmpR op_eq (pv 4) pe_int (nomark _)) (pss_one (ps_setC (i := 3) (N := ["k"]) (js := [none]) nd rfl rfl rfl rfl (pi_range1 rfl B.range (pa_cons (pe_ix ix_list (pe_lst (pa_cons pe_int (pa_cons pe_int pa_nil))) (pe_op op_mod (pv 6) pe_int) (fun _ _ => rfl)) pa_nil)) (fun _ _ _ _ => (pg_name (i := 0) (ndOf (N := ["k"]) (by decide +kernel)) rfl (Or.inl rfl))) (fun _ _ _ _ => pts_nil) (fun _ _ _ _ => pe_int))) pss_nil)
      (pss_cons (ps_if (pt_cmpR op_eq (pv 4) pe_int (nomark _)) (pss_one (ps_asg (pe_ix ix_list (pe_lst (pa_cons (pe_op op_sub (pe_un un_neg pe_int) (pv 5)) (pa_cons (pe_op op_add (pv 2) (pv 5)) (pa_cons (pe_un un_neg pe_int) (pa_cons (pv 2) pa_nil))))) (pv 6) (fun _ _ => rfl)) (pg_sub (pv 3) (pe_op op_mod (pv 5) (pe_callB call_len_seq rfl B.len PySem.boot_len (pa_cons (pv 3) pa_nil))) set_list))) pss_nil)
      (pss_one (ps_ret (pe_tup (pa_cons (pv 1) (pa_cons (pv 3) (pa_cons (pv 2) (pa_cons (pe_chain op_le op_le pe_int (pv 4) pe_int) pa_nil))))))))))))))))), ?_⟩
    refine sealE fun E0 hN0 hR0 => ?_
    refine cut3 fun T1 hT1 => ?_
    -- base, modulus
    refine ⟨_, rfl, a, ns, 0, rfl, hSq, by omega, _, _, rfl, rfl, (by show (0 : Int) < 9; decide), _, _, rfl, rfl, ?_⟩
    obtain ⟨b0, hb0⟩ : ∃ b0 : Int, b0 = 2 + cel ns 0 % 9 := ⟨_, rfl⟩
    show gName 1 (V.int (2 + cel ns 0 % 9)) _ _ _
    rw [← hb0]
    refine ⟨_, rfl, a, ns, 1, rfl, hSq, by omega, _, _, rfl, rfl, (by show (0 : Int) < 12; decide), _, _, rfl, rfl, ?_⟩
    obtain ⟨m0, hm0⟩ : ∃ m0 : Int, m0 = 1 + cel ns 1 % 12 := ⟨_, rfl⟩
    show gName 2 (V.int (1 + cel ns 1 % 12)) _ _ _
    rw [← hm0]
    have b1 : 2 ≤ b0 ∧ b0 ≤ 10 := by omega
    have m1 : 1 ≤ m0 ∧ m0 ≤ 12 := by omega
    clear hb0 hm0
    -- weights
    refine ⟨_, rfl, a, ns, 8, rfl, hSq, by omega, _, _, rfl, rfl, (by show (0 : Int) < 6; decide), _, _, rfl, rfl, _, rfl, by omega, by omega, ?_⟩
    obtain ⟨n, hn, n1, n2⟩ : ∃ n : Nat, n = (1 + cel ns 8 % 6).toNat ∧ 1 ≤ n ∧ n ≤ 6 := ⟨_, rfl, by omega, by omega⟩
    rw [← hn]
    clear hn
    refine block_map (Walk.rng 0 n) (by omega) rfl (fun k => .int (cel ns (2 + (0 + (k : Int))) % m0)) (fun k H2 Q' hk s2 q' => ?_) (fun W H1 hW s1 hWl => hT1 _ _ ?_)
    · exact ⟨_, rfl, _, rfl, _, _, rfl, rfl, a, ns, 2 + (0 + (k : Int)), rfl, s2.seq hSq, by omega, _, rfl, _, _, rfl, rfl, by omega, q' _ (Same.refl _)⟩
    clear hT1
    obtain ⟨ws, hws⟩ : ∃ ws : List Int, ws = (List.range n).map fun k : Nat => cel ns (2 + (0 + (k : Int))) % m0 := ⟨_, rfl⟩
    have hWl' : H1 W = some (.lst (ws.map V.int)) := by rw [hWl, hws, List.map_map]; rfl
    have hlw : ws.length = n := by rw [hws, List.length_map, List.length_range]
    have hok : wOk b0 m0 ws := ⟨b1.1, b1.2, m1.1, m1.2, by omega, by omega, fun w' hw' => by
      rw [hws] at hw'
      obtain ⟨k, _, rfl⟩ := List.mem_map.mp hw'
      exact ⟨Int.emod_nonneg _ (by omega), Int.emod_lt_of_pos _ (by omega)⟩⟩
    clear hWl hws
    -- fault, far, side
    refine cut3 fun T2 hT2 => ?_
    have hSq1 := s1.seq hSq
    refine ⟨_, rfl, a, ns, 9, rfl, hSq1, by omega, _, _, rfl, rfl, (by show (0 : Int) < 8; decide), ?_⟩
    obtain ⟨f', hf, f0, f1⟩ : ∃ f' : Int, f' = cel ns 9 % 8 ∧ 0 ≤ f' ∧ f' < 8 := ⟨_, rfl, by omega, by omega⟩
    show gName 4 (V.int (cel ns 9 % 8)) _ _ _
    rw [← hf]
    refine ⟨_, rfl, a, ns, 10, rfl, hSq1, by omega, _, _, rfl, rfl, ⟨by decide, by decide⟩, _, _, rfl, rfl, ⟨by decide, by decide, by decide⟩, _, _, rfl, rfl, (by show (0 : Int) < 10 ^ (30 : Int).toNat; decide), ?_⟩
    obtain ⟨far, hfar, far0⟩ : ∃ far : Int, far = cel ns 10 / 4 % 10 ^ (30 : Int).toNat ∧ 0 ≤ far := ⟨_, rfl, Int.emod_nonneg _ (by decide)⟩
    show gName 5 (V.int (cel ns 10 / 4 % 10 ^ (30 : Int).toNat)) _ _ _
    rw [← hfar]
    refine ⟨_, rfl, a, ns, 10, rfl, hSq1, by omega, _, _, rfl, rfl, (by show (0 : Int) < 4; decide), ?_⟩
    obtain ⟨sd, hsd, sd0, sd1⟩ : ∃ sd : Int, sd = cel ns 10 % 4 ∧ 0 ≤ sd ∧ sd < 4 := ⟨_, rfl, by omega, by omega⟩
    show gName 6 (V.int (cel ns 10 % 4)) _ _ _
    rw [← hsd]
    refine hT2 _ _ ?_
    clear hT2 hsd hfar hf
    refine cut4 fun T3 hT3 => ?_
    have sdc : sd = 0 ∨ sd = 1 ∨ sd = 2 ∨ sd = 3 := by omega
    -- the end
    have fin : ∀ (b m : Int) (W' : Addr) (ws' : List Int) (Hc : Hp), Same H Hc → Hc W' = some (.lst (ws'.map V.int)) → ws'.length ≤ 7 → (1 ≤ f' ∧ f' ≤ 4 → ¬ wOk b m ws') → (¬ (1 ≤ f' ∧ f' ≤ 4) → wOk b m ws') → T3 E0 [some (.ref a), some (.int b), some (.int m), some (.ref W'), some (.int f'), some (.int far), some (.int sd)] Hc := by
      intro b m W' ws' Hc sc hc hl h1 h2
      refine hT3 _ _ ?_
      refine ⟨_, rfl, _, rfl, _, rfl, _, rfl, _, _, rfl, rfl, _, rfl, ite2 (fun c1 => ?_) (fun c1 => ?_)⟩
      · have c1' : 1 ≤ f' := of_decide_eq_true c1
        refine ⟨_, _, rfl, rfl, (by show 4 ≤ sizeLine; decide), fun t ht => hR0 _ _ (q t W' b m ws' (decide (f' ≤ 4)) _ (sc.trans (Same.new ht)) upd_same ((Same.new ht) _ _ hc) hl (fun z => h1 ⟨c1', of_decide_eq_true z⟩) fun z => h2 fun y => of_decide_eq_false z y.2)⟩
      · have c1' : ¬ 1 ≤ f' := of_decide_eq_false (Bool.eq_false_iff.mpr c1)
        refine ⟨(by show 4 ≤ sizeLine; decide), fun t ht => hR0 _ _ (q t W' b m ws' false _ (sc.trans (Same.new ht)) upd_same ((Same.new ht) _ _ hc) hl (fun z => by cases z) fun _ => h2 fun y => c1' y.1)⟩
    clear hT3
    have cases5 : f' = 1 ∨ f' = 2 ∨ f' = 3 ∨ f' = 4 ∨ (f' ≠ 1 ∧ f' ≠ 2 ∧ f' ≠ 3 ∧ f' ≠ 4) := by omega
    rcases cases5 with rfl | rfl | rfl | rfl | ⟨z1, z2, z3, z4⟩
    · refine ⟨_, rfl, rfl, _, rfl, ifY (by decide) ?_⟩
      refine ⟨_, rfl, _, _, rfl, rfl, _, rfl, _, rfl, _, _, rfl, rfl, (by show 4 ≤ sizeLine; decide), fun l hl => ?_⟩
      have hp : ∃ b' : Int, atI [V.int 1, V.int 0, V.int (11 + far), V.int (-1 - far)] sd = some (V.int b') ∧ (b' < 2 ∨ 10 < b') := by
        rcases sdc with rfl | rfl | rfl | rfl
        · exact ⟨1, rfl, by omega⟩
        · exact ⟨0, rfl, by omega⟩
        · exact ⟨11 + far, rfl, by omega⟩
        · exact ⟨-1 - far, rfl, by omega⟩
      obtain ⟨b', eb, hb'⟩ := hp
      have sl := Same.new (o := HO.lst [V.int 1, V.int 0, V.int (11 + far), V.int (-1 - far)]) hl
      refine ⟨_, rfl, l, _, _, _, rfl, rfl, SqL.of upd_same, eb, ?_⟩
      refine ⟨_, rfl, rfl, _, rfl, ifN (by decide) ⟨_, rfl, rfl, _, rfl, ifN (by decide) ⟨_, rfl, rfl, _, rfl, ifN (by decide) ?_⟩⟩⟩
      exact fin b' m0 W ws _ (s1.trans sl) (sl _ _ hWl') (by omega) (fun _ ok => by have := ok.1; have := ok.2.1; omega) (fun z => absurd ⟨by decide, by decide⟩ z)
    · refine ⟨_, rfl, rfl, _, rfl, ifN (by decide) ⟨_, rfl, rfl, _, rfl, ifY (by decide) ?_⟩⟩
      refine ⟨_, rfl, _, rfl, _, _, rfl, rfl, _, rfl, _, _, rfl, rfl, (by show 4 ≤ sizeLine; decide), fun l hl => ?_⟩
      have hp : ∃ m' : Int, atI [V.int 0, V.int (-1 - far), V.int (13 + far), V.int 13] sd = some (V.int m') ∧ (m' < 1 ∨ 12 < m') := by
        rcases sdc with rfl | rfl | rfl | rfl
        · exact ⟨0, rfl, by omega⟩
        · exact ⟨-1 - far, rfl, by omega⟩
        · exact ⟨13 + far, rfl, by omega⟩
        · exact ⟨13, rfl, by omega⟩
      obtain ⟨m', em, hm'⟩ := hp
      have sl := Same.new (o := HO.lst [V.int 0, V.int (-1 - far), V.int (13 + far), V.int 13]) hl
      refine ⟨_, rfl, l, _, _, _, rfl, rfl, SqL.of upd_same, em, ?_⟩
      have wk := Walk.lst (K := K) (SqL.of (sl _ _ hWl'))
      rw [List.length_map] at wk
      refine ⟨_, rfl, W, rfl, ⟨_, SqL.of (sl _ _ hWl')⟩, ?_⟩
      refine block_map wk (by omega) rfl (fun _ => .int 0) (fun k H2 Q' hk s2 q' => q' _ (Same.refl _)) (fun W2 H2 hW2 s2 hW2l => ?_)
      refine ⟨_, rfl, rfl, _, rfl, ifN (by decide) ⟨_, rfl, rfl, _, rfl, ifN (by decide) ?_⟩⟩
      refine fin b0 m' W2 ((List.range ws.length).map fun _ => 0) _ ((s1.trans sl).trans s2) ?_ (by rw [List.length_map, List.length_range]; omega) (fun _ ok => by have := ok.2.2.1; have := ok.2.2.2.1; omega) (fun z => absurd ⟨by decide, by decide⟩ z)
      rw [hW2l, List.map_map]
      rfl
    · refine ⟨_, rfl, rfl, _, rfl, ifN (by decide) ⟨_, rfl, rfl, _, rfl, ifN (by decide) ⟨_, rfl, rfl, _, rfl, ifY (by decide) ?_⟩⟩⟩
      refine ⟨(by show 2 ≤ sizeLine; decide), fun l hl => ?_⟩
      have hp : ∃ n' : Int, atI [V.int 0, V.int 7] (sd % 2) = some (V.int n') ∧ (n' = 0 ∨ n' = 7) := by
        rcases sdc with rfl | rfl | rfl | rfl
        · exact ⟨0, rfl, by omega⟩
        · exact ⟨7, rfl, by omega⟩
        · exact ⟨0, rfl, by omega⟩
        · exact ⟨7, rfl, by omega⟩
      obtain ⟨n', en, hn'⟩ := hp
      have sl := Same.new (o := HO.lst [V.int 0, V.int 7]) hl
      refine ⟨_, rfl, _, _, rfl, rfl, (by show (0 : Int) < 2; decide), l, _, _, _, rfl, rfl, SqL.of upd_same, en, n', rfl, by omega, by omega, ?_⟩
      refine block_map (Walk.rng 0 n'.toNat) (by omega) rfl (fun _ => .int 0) (fun k H2 Q' hk s2 q' => q' _ (Same.refl _)) (fun W2 H2 hW2 s2 hW2l => ?_)
      refine ⟨_, rfl, rfl, _, rfl, ifN (by decide) ?_⟩
      refine fin b0 m0 W2 ((List.range n'.toNat).map fun _ => 0) _ ((s1.trans sl).trans s2) ?_ (by rw [List.length_map, List.length_range]; omega) (fun _ ok => by
        have h1 := ok.2.2.2.2.1
        have h2 := ok.2.2.2.2.2.1
        rw [List.length_map, List.length_range] at h1 h2
        omega) (fun z => absurd ⟨by decide, by decide⟩ z)
      rw [hW2l, List.map_map]
      rfl
    · refine ⟨_, rfl, rfl, _, rfl, ifN (by decide) ⟨_, rfl, rfl, _, rfl, ifN (by decide) ⟨_, rfl, rfl, _, rfl, ifN (by decide) ⟨_, rfl, rfl, _, rfl, ifY (by decide) ?_⟩⟩⟩⟩
      refine ⟨_, rfl, _, rfl, _, _, rfl, rfl, _, rfl, _, rfl, _, _, rfl, rfl, _, rfl, _, rfl, (by show 4 ≤ sizeLine; decide), fun l hl => ?_⟩
      have hp : ∃ v' : Int, atI [V.int (-1 - far), V.int (m0 + far), V.int (-1), V.int m0] sd = some (V.int v') ∧ (v' < 0 ∨ m0 ≤ v') := by
        rcases sdc with rfl | rfl | rfl | rfl
        · exact ⟨-1 - far, rfl, by omega⟩
        · exact ⟨m0 + far, rfl, by omega⟩
        · exact ⟨-1, rfl, by omega⟩
        · exact ⟨m0, rfl, by omega⟩
      obtain ⟨v', ev, hv'⟩ := hp
      have sl := Same.new (o := HO.lst [V.int (-1 - far), V.int (m0 + far), V.int (-1), V.int m0]) hl
      have hWs := sl _ _ hWl'
      have hpos : (0 : Int) < (((ws.map V.int).length : Nat) : Int) := by rw [List.length_map]; omega
      have j0 := Int.emod_nonneg far (show (((ws.map V.int).length : Nat) : Int) ≠ 0 by omega)
      have j1 := Int.emod_lt_of_pos far hpos
      refine ⟨_, rfl, l, _, _, _, rfl, rfl, SqL.of upd_same, ev, _, rfl, _, rfl, _, rfl, W, _, rfl, .inl (SqL.of hWs), _, _, rfl, rfl, hpos, W, _, _, (far % (((ws.map V.int).length : Nat) : Int)).toNat, rfl, rfl, hWs, ?_, ?_⟩
      · unfold ixN
        rw [if_pos j0, if_pos j1]
      rw [List.length_map] at j0 j1
      obtain ⟨j, hj⟩ : ∃ j : Nat, j = (far % ((ws.length : Nat) : Int)).toNat := ⟨_, rfl⟩
      have hjl : j < ws.length := by omega
      have e1 : (ws.map V.int).set (far % (((ws.map V.int).length : Nat) : Int)).toNat (V.int v') = (ws.set j v').map V.int := by
        rw [List.length_map, ← hj, List.map_set]
      rw [e1]
      refine fin b0 m0 W (ws.set j v') _ ((s1.trans sl).put hW) upd_same (by rw [List.length_set]; omega) (fun _ ok => ?_) (fun z => absurd ⟨by decide, by decide⟩ z)
      have hm := ok.2.2.2.2.2.2 v' (List.mem_of_getElem? (i := j) (by rw [List.getElem?_set_self hjl]))
      omega
    · refine ⟨_, rfl, rfl, _, rfl, ifN (by simp [z1]) ⟨_, rfl, rfl, _, rfl, ifN (by simp [z2]) ⟨_, rfl, rfl, _, rfl, ifN (by simp [z3]) ⟨_, rfl, rfl, _, rfl, ifN (by simp [z4]) ?_⟩⟩⟩⟩
      exact fin b0 m0 W ws _ s1 hWl' (by omega) (fun z => absurd z (by omega)) fun _ => hok
end
end My

/-! OWN PART 14: a walk over such a dict's keys, its length -/
set_option maxHeartbeats 1000000
namespace L2
open PySem PySem.Spec PyProof.Rows
section
variable {prog : Program} {w : World} {A : Around} {E : Value → Shared → Prop} {s : Shared} {d it : Addr} {o : Obj} {es : Array DictEntry} {ep i : Nat}
theorem td_of (ho : s.heap.get? d = some o) (hc : o.ExactDict) : s.TypeIs (.ref d) "dict" := ⟨o, ho, hc.1⟩
theorem raw_iter {Q : Value → Shared → Prop} (low : (d == sysModules) = false) (ho : s.heap.get? d = some o) (hc : o.ExactDict) (hdat : o.data = .dict es ep)
    (fin : Q (.ref s.heap.objs.size) { s with heap := s.heap.push { cls := .type "dict_keyiterator", data := .fields #[.ref d, .int 0 0, .int es.size 0, .int ep 0] } }) : wpAny (model prog w) A (pyIter (.ref d)) Q E s := by
  refine wpAny_pyIter_slot (td_of ho hc) F.slot_dict_iter (wpAny_call_entry F.slot_dict_iter (td_of ho hc) F.entry_dict_iter ?_ (F.args_dict_iter_1 _))
  unfold Builtin.«dict.__iter__» Builtin.Dict.dictSlotNone
  refine wpAny_bind (wpAny_bind (wpAny_notOrdered_dict (td_of ho hc) ?_))
  refine (show wpAny _ _ (pure (Value.ref d)) _ _ s from wpAny_pure ?_)
  refine (show wpAny _ _ (Builtin.Dict.showsAll d >>= _) _ _ s from ?_)
  unfold Builtin.Dict.showsAll
  rw [low]
  refine wpAny_bind (wpAny_pure (wpAny_bind (wpAny_dictEntries ho hdat (wpAny_bind (wpAny_dictEpoch ho hdat ?_)))))
  exact wpAny_bind (wpAny_newObj_type (wpAny_pure ⟨_, rfl, "dict_keyiterator", _, ⟨_, Heap.get?_push_size _ rfl, rfl⟩, F.slot_dict_keyiterator_next.lookup, by simpa [rawInt] using fin⟩))
/-- the opening of a turn, up to the entries -/
theorem raw_item {e : DictEntry} {Q : Option Value → Shared → Prop} (hit : s.heap.IsKeyIter it d i es.size ep) (ho : s.heap.get? d = some o) (hdat : o.data = .dict es ep) (he : es[i]? = some e)
    (fin : ∀ h', h'.IsKeyIter it d (i + 1) es.size ep → Heap.SameBut it s.heap h' → Q (some e.key) { s with heap := h' }) : wpAny (model prog w) A (pyNext (.ref it)) Q E s := by
  obtain ⟨oi, hoi, hci, hdi⟩ := id hit
  have lt : i < es.size := (Array.getElem?_eq_some_iff.mp he).1
  have own : Builtin.Dict_items.ownsTuple "dict_keyiterator" = false := by decide
  unfold pyNext
  refine wpAny_bind (wpAny_attempt (wpAny_callSpecial?_slot (name := Str.ofString "__next__") hit.typeIs F.slot_dict_keyiterator_next (wpAny_call_entry F.slot_dict_keyiterator_next hit.typeIs F.entry_dict_keyiterator_next ?_ (F.args_dict_keyiterator_next_1 _))))
  refine wpAny_bind (wpAny_pure (wpAny_bind (wpAny_bind ?_)))
  first | refine wpAny_bind (wpAny_typeNameOfWhole_keyiter hit.typeIs (wpAny_pure (wpAny_bind (wpAny_fieldsOf hoi hdi ?_)))) | refine wpAny_bind (wpAny_typeNameOf_keyiter hit.typeIs (wpAny_pure (wpAny_bind (wpAny_fieldsOf hoi hdi ?_))))
  simp only [own, Bool.false_eq_true, if_false]
  refine (show wpAny _ _ (if (Value.ref d == Value.none) = true then _ else _) _ _ s from ?_)
  rw [if_neg (show ¬ (Value.ref d == Value.none) = true from Bool.false_ne_true)]
  refine wpAny_bind (wpAny_pure (wpAny_bind (wpAny_dictEntries ho hdat ?_)))
  rw [if_neg (show ¬ _ by simp)]
  refine wpAny_bind (wpAny_pure (wpAny_bind (wpAny_dictEpoch ho hdat ?_)))
  rw [if_neg (show ¬ _ by simp)]
  refine wpAny_pure ?_
  simp only [show ¬ ((i : Int) < 0) by omega, if_false, Int.toNat_natCast, he]
  refine wpAny_bind ?_
  first | refine wpAny_bind (wpAny_typeNameOfWhole_keyiter hit.typeIs (wpAny_pure (wpAny_bind (wpAny_isOneOf_keyiter hit.typeIs ?_)))) | refine wpAny_bind (wpAny_typeNameOf_keyiter hit.typeIs (wpAny_pure (wpAny_bind (wpAny_isOneOf_keyiter hit.typeIs ?_))))
  refine (show wpAny _ _ (setField (.ref it) 1 (rawInt ((i : Int) + 1)) >>= _) _ _ s from wpAny_bind (wpAny_setField hoi hdi (by simp) ?_))
  have next : (s.heap.update it (Obj.mapFields (·.setIfInBounds 1 (rawInt ((i : Int) + 1))))).IsKeyIter it d (i + 1) es.size ep :=
    ⟨_, Heap.get?_update_self _ hoi (Obj.isFreed_of_fields (Obj.data_mapFields hdi _)), Eq.trans (Obj.cls_mapFields ..) hci, by rw [Obj.data_mapFields hdi]; simp [rawInt]⟩
  refine wpAny_bind (wpAny_holding (wpAny_bind (wpAny_isOneOf_keyiter (s := { s with heap := s.heap.update it (Obj.mapFields (·.setIfInBounds 1 (rawInt ((i : Int) + 1)))) }) next.typeIs ?_)))
  exact (show wpAny _ _ (pure e.key) _ _ _ from wpAny_pure (wpAny_pure ⟨_, rfl, wpAny_pure (fin _ next (Heap.SameBut.update ..))⟩))
theorem raw_end {Q : Option Value → Shared → Prop} (hh : A.handled = none) (hit : s.heap.IsKeyIter it d i es.size ep) (ho : s.heap.get? d = some o) (hdat : o.data = .dict es ep) (he : es.size ≤ i)
    (fin : ∀ h', Heap.ExtBut it s.heap h' → Q none { s with heap := h' }) : wpAny (model prog w) A (pyNext (.ref it)) Q E s := by
  obtain ⟨oi, hoi, hci, hdi⟩ := id hit
  have own : Builtin.Dict_items.ownsTuple "dict_keyiterator" = false := by decide
  unfold pyNext
  refine wpAny_bind (wpAny_attempt (wpAny_callSpecial?_slot (name := Str.ofString "__next__") hit.typeIs F.slot_dict_keyiterator_next (wpAny_call_entry F.slot_dict_keyiterator_next hit.typeIs F.entry_dict_keyiterator_next ?_ (F.args_dict_keyiterator_next_1 _))))
  refine wpAny_bind (wpAny_pure (wpAny_bind (wpAny_bind ?_)))
  first | refine wpAny_bind (wpAny_typeNameOfWhole_keyiter hit.typeIs (wpAny_pure (wpAny_bind (wpAny_fieldsOf hoi hdi ?_)))) | refine wpAny_bind (wpAny_typeNameOf_keyiter hit.typeIs (wpAny_pure (wpAny_bind (wpAny_fieldsOf hoi hdi ?_))))
  simp only [own, Bool.false_eq_true, if_false]
  refine (show wpAny _ _ (if (Value.ref d == Value.none) = true then _ else _) _ _ s from ?_)
  rw [if_neg (show ¬ (Value.ref d == Value.none) = true from Bool.false_ne_true)]
  refine wpAny_bind (wpAny_pure (wpAny_bind (wpAny_dictEntries ho hdat ?_)))
  rw [if_neg (show ¬ _ by simp)]
  refine wpAny_bind (wpAny_pure (wpAny_bind (wpAny_dictEpoch ho hdat ?_)))
  rw [if_neg (show ¬ _ by simp)]
  refine wpAny_pure ?_
  simp only [show ¬ ((i : Int) < 0) by omega, if_false, Int.toNat_natCast, Array.getElem?_eq_none he]
  refine wpAny_bind ?_
  first | refine wpAny_bind (wpAny_typeNameOfWhole_keyiter hit.typeIs (wpAny_pure ?_)) | refine wpAny_bind (wpAny_typeNameOf_keyiter hit.typeIs (wpAny_pure ?_))
  refine (show wpAny _ _ (setField (.ref it) 0 .none >>= _) _ _ s from wpAny_bind (wpAny_setField hoi hdi (by simp) ?_))
  refine (show wpAny _ _ (newExc (.type "StopIteration") [] >>= _) _ _ _ from wpAny_bind ?_)
  simp only [newExc, newTuple]
  refine wpAny_bind (wpAny_newObj_type (wpAny_bind (m := firstArgMember _ _) (wpAny_of_eq (a := Value.none) (by first | rfl | (simp only [firstArgMember]; rfl)) (wpAny_newObj_type ?_ (by size_fits)))) (by size_fits))
  simp only [raiseNew]
  refine wpAny_bind (wpAny_handled ?_)
  rw [show A.in1.handled = none from hh]
  refine wpAny_bind (wpAny_pure ?_)
  refine wpAny_throw ?_
  refine wpAny_bind (wpAny_isInstance (b := true) (T := "StopIteration") ⟨_, Heap.get?_push_size _ rfl, rfl⟩ isSubtype_stop ?_)
  exact wpAny_pure (fin _ (((Heap.SameBut.update ..).extBut.push _).push _))
end
/-- what a loop over the dict's keys gives, the dict staying as it is -/
def Itn (P : Program) (w : World) (c : Bool) (d : Addr) (xs : List (PyData × Addr × Value)) (ep : Nat) : It :=
  ⟨fun i H => H d = some (.ext (dφ P w c d xs ep)) ∧ i < xs.length, fun i H x H' => H' = H ∧ ∃ k b u, xs[i]? = some (k, b, u) ∧ x = .ref b, fun i H => H d = some (.ext (dφ P w c d xs ep)) ∧ xs.length ≤ i⟩
theorem dict_obj {X : Cx} {pins : List (Addr × Obj)} {σ : St} {H : Hp} {s : Shared} {c : Bool} {d : Addr} {xs : List (PyData × Addr × Value)} {ep : Nat} (I : Inv X pins σ H s) (e : H d = some (.ext (dφ X.prog X.w c d xs ep))) :
    (d == sysModules) = false ∧ ∃ o es, s.heap.get? d = some o ∧ o.ExactDict ∧ o.data = .dict es ep ∧ es.toList = xs.map (entryOfKey (nkKind X.prog X.w c)) ∧ es.size = xs.length := by
  obtain ⟨⟨h0, o, es, h1, h2, h3, h4, h5⟩, _, _⟩ := (show ObjOk X.prog X.w H s.heap d (.ext (dφ X.prog X.w c d xs ep)) from I.hok d _ e)
  exact ⟨h0, o, es, h1, h2, h3, h4, size_of_entries h4⟩
theorem turn_dict {P : Program} {w : World} {K : PySem.W.Frag} {tg : Expr} {c : Bool} {xs : List (PyData × Addr × Value)} {ep : Nat} (d it : Addr) : Turn P w K tg (Itn P w c d xs ep) [it] it (fun i h => h.IsKeyIter it d i xs.length ep) where
  mem := by simp
  obj := fun i h st b hb => by
    have e : b = it := by simpa using hb
    subst e
    obtain ⟨o, e, c, d⟩ := st
    exact ⟨o, e, fun v z => by rw [d] at z; cases z⟩
  keep := fun i h h' st k => st.at fun o e => k it (by simp) o e
  item := by
    intro X hP hw hK hc i pins s σ H E I hf st hg
    subst hP hw hK
    obtain ⟨hd, hi⟩ := hg
    obtain ⟨h0, o, es, h1, h2, h3, h4, h5⟩ := dict_obj I hd
    obtain ⟨f0, f1, f2, f3, f4, f5⟩ := hf it (by simp)
    have e1 := List.getElem?_eq_getElem hi
    generalize xs[i] = x at e1
    obtain ⟨k, b, u⟩ := x
    have e2 : es[i]? = some (entryOfKey (nkKind X.prog X.w c) (k, b, u)) := by rw [entry_at h4, e1]; rfl
    refine raw_item (es := es) (by rw [h5]; exact st) h1 h3 e2 fun h' st' sb => ?_
    rw [h5] at st'
    have I1 : Inv X pins σ H { s with heap := h' } := I.turned (t' := s.toks) (fun b o hb e => (sb.2 b hb).trans e) f0 f1 f3 f4 f5
    obtain ⟨oi, ei, ci, di⟩ := id st'
    exact ⟨_, rfl, go_of (s := { s with heap := h' }) ei ci di (by decide) ⟨.ref b, H, I1, rfl, ⟨rfl, k, b, u, e1, rfl⟩, st', fun b hb => (hf b hb).1⟩⟩
  done := by
    intro X hP hw hK hc i pins s σ H E I hf st hg
    subst hP hw hK
    obtain ⟨hd, hi⟩ := hg
    obtain ⟨h0, o, es, h1, h2, h3, h4, h5⟩ := dict_obj I hd
    obtain ⟨f0, f1, f2, f3, f4, f5⟩ := hf it (by simp)
    exact raw_end (es := es) (I.ok.hd hc) (by rw [h5]; exact st) h1 h3 (by omega) fun h' eb => ⟨rfl, I.turned (t' := s.toks) (fun b o hb e => eb b o hb e) f0 f1 f3 f4 f5⟩
  self := fun _ _ _ _ _ st h => wpAny_pyIter_keyiter st h
def iDict (P : Program) (w : World) (c : Bool) (tl : TE) : TI := fun σ H R => tl σ H fun x H1 => ∃ a xs ep, x = .ref a ∧ H1 a = some (.ext (dφ P w c a xs ep)) ∧ R (Itn P w c a xs ep) H1
theorem pi_dict {X : Cx} {tg l : Expr} {tl : TE} (c : Bool) (hl : PE X l tl) : PI X tg l (iDict X.prog X.w c tl) := by
  intro pins s σ H R I h
  refine thn (hl pins s σ H _ I h) fun v s1 ⟨x, H1, I1, r1, q1⟩ => ?_
  obtain ⟨a, xs, ep, e, hd, q⟩ := q1
  subst e
  cases r1
  obtain ⟨h0, o, es, h1, h2, h3, h4, h5⟩ := dict_obj I1 hd
  refine raw_iter h0 h1 h2 h3 ?_
  refine ⟨s1.heap.objs.size, [s1.heap.objs.size], _, _, H1, rfl, I1.kept (t' := s1.toks) fun b o e => Heap.get?_push_of_some _ e, turn_dict a _, ⟨_, Heap.get?_push_size _ rfl, rfl, by rw [h5]; rfl⟩, fun b hb => ?_, q⟩
  have e : b = s1.heap.objs.size := by simpa using hb
  subst e
  exact I1.fpOk (Nat.le_refl _) (I1.hok.fresh (Nat.le_refl _))
/-- over a dict that the body leaves as it is -/
theorem for_dict {P : Program} {w : World} {c : Bool} {a : Addr} {xs : List (PyData × Addr × Value)} {ep : Nat} {g : TG} {tb : TS} {D : Ends} {σ : St} {H : Hp} (Pv : Nat → St → Hp → Prop) (h0 : Pv 0 σ H) (hl : ∀ i σ H, i ≤ xs.length → Pv i σ H → H a = some (.ext (dφ P w c a xs ep)))
    (hs : ∀ i k b u σ H, xs[i]? = some (k, b, u) → Pv i σ H → g (.ref b) σ H fun σ2 H2 => tb { D with nx := Pv (i + 1), ct := Pv (i + 1), bk := D.nx } σ2 H2) (hd : ∀ σ H, Pv xs.length σ H → D.nx σ H) :
    ∃ W : Nat → Nat → St → Hp → Prop, (∃ m, W 0 m σ H) ∧ ∀ i m σ H, W i m σ H →
      ((Itn P w c a xs ep).stop i H ∧ D.nx σ H) ∨ ((Itn P w c a xs ep).go i H ∧ ∃ N : St → Hp → Prop, (∀ σ' H', N σ' H' → ∃ m', m' < m ∧ W (i + 1) m' σ' H') ∧ ∀ x H', (Itn P w c a xs ep).yld i H x H' → g x σ H' fun σ2 H2 => tb { D with nx := N, ct := N, bk := D.nx } σ2 H2) := by
  refine ⟨fun i m σ H => m = xs.length - i ∧ i ≤ xs.length ∧ Pv i σ H, ⟨xs.length, by simp, Nat.zero_le _, h0⟩, ?_⟩
  rintro i m σ H ⟨rfl, hi, p⟩
  have q := hl i σ H hi p
  by_cases hlt : i < xs.length
  · refine .inr ⟨⟨q, hlt⟩, Pv (i + 1), fun σ' H' p' => ⟨xs.length - (i + 1), by omega, rfl, hlt, p'⟩, fun x H' y => ?_⟩
    obtain ⟨e, k, b, u, e2, e3⟩ := y
    subst e e3
    exact hs i k b u σ _ e2 p
  · have e : i = xs.length := by omega
    subst e
    exact .inl ⟨⟨q, Nat.le_refl _⟩, hd σ H p⟩
/-- len(d) -/
theorem call_lenN {X : Cx} (c : Bool) : CallR X (.builtin "len") (fun xs H Q => ∃ p kvs, xs = [.ref p] ∧ DAt X.prog X.w X.K c H p kvs ∧ Q (.int kvs.length) H) := by
  intro pins s σ H xs us Q I r h
  obtain ⟨p, kvs, rfl, ⟨⟨xs, ep, he, hr⟩, hz⟩, q⟩ := h
  obtain ⟨u, rfl, ru⟩ := vals1 r
  cases ru
  obtain ⟨h0, o, es, h1, h2, h3, h4, h5⟩ := dict_obj I he
  have hl : kvs.length = xs.length := My.paired_length hr
  have hT : s.TypeIs (.ref p) "dict" := td_of h1 h2
  have hfit : ((es.size : Nat) : Int) < 2 ^ 63 := by
    have := line63
    omega
  refine Calls.call_function_entry kind_len plain_len entry_len (args_len1 _) ?_
  unfold Builtin.«len»
  refine wpAny_bind (m := oneArg "len" _) (wpAny_pure (wpAny_bind (m := callSpecial? (.ref p) (Str.ofString "__len__")) (wpAny_callSpecial?_slot (name := Str.ofString "__len__") hT F.slot_dict_len (wpAny_call_entry F.slot_dict_len hT F.entry_dict_len ?_ (F.args_dict_len_1 _)))))
  refine (show wpAny _ _ (dictSize p >>= _) _ _ s from ?_)
  unfold dictSize
  refine wpAny_bind (wpAny_bind (wpAny_dictEntries h1 h3 (wpAny_pure ?_)))
  refine (show wpAny _ _ (Builtin.Dict.pendingCount p >>= _) _ _ s from wpAny_bind (wpAny_pendingCount_other h0 (wpAny_ret_mkInt ?_)))
  rw [show (((es.size : Nat) : Int) + ((0 : Nat) : Int)) = ((es.size : Nat) : Int) by omega]
  refine (show wpAny _ _ (holding [Value.int ((es.size : Nat) : Int) s.toks] (asIndex (Value.int ((es.size : Nat) : Int) s.toks)) >>= _) _ _ _ from ?_)
  refine wpAny_bind (wpAny_holding (wpAny_pure (wpAny_bind (wpAny_letGo ?_))))
  refine (show wpAny _ _ (if ((es.size : Nat) : Int) < 0 then _ else _) _ _ _ from ?_)
  rw [if_neg (show ¬ ((es.size : Nat) : Int) < 0 by omega)]
  refine (show wpAny _ _ (if ((es.size : Nat) : Int) ≥ 2 ^ 63 then _ else _) _ _ _ from ?_)
  rw [if_neg (show ¬ ((es.size : Nat) : Int) ≥ 2 ^ 63 by omega), h5, ← hl]
  exact wpAny_bind (wpAny_mkInt (wpAny_pure ⟨_, rfl, .int kvs.length, H, I.tok _, ⟨_, rfl⟩, q⟩))
end L2

/-! OWN PART 27: d.get(k, v) and d.items() of dicts by tuples, sum(..) of numbers -/
set_option maxHeartbeats 2000000
namespace L2
open PySem PySem.Spec PyProof.Rows
section
variable {X : Cx} {o e1 e2 : Expr} {td : TE} {ta : TA} {apos cpos : Pos}
/-- d.get(k, v) -/
def tNGetD (X : Cx) (c : Bool) (td : TE) (ta : TA) : TE := fun σ H Q => td σ H fun x H1 => (∃ a kvs, x = .ref a ∧ DAt X.prog X.w X.K c H1 a kvs) ∧ ta σ H1 fun vs H2 => ∃ a y z r, x = .ref a ∧ vs = [y, z] ∧ NGet X.prog X.w X.K c H2 a y r ∧ Q (r.getD z) H2
theorem pe_ngetd (c : Bool) (hu : X.A.units + 64 < cLine) (ho : PE X o td) (ha : PA X [e1, e2] ta)
    (hbase : attributeBase o "get" X.env (eval o X.env) = eval o X.env := by rfl)
    (hfew : ((backTo cpos (starEach [e1, e2] X.env)).all (fun x => !x.1) && (backToKw cpos (keywordEach [] X.env)).all (fun x => x.1.isSome)
      && decide (([e1, e2] : List Expr).length + ([] : List Keyword).length + (if ([] : List Keyword).isEmpty then 0 else 1) < 30)) = true := by rfl)
    (hline : (apos.endLine == cpos.line) = true := by rfl) (hs : starEach [e1, e2] X.env = (false, eval e1 X.env) :: starEach [e2] X.env := by rfl) (hplain : (backTo cpos (starEach [e2] X.env)).any (·.1) = false := by rfl) :
    PE X (.Call (.Attribute o "get" apos) [e1, e2] [] cpos) (tNGetD X c td ta) := by
  intro pins s σ H Q I h
  refine wpAny_Call_method_late hbase hfew hline rfl (thn (ho pins s σ H _ I h) fun v s1 ⟨x, H1, I1, r1, ⟨a, kvs, ex, ⟨xs, ep, he, hr⟩, hz⟩, q1⟩ => ?_)
  subst ex
  obtain rfl : v = Value.ref a := r1
  obtain ⟨h0, o', es, h1, h2, h3, h4, h5⟩ := dict_obj I1 he
  refine ⟨"dict", "dict.get", PySem.F.plainAttrs_dict, PySem.F.slot_dict_get, PySem.F.type_dict_get, td_of h1 h2, (fun b e => by cases e; exact ⟨o', h1, h2.2.1⟩), ?_⟩
  have hA := ha cpos pins s1 σ H1 _ I1 q1
  rw [hs] at hA ⊢
  refine Calls.callWith_builtin (by show (false || (backTo cpos (starEach [e2] X.env)).any (·.1)) = false; rw [hplain] <;> rfl) (Calls.evalArgs_plain ?_)
  refine thn hA fun us s2 ⟨vs, H2, I2, r2, a', y, z, r, ea, ev, ⟨kvs', k, b, ⟨⟨xs', ep', he', hr'⟩, hz'⟩, ey, hk, hv⟩, q2⟩ => ?_
  cases ea
  subst ev
  subst ey
  obtain ⟨u1, u2, rfl, ru1, ru2⟩ := vals2 r2
  obtain rfl : u1 = Value.ref b := ru1
  obtain ⟨hd, dd⟩ := dn_of I2 he' hr'
  refine call_meetsIn PySem.F.slot_dict_get dd.typeIs PySem.F.entry_dict_get (PySem.F.args_dict_get_3 _ _ _) (meetsH_dict_get_default (nkKind X.prog X.w c) a b hd u2) ⟨nroom hu, k, xs', hk.is I2, dd, ?_⟩
  refine ⟨r.getD z, H2, I2.tok _, ?_, q2⟩
  have hrel := hr'.val k
  rw [hv]
  cases g1 : valN kvs' k <;> cases g2 : (atKey xs' k).map (·.2) <;> rw [g1, g2] at hrel
  · exact ru2
  · exact False.elim hrel
  · exact False.elim hrel
  · exact hrel
/-- d[k], in a block -/
def tNGetK (P : Program) (w : World) (K : PySem.W.Frag) (c : Bool) (td ty : TE) : TE := fun σ H Q => td σ H fun x H1 => ty σ H1 fun y H2 => ∃ a v, x = .ref a ∧ NGet P w K c H2 a y (some v) ∧ Q v H2
theorem pe_ngetK {i : Expr} {pos : Pos} {ty : TE} (P : Program) (w : World) (K : PySem.W.Frag) (hX : X.prog = P ∧ X.w = w ∧ X.K = K) (c : Bool) (hu : X.A.units + 64 < cLine) (ho : PE X o td) (hi : PE X i ty) (hs : PlainIx i) : PE X (.Subscript o i pos) (tNGetK P w K c td ty) := by
  obtain ⟨rfl, rfl, rfl⟩ := hX
  exact pe_nget c hu ho hi hs
/-- sum(xs), a list of numbers -/
theorem call_sumL (hc : X.calm = true) : CallR X (.builtin "sum") (fun xs H Q => ∃ (p : Addr) (ns : List Int), xs = [.ref p] ∧ SqL X.K H p (ns.map V.int) ∧ Q (.int ns.sum) H) := by
  intro pins s σ H xs us Q I r h
  obtain ⟨p, ns, rfl, hp, q⟩ := h
  obtain ⟨u, rfl, ru⟩ := vals1 r
  cases ru
  obtain ⟨its, rv, pl, hz⟩ := I.list hp
  have hi : IntsAre its ns := intsAre_of rv
  obtain ⟨ps, eps⟩ := hi.allInts.items
  have hn : ns = ps.toList.map (·.1) := by
    rw [← nums_intItems, ← eps]
    exact hi.numsOf.symm
  refine sum_intListG (xs := ps) (I.ok.hd hc) (by rw [← eps]; exact pl.isList) fun h' tk t' hk => ?_
  refine ⟨.int ns.sum, H, I.kept (t' := tk) hk, ⟨t', ?_⟩, q⟩
  rw [hn, preSum_eq, List.take_of_length_le (by simp)]
end
/-! ### for k, v in d.items() -/
section
variable {prog : Program} {w : World} {A : Around} {E : Value → Shared → Prop} {s : Shared} {d it : Addr} {o : Obj} {es : Array DictEntry} {ep i : Nat} {ok ov : Value}
theorem rawI_view (d : Addr) (low : (d == sysModules) = false) : MeetsIn prog w (Builtin.«dict.items» ⟨[.ref d], []⟩) (fun _ R s => s.TypeIs (.ref d) "dict" ∧ R (.ok (.ret (.ref s.heap.objs.size))) { s with heap := s.heap.push { cls := .type "dict_items", data := .fields #[.ref d] } }) :=
  .of_wp fun A R s ⟨hT, h⟩ => by
    unfold Builtin.«dict.items» Builtin.Dict.noArgs
    refine wpAny_bind (wpAny_bind (wpAny_notOrdered_dict hT ?_))
    refine (show wpAny _ _ (pure d) _ _ s from wpAny_pure ?_)
    refine (show wpAny _ _ (Builtin.Dict.showsAll d >>= _) _ _ s from ?_)
    unfold Builtin.Dict.showsAll
    rw [low]
    exact wpAny_bind (wpAny_pure (wpAny_bind (wpAny_newObj_type (wpAny_pure ⟨_, rfl, h⟩))))
theorem rawI_iter {v : Addr} {Q : Value → Shared → Prop} (hv : s.heap.IsItemsView v d) (ho : s.heap.get? d = some o) (hdat : o.data = .dict es ep)
    (fin : Q (.ref s.heap.objs.size) { s with heap := s.heap.push { cls := .type "dict_itemiterator", data := .fields #[.none, .bool false, .ref d, .int 0 0, .int es.size 0, .int ep 0, .none, .none] } }) : wpAny (model prog w) A (pyIter (.ref v)) Q E s := by
  obtain ⟨ov, hov, hcv, hdv⟩ := id hv
  refine wpAny_pyIter_slot hv.typeIs F.slot_dict_items_iter (wpAny_call_entry F.slot_dict_items_iter hv.typeIs F.entry_dict_items_iter ?_ (F.args_dict_items_iter_1 _))
  unfold Builtin.«dict_items.__iter__» Builtin.Dict_items.dictOf Builtin.Dict_items.newIterator
  refine wpAny_bind (wpAny_pure (wpAny_bind (wpAny_bind (wpAny_field hov hdv (x := .ref d) rfl (wpAny_pure (wpAny_bind (wpAny_bind (wpAny_dictEntries ho hdat (wpAny_bind (wpAny_dictEpoch ho hdat ?_))))))))))
  have own : Builtin.Dict_items.ownsTuple "dict_itemiterator" = true := by decide
  simp only [own, if_true]
  refine wpAny_newObj_type (wpAny_pure ⟨_, rfl, "dict_itemiterator", _, ⟨_, Heap.get?_push_size _ rfl, rfl⟩, F.slot_dict_itemiterator_next.lookup, ?_⟩) (by simp only [sizeOk, Builtin.Dict_items.ownedTupleFields, List.size_toArray, List.length_append, List.length_cons, List.length_nil, sizeLine_eq]; omega)
  simpa [rawInt, Builtin.Dict_items.ownedTupleFields] using fin
theorem rawI_item {e : DictEntry} {Q : Option Value → Shared → Prop} (hit : IsItemIter s.heap it d i es.size ep ok ov) (ho : s.heap.get? d = some o) (hdat : o.data = .dict es ep) (he : es[i]? = some e)
    (fin : ∀ h', IsItemIterOut h' it d (i + 1) es.size ep e.key e.val s.heap.objs.size → h'.get? s.heap.objs.size = some { cls := .type "tuple", data := .seq #[e.key, e.val] } → (∀ b o, b ≠ it → s.heap.get? b = some o → h'.get? b = some o) → Q (some (.ref s.heap.objs.size)) { s with heap := h' }) :
    wpAny (model prog w) A (pyNext (.ref it)) Q E s := by
  obtain ⟨hp, g, dr, tk, os⟩ := s
  have hT : Shared.TypeIs ⟨hp, g, dr, tk, os⟩ (.ref it) "dict_itemiterator" := ⟨_, hit, rfl⟩
  have lt : i < es.size := (Array.getElem?_eq_some_iff.mp he).1
  have own : Builtin.Dict_items.ownsTuple "dict_itemiterator" = true := by decide
  unfold pyNext
  refine wpAny_bind (wpAny_attempt (wpAny_callSpecial?_slot (name := Str.ofString "__next__") hT F.slot_dict_itemiterator_next (wpAny_call_entry F.slot_dict_itemiterator_next hT F.entry_dict_itemiterator_next ?_ (F.args_dict_itemiterator_next_1 _))))
  refine wpAny_bind (wpAny_pure (wpAny_bind (wpAny_bind ?_)))
  first | refine wpAny_bind (wpAny_typeNameOfWhole_itemiter hT (wpAny_pure (wpAny_bind (wpAny_fieldsOf hit rfl ?_)))) | refine wpAny_bind (wpAny_typeNameOf_itemiter hT (wpAny_pure (wpAny_bind (wpAny_fieldsOf hit rfl ?_))))
  simp only [own, if_true]
  refine (show wpAny _ _ (if (Value.ref d == Value.none) = true then _ else _) _ _ _ from ?_)
  rw [if_neg (show ¬ (Value.ref d == Value.none) = true from Bool.false_ne_true)]
  refine wpAny_bind (wpAny_pure (wpAny_bind (wpAny_dictEntries ho hdat ?_)))
  rw [if_neg (show ¬ _ by simp)]
  refine wpAny_bind (wpAny_pure (wpAny_bind (wpAny_dictEpoch ho hdat ?_)))
  rw [if_neg (show ¬ _ by simp)]
  refine wpAny_pure ?_
  simp only [show ¬ ((i : Int) < 0) by omega, if_false, Int.toNat_natCast, he]
  refine wpAny_bind ?_
  first | refine wpAny_bind (wpAny_typeNameOfWhole_itemiter hT (wpAny_pure (wpAny_bind (wpAny_isOneOf_itemiter hT ?_)))) | refine wpAny_bind (wpAny_typeNameOf_itemiter hT (wpAny_pure (wpAny_bind (wpAny_isOneOf_itemiter hT ?_))))
  refine (show wpAny _ _ (setField (.ref it) 3 (rawInt ((i : Int) + 1)) >>= _) _ _ ⟨hp, g, dr, tk, os⟩ from wpAny_bind (wpAny_setField_rec hit (by simp) fun h1 k1 b1 => ?_))
  have k1' : IsItemIter h1 it d (i + 1) es.size ep ok ov := by
    unfold IsItemIter
    rw [show ((i + 1 : Nat) : Int) = (i : Int) + 1 by omega]
    simpa [rawInt] using k1
  have hT1 : Shared.TypeIs ⟨h1, g, dr, tk, os⟩ (.ref it) "dict_itemiterator" := ⟨_, k1', rfl⟩
  have b1' : Heap.SameBut it hp h1 := b1
  refine wpAny_bind (wpAny_holding (wpAny_bind (wpAny_isOneOf_itemiter hT1 (wpAny_bind (wpAny_isOneOf_itemiter hT1 ?_)))))
  refine (show wpAny _ _ (Builtin.Dict_items.pairFromOwner (.ref it) 6 e.key e.val) _ _ ⟨h1, g, dr, tk, os⟩ from ?_)
  unfold Builtin.Dict_items.pairFromOwner
  refine wpAny_bind (wpAny_newTuple ?_)
  obtain ⟨h2, eh2⟩ : ∃ h2, h2 = h1.push { cls := .type "tuple", data := .seq #[e.key, e.val] } := ⟨_, rfl⟩
  have k2 : IsItemIter h2 it d (i + 1) es.size ep ok ov := by rw [eh2]; exact Heap.get?_push_of_some _ k1'
  have z1 : h1.objs.size = hp.objs.size := b1'.1
  have lti : it < hp.objs.size := Heap.lt_size hit
  have t2 : h2.get? hp.objs.size = some { cls := .type "tuple", data := .seq #[e.key, e.val] } := by rw [eh2, ← z1]; exact Heap.get?_push_size _ rfl
  have o2 : ∀ b o, b ≠ it → hp.get? b = some o → h2.get? b = some o := fun b o hb q => by rw [eh2]; exact Heap.get?_push_of_some _ (b1'.extBut b o hb q)
  refine (show wpAny _ _ (Builtin.Dict_items.ownedTupleIsFree (.ref it) >>= _) _ _ ⟨h1.push { cls := .type "tuple", data := .seq #[e.key, e.val] }, g, dr, tk, os⟩ from ?_)
  rw [← eh2, z1]
  clear eh2 k1 k1' b1 b1' hT1 z1 h1
  unfold Builtin.Dict_items.ownedTupleIsFree
  refine wpAny_bind (wpAny_bind (wpAny_field k2 rfl (x := .none) rfl (wpAny_pure ?_)))
  simp only [if_true]
  refine wpAny_bind (wpAny_field k2 rfl (x := ok) rfl (wpAny_bind (wpAny_field k2 rfl (x := ov) rfl (wpAny_bind (wpAny_setField_rec k2 (by simp) fun h3 k3 b3 => ?_)))))
  have k3' : IsItemIter h3 it d (i + 1) es.size ep e.key ov := k3
  refine wpAny_bind (wpAny_setField_rec k3' (by simp) fun h4 k4 b4 => ?_)
  have k4' : IsItemIter h4 it d (i + 1) es.size ep e.key e.val := k4
  refine wpAny_bind (wpAny_setField_rec k4' (by simp) fun h5 k5 b5 => ?_)
  have k5' : IsItemIterOut h5 it d (i + 1) es.size ep e.key e.val hp.objs.size := k5
  refine wpAny_bind (wpAny_setField_rec k5' (by simp) fun h6 k6 b6 => ?_)
  have k6' : IsItemIterOut h6 it d (i + 1) es.size ep e.key e.val hp.objs.size := k6
  have all : ∀ b o, b ≠ it → h2.get? b = some o → h6.get? b = some o := fun b o hb q => b6.extBut b o hb (b5.extBut b o hb (b4.extBut b o hb (b3.extBut b o hb q)))
  exact wpAny_bind (wpAny_letGo (wpAny_pure (wpAny_pure ⟨_, rfl, wpAny_pure (fin h6 k6' (all _ _ (Nat.ne_of_gt lti) t2) fun b o hb q => all b o hb (o2 b o hb q))⟩)))
theorem rawI_end {Q : Option Value → Shared → Prop} (hh : A.handled = none) (hit : IsItemIter s.heap it d i es.size ep ok ov) (ho : s.heap.get? d = some o) (hdat : o.data = .dict es ep) (he : es.size ≤ i)
    (fin : ∀ h', Heap.ExtBut it s.heap h' → Q none { s with heap := h' }) : wpAny (model prog w) A (pyNext (.ref it)) Q E s := by
  have hT : s.TypeIs (.ref it) "dict_itemiterator" := ⟨_, hit, rfl⟩
  have own : Builtin.Dict_items.ownsTuple "dict_itemiterator" = true := by decide
  unfold pyNext
  refine wpAny_bind (wpAny_attempt (wpAny_callSpecial?_slot (name := Str.ofString "__next__") hT F.slot_dict_itemiterator_next (wpAny_call_entry F.slot_dict_itemiterator_next hT F.entry_dict_itemiterator_next ?_ (F.args_dict_itemiterator_next_1 _))))
  refine wpAny_bind (wpAny_pure (wpAny_bind (wpAny_bind ?_)))
  first | refine wpAny_bind (wpAny_typeNameOfWhole_itemiter hT (wpAny_pure (wpAny_bind (wpAny_fieldsOf hit rfl ?_)))) | refine wpAny_bind (wpAny_typeNameOf_itemiter hT (wpAny_pure (wpAny_bind (wpAny_fieldsOf hit rfl ?_))))
  simp only [own, if_true]
  refine (show wpAny _ _ (if (Value.ref d == Value.none) = true then _ else _) _ _ s from ?_)
  rw [if_neg (show ¬ (Value.ref d == Value.none) = true from Bool.false_ne_true)]
  refine wpAny_bind (wpAny_pure (wpAny_bind (wpAny_dictEntries ho hdat ?_)))
  rw [if_neg (show ¬ _ by simp)]
  refine wpAny_bind (wpAny_pure (wpAny_bind (wpAny_dictEpoch ho hdat ?_)))
  rw [if_neg (show ¬ _ by simp)]
  refine wpAny_pure ?_
  simp only [show ¬ ((i : Int) < 0) by omega, if_false, Int.toNat_natCast, Array.getElem?_eq_none he]
  refine wpAny_bind ?_
  first | refine wpAny_bind (wpAny_typeNameOfWhole_itemiter hT (wpAny_pure ?_)) | refine wpAny_bind (wpAny_typeNameOf_itemiter hT (wpAny_pure ?_))
  refine (show wpAny _ _ (setField (.ref it) 2 .none >>= _) _ _ s from wpAny_bind (wpAny_setField hit rfl (by simp) ?_))
  refine (show wpAny _ _ (newExc (.type "StopIteration") [] >>= _) _ _ _ from wpAny_bind ?_)
  simp only [newExc, newTuple]
  refine wpAny_bind (wpAny_newObj_type (wpAny_bind (m := firstArgMember _ _) (wpAny_of_eq (a := Value.none) (by first | rfl | (simp only [firstArgMember]; rfl)) (wpAny_newObj_type ?_ (by size_fits)))) (by size_fits))
  simp only [raiseNew]
  refine wpAny_bind (wpAny_handled ?_)
  rw [show A.in1.handled = none from hh]
  refine wpAny_bind (wpAny_pure (wpAny_throw ?_))
  refine wpAny_bind (wpAny_isInstance (b := true) (T := "StopIteration") ⟨_, Heap.get?_push_size _ rfl, rfl⟩ isSubtype_stop ?_)
  exact wpAny_pure (fin _ (((Heap.SameBut.update ..).extBut.push _).push _))
end
/-- what a loop over the dict's pairs gives, the dict staying as it is -/
def Itp (P : Program) (w : World) (c : Bool) (d : Addr) (kvs : List (PyData × V)) (xs : List (PyData × Addr × Value)) (ep : Nat) : It :=
  ⟨fun i H => H d = some (.ext (dφ P w c d xs ep)) ∧ i < xs.length, fun i H x H' => ∃ t k b u v, x = .ref t ∧ H t = none ∧ xs[i]? = some (k, b, u) ∧ kvs[i]? = some (k, v) ∧ H' = upd H t (.tup [.ref b, v]), fun i H => H d = some (.ext (dφ P w c d xs ep)) ∧ xs.length ≤ i⟩
theorem turn_items {P : Program} {w : World} {K : PySem.W.Frag} {es' : List Expr} {kk : Nat} {tp : Pos} {c : Bool} {kvs : List (PyData × V)} {xs : List (PyData × Addr × Value)} {ep : Nat} (hkv : Paired (fun (p : PyData × V) (q : PyData × Addr × Value) => p.1 = q.1 ∧ RelV p.2 q.2.2) kvs xs) (d it : Addr) :
    Turn P w K (.Tuple es' kk tp) (Itp P w c d kvs xs ep) [it] it (fun i h => ∃ ok ov, IsItemIter h it d i xs.length ep ok ov) where
  mem := by simp
  obj := fun i h st b hb => by
    have e : b = it := by simpa using hb
    subst e
    obtain ⟨ok, ov, he⟩ := st
    exact ⟨_, he, fun v z => by
      have z' : Data.fields _ = Data.cell v := z
      cases z'⟩
  keep := fun i h h' st k => by
    obtain ⟨ok, ov, he⟩ := st
    exact ⟨ok, ov, k it (by simp) _ he⟩
  item := by
    intro X hP hw hK hc i pins s σ H E I hf st hg
    subst hP hw hK
    obtain ⟨ok, ov, st⟩ := st
    obtain ⟨hd, hi⟩ := hg
    obtain ⟨h0, o, es, h1, h2, h3, h4, h5⟩ := dict_obj I hd
    obtain ⟨f0, f1, f2, f3, f4, f5⟩ := hf it (by simp)
    have e1 := List.getElem?_eq_getElem hi
    generalize xs[i] = x at e1
    obtain ⟨k, b, u⟩ := x
    obtain ⟨⟨k', v⟩, e3, ek, rv⟩ := My.paired_get hkv i _ e1
    cases ek
    have e2 : es[i]? = some (entryOfKey (nkKind X.prog X.w c) (k, b, u)) := by rw [entry_at h4, e1]; rfl
    refine rawI_item (es := es) (by rw [h5]; exact st) h1 h3 e2 fun h' ho htp kp => ⟨_, rfl, ?_⟩
    rw [h5] at ho
    refine wpAny_letOwnedTupleGo_items ho fun h2 he2 hs2 => ?_
    have kp2 : ∀ b o, b ∉ [it] → s.heap.get? b = some o → h2.get? b = some o := fun b o hb q => (hs2.2 b (fun z => hb (by simp [z]))).trans (kp b o (fun z => hb (by simp [z])) q)
    have fr : H s.heap.objs.size = none := I.fresh
    have nit : ∀ {b : Addr} {v : HO}, H b = some v → b ∉ [it] := fun {b v} q z => by
      rw [List.mem_singleton.mp z, f0] at q
      cases q
    have lte : it < s.heap.objs.size := Heap.lt_size st
    have ht2 : h2.get? s.heap.objs.size = some { cls := .type "tuple", data := .seq #[.ref b, u] } := (hs2.2 _ (Nat.ne_of_gt lte)).trans htp
    have I1 : Inv X pins σ (upd H s.heap.objs.size (.tup [.ref b, v])) { s with heap := h2 } := by
      have un : Un (frs X.stack) [it] H (upd H s.heap.objs.size (.tup [.ref b, v])) s.heap h2 :=
        ⟨fun b o q _ _ hx => kp2 b o hx q, fun b o q _ _ hx => ⟨o.slots, kp2 b o hx q⟩, fun b o q n _ => by rw [upd_ne (Nat.ne_of_lt (Heap.lt_size q))]; exact n, fun b o q hx => ⟨o, kp2 b o hx q⟩,
          fun b ys q => by rw [upd_ne (ne_of_none q fr)]; exact q, fun b o v q => by rw [upd_ne (ne_of_none q fr)]; exact q, fun b ps q => ⟨#[], by rw [upd_ne (ne_of_none q fr), q]; simp⟩⟩
      refine I.call (g' := s.gens) (d' := s.drawn) un (fun c' v' q => ?_) I.bare fun c' hb => ?_
      · by_cases hb : c' = s.heap.objs.size
        · subst hb
          rw [upd_same] at q
          cases q
          exact ⟨by show 2 ≤ sizeLine; decide, [.ref b, u], .cons rfl (.cons rv .nil), ⟨_, ht2, ⟨rfl, _, rfl⟩, rfl⟩⟩
        · rw [upd_ne hb] at q
          refine (I.hok c' v' q).stay (fun c o hc e1 => kp2 c o ?_ e1) (fun c e1 => ?_) fun c ys e1 => ?_
          · rcases hc with z | z
            · rw [z]; exact nit q
            · exact nit z
          · rw [upd_ne (ne_of_none e1 fr)]; exact e1
          · rw [upd_ne (ne_of_none e1 fr)]; exact e1
      · rw [List.mem_singleton.mp hb]
        exact ⟨f3, f1, f4, f5⟩
    refine ⟨.ref s.heap.objs.size, _, I1, rfl, ⟨_, k, b, u, v, rfl, fr, e1, e3, rfl⟩, ⟨_, _, he2⟩, fun c' hb => ?_⟩
    rw [List.mem_singleton.mp hb, upd_ne (Nat.ne_of_lt lte)]
    exact f0
  done := by
    intro X hP hw hK hc i pins s σ H E I hf st hg
    subst hP hw hK
    obtain ⟨ok, ov, st⟩ := st
    obtain ⟨hd, hi⟩ := hg
    obtain ⟨h0, o, es, h1, h2, h3, h4, h5⟩ := dict_obj I hd
    obtain ⟨f0, f1, f2, f3, f4, f5⟩ := hf it (by simp)
    exact rawI_end (es := es) (I.ok.hd hc) (by rw [h5]; exact st) h1 h3 (by omega) fun h' eb => ⟨rfl, I.turned (t' := s.toks) (fun b o hb e => eb b o hb e) f0 f1 f3 f4 f5⟩
  self := fun _ _ _ _ _ st h => by
    obtain ⟨ok, ov, he⟩ := st
    exact PySem.W.kcp_self he h
def iItems (P : Program) (w : World) (K : PySem.W.Frag) (c : Bool) (td : TE) : TI := fun σ H R => td σ H fun x H1 => ∃ a kvs xs ep, x = .ref a ∧ H1 a = some (.ext (dφ P w c a xs ep)) ∧ DRel K H1 c kvs xs ∧ R (Itp P w c a kvs xs ep) H1
theorem pi_items {X : Cx} {o : Expr} {td : TE} {apos cpos : Pos} {es' : List Expr} {kk : Nat} {tp : Pos} (c : Bool) (ho : PE X o td) (hbase : attributeBase o "items" X.env (eval o X.env) = eval o X.env := by rfl) (hline : (apos.endLine == cpos.line) = true := by rfl) :
    PI X (.Tuple es' kk tp) (.Call (.Attribute o "items" apos) [] [] cpos) (iItems X.prog X.w X.K c td) := by
  intro pins s σ H R I h
  refine wpAny_Call_method0_late hbase hline (thn (ho pins s σ H _ I h) fun v s1 ⟨x, H1, I1, r1, a, kvs, xs, ep, ex, he, hr, q⟩ => ?_)
  subst ex
  obtain rfl : v = Value.ref a := r1
  obtain ⟨h0, o', es, h1, h2, h3, h4, h5⟩ := dict_obj I1 he
  refine ⟨"dict", "dict.items", PySem.F.plainAttrs_dict, PySem.F.slot_dict_items, PySem.F.type_dict_items, td_of h1 h2, (fun b e => by cases e; exact ⟨o', h1, h2.2.1⟩), Calls.callWith_builtin rfl (PySem.evalArgs_none ?_)⟩
  refine call_meetsIn PySem.F.slot_dict_items (td_of h1 h2) PySem.F.entry_dict_items (PySem.F.args_dict_items_1 _) (rawI_view a h0) ⟨td_of h1 h2, ?_⟩
  have I2 : Inv X pins σ H1 { s1 with heap := s1.heap.push { cls := .type "dict_items", data := .fields #[.ref a] } } := I1.kept (t' := s1.toks) fun b o e => Heap.get?_push_of_some _ e
  refine rawI_iter (s := { s1 with heap := s1.heap.push { cls := .type "dict_items", data := .fields #[.ref a] } }) ⟨_, Heap.get?_push_size _ rfl, rfl, rfl⟩ (Heap.get?_push_of_some _ h1) h3 ?_
  refine ⟨(s1.heap.push { cls := .type "dict_items", data := .fields #[.ref a] }).objs.size, [(s1.heap.push { cls := .type "dict_items", data := .fields #[.ref a] }).objs.size], _, _, H1, rfl, I2.kept (t' := s1.toks) fun b o e => Heap.get?_push_of_some _ e, turn_items (My.paired_imp (fun _ _ h => ⟨h.1, h.2.2⟩) hr) a _, ⟨.none, .none, ?_⟩, fun b hb => ?_, q⟩
  · show Heap.get? _ _ = _
    rw [Heap.get?_push_size _ rfl, h5]
    rfl
  · rw [List.mem_singleton.mp hb]
    exact I2.fpOk (Nat.le_refl _) (I2.hok.fresh (Nat.le_refl _))
/-- over a dict's pairs, the body leaving the dict as it is -/
theorem for_items {P : Program} {w : World} {c : Bool} {a : Addr} {kvs : List (PyData × V)} {xs : List (PyData × Addr × Value)} {ep : Nat} {g : TG} {tb : TS} {D : Ends} {σ : St} {H : Hp} (Pv : Nat → St → Hp → Prop) (h0 : Pv 0 σ H) (hl : ∀ i σ H, i ≤ xs.length → Pv i σ H → H a = some (.ext (dφ P w c a xs ep)))
    (hs : ∀ i t k b u v σ H, xs[i]? = some (k, b, u) → kvs[i]? = some (k, v) → H t = none → Pv i σ H → g (.ref t) σ (upd H t (.tup [.ref b, v])) fun σ2 H2 => tb { D with nx := Pv (i + 1), ct := Pv (i + 1), bk := D.nx } σ2 H2) (hd : ∀ σ H, Pv xs.length σ H → D.nx σ H) :
    ∃ W : Nat → Nat → St → Hp → Prop, (∃ m, W 0 m σ H) ∧ ∀ i m σ H, W i m σ H →
      ((Itp P w c a kvs xs ep).stop i H ∧ D.nx σ H) ∨ ((Itp P w c a kvs xs ep).go i H ∧ ∃ N : St → Hp → Prop, (∀ σ' H', N σ' H' → ∃ m', m' < m ∧ W (i + 1) m' σ' H') ∧ ∀ x H', (Itp P w c a kvs xs ep).yld i H x H' → g x σ H' fun σ2 H2 => tb { D with nx := N, ct := N, bk := D.nx } σ2 H2) := by
  refine ⟨fun i m σ H => m = xs.length - i ∧ i ≤ xs.length ∧ Pv i σ H, ⟨xs.length, by simp, Nat.zero_le _, h0⟩, ?_⟩
  rintro i m σ H ⟨rfl, hi, p⟩
  have q := hl i σ H hi p
  by_cases hlt : i < xs.length
  · refine .inr ⟨⟨q, hlt⟩, Pv (i + 1), fun σ' H' p' => ⟨xs.length - (i + 1), by omega, rfl, hlt, p'⟩, fun x H' y => ?_⟩
    obtain ⟨t, k, b, u, v, ex, ht, e1, e2, e3⟩ := y
    subst ex e3
    exact hs i t k b u v σ _ e1 e2 ht p
  · have e : i = xs.length := by omega
    subst e
    exact .inl ⟨⟨q, Nat.le_refl _⟩, hd σ H p⟩
theorem Walk.dict {P : Program} {w : World} {c : Bool} {H1 : Hp} {a : Addr} {xs : List (PyData × Addr × Value)} {ep : Nat} (h : H1 a = some (.ext (dφ P w c a xs ep))) : Walk (Itn P w c a xs ep) H1 xs.length (fun k x _ => x = (xs[k]?.map fun q => V.ref q.2.1).getD .non) where
  go := fun k H2 s hk => ⟨s _ _ h, hk⟩
  yld := fun k H2 x H3 s hk y => by
    obtain ⟨e, kk, b, u, e1, e2⟩ := y
    rw [e]
    exact ⟨Same.refl _, by rw [e1, e2]; rfl⟩
  stop := fun H2 s => ⟨s _ _ h, Nat.le_refl _⟩
/-- a dict stays while another one changes -/
theorem DAt.putD {P : Program} {w : World} {K : PySem.W.Frag} {c : Bool} {H : Hp} {d l : Addr} {kvs : List (PyData × V)} {φ : Heap → Prop} {o : HO} (h : DAt P w K c H d kvs) (hl : H l = some (.ext φ)) (hne : d ≠ l) : DAt P w K c (upd H l o) d kvs := by
  obtain ⟨⟨xs, ep, e, r⟩, z⟩ := h
  refine ⟨⟨xs, ep, ?_, r.mono fun a xs t => seqT_put hl a xs t⟩, z⟩
  rw [upd_ne hne]
  exact e
end L2

namespace My
open PySem L2 PyProof.Rows
theorem _root_.L2.Def.has {P : Program} {w : World} {K : PySem.W.Frag} {h base : Heap} {mg : Str → Option Value} {x : Str} {st : Stmt} {f : Addr} {fd : FuncData} {ps : List Str} {k : Nat} {sp : Sp} (d : L2.Def K x st f fd) (X : K.In h) (G : h.Ns mainGlobals mg)
    (hb : Binds K fd ps []) (ok : FnOk P w K mg base CX0 k f fd ps sp) : Has P w K mg base x k ps sp := ⟨f, fd, PySem.W.mg_of X G d.a, d.F.kp, hb, ok⟩
theorem law_mk {K : PySem.W.Frag} {x : Str} {st : Stmt} {f : Addr} {oc : Value} {od an : Option Addr} {osl : Array (Option Value)} {kV doc pm cdv ct : Value} (a : PySem.W.nsIn K mainGlobals x = some (some (.ref f)))
    (l : K.lookup f = some ⟨oc, od, .func (PySem.W.fnOf x x (defArgs st) (defBody st) (defScope st) .none kV doc pm an cdv ct), osl⟩) (c : PySem.W.codeIn K cdv x = true) (k : PySem.W.keepIn K (.ref f) = true)
    (b : ∀ (s : Shared) (v : Value), BindsTo s (PySem.W.fnOf x x (defArgs st) (defBody st) (defScope st) .none kV doc pm an cdv ct) ⟨[v], []⟩ [("script", v)]) :
    ∃ f fd, L2.Def K x st f fd ∧ ∀ (s : Shared) (v : Value), BindsTo s fd ⟨[v], []⟩ [("script", v)] := ⟨f, _, ⟨a, fun_mk l c k⟩, b⟩
def spLaw (K : PySem.W.Frag) : Sp := fun vs H Q _ => ∃ (a : Addr) (ns : List Int), vs = [.ref a] ∧ SqL K H a (ns.map V.int) ∧ ns.length ≤ 63 ∧ ∀ H', Q (.bl true) H'
end My

/-! OWN PART 50: k10's law -/
set_option maxHeartbeats 4000000
namespace My
open PySem L2 PyProof.Rows
/-! ### a scheme as data -/
def rowD (r : List Int) : PyData := .tuple (r.map PyData.int)
def tabD2 (t : Tab) : PyData := .tuple (t.map rowD)
def schD (b : Int) (ts : List Tab) : PyData := .tuple [.int b, .tuple (ts.map tabD2)]
theorem repAll_paired {α : Type} {K : PySem.W.Frag} {H : Hp} {F : V → α → Prop} {D : α → PyData} (f : ∀ v x, F v x → Rep K H v (D x)) {vs : List V} {xs : List α} (p : Paired F vs xs) : RepAll K H vs (xs.map D) := by
  induction p with
  | nil => exact .nil
  | cons h _ ih => exact .cons (f _ _ h) ih
theorem rep_row {K : PySem.W.Frag} {H : Hp} {v : V} {r : List Int} (h : RowAt H v r) : Rep K H v (rowD r) := by
  obtain ⟨a, rfl, h⟩ := h
  exact .tup (SqT.of h) (RepAll.ints r)
theorem rep_tab {K : PySem.W.Frag} {H : Hp} {v : V} {t : Tab} (h : TabAt H v t) : Rep K H v (tabD2 t) := by
  obtain ⟨a, vs, rfl, h, p⟩ := h
  exact .tup (SqT.of h) (repAll_paired (D := rowD) (fun _ _ h => rep_row h) p)
theorem rep_sch {K : PySem.W.Frag} {H : Hp} {v : V} {b : Int} {ts : List Tab} (h : SchAt H v b ts) : Rep K H v (schD b ts) := by
  obtain ⟨a, w', rfl, h, a2, vs, rfl, h2, p⟩ := h
  exact .tup (SqT.of h) (.cons (.int b) (.cons (.tup (SqT.of h2) (repAll_paired (D := tabD2) (fun _ _ h => rep_tab h) p)) .nil))
theorem lay_map {α : Type} {D : α → PyData} (h : ∀ x, (D x).canLay0 = true) : ∀ xs : List α, PyData.canLayAll0 (xs.map D) = true
  | [] => by simp [PyData.canLayAll0]
  | x :: xs => by simp [PyData.canLayAll0, h x, lay_map h xs]
theorem depth_map {α : Type} {D : α → PyData} {c : Nat} (h : ∀ x, (D x).depth ≤ c) : ∀ xs : List α, PyData.depthAll (xs.map D) ≤ c
  | [] => by simp [PyData.depthAll]
  | x :: xs => by
    have h1 := h x
    have h2 := depth_map h xs
    simp only [List.map_cons, PyData.depthAll]
    omega
theorem eqv_map {α : Type} {D : α → PyData} (h : ∀ x, PyData.eqv (D x) (D x) = true) : ∀ xs : List α, PyData.eqvAll (xs.map D) (xs.map D) = true
  | [] => by simp [PyData.eqvAll]
  | x :: xs => by simp [PyData.eqvAll, h x, eqv_map h xs]
theorem lay_row (r : List Int) : (rowD r).canLay0 = true := by simp [rowD, PyData.canLay0, L2.canLay_ints]
theorem lay_tab (t : Tab) : (tabD2 t).canLay0 = true := by
  unfold tabD2
  simp [PyData.canLay0, lay_map lay_row]
theorem depth_row (r : List Int) : (rowD r).depth ≤ 10 := by simp [rowD, PyData.depth, L2.depthAll_ints]
theorem depth_tab (t : Tab) : (tabD2 t).depth ≤ 20 := by
  have := depth_map depth_row t
  unfold tabD2
  simp only [PyData.depth]
  omega
theorem eqv_row (r : List Int) : PyData.eqv (rowD r) (rowD r) = true := by simp [rowD, PyData.eqv, L2.eqv_ints]
theorem eqv_tab (t : Tab) : PyData.eqv (tabD2 t) (tabD2 t) = true := by
  unfold tabD2
  simp [PyData.eqv, eqv_map eqv_row]
theorem plain_sch (b : Int) (ts : List Tab) : Plain (schD b ts) := by
  refine ⟨?_, ?_⟩
  · simp [schD, PyData.canLay0, PyData.canLayAll0, lay_map lay_tab]
  · have := depth_map depth_tab ts
    simp only [schD, PyData.depth, PyData.depthAll]
    omega
theorem eqv_sch (b : Int) (ts : List Tab) : PyData.eqv (schD b ts) (schD b ts) = true := by simp [schD, PyData.eqv, PyData.eqvAll, eqv_map eqv_tab]
/-! ### the sum -/
theorem wsum_range (ws : List Int) : ∀ (fs : List Int) (t : Nat), ((List.range fs.length).map fun k => fs.getD k 0 * ws.getD ((t + k) % ws.length) 0).sum = wsum ws t fs
  | [], t => rfl
  | f :: fs, t => by
    rw [List.length_cons, List.range_succ_eq_map, List.map_cons, List.sum_cons, List.map_map]
    show f * ws.getD ((t + 0) % ws.length) 0 + _ = f * ws.getD (t % ws.length) 0 + wsum ws (t + 1) fs
    rw [Nat.add_zero, ← wsum_range ws fs (t + 1)]
    congr 2
    refine List.map_congr_left fun k _ => ?_
    show fs.getD k 0 * ws.getD ((t + (k + 1)) % ws.length) 0 = fs.getD k 0 * ws.getD ((t + 1 + k) % ws.length) 0
    rw [show t + (k + 1) = t + 1 + k by omega]
theorem RowAt.fr {H H' : Hp} {D : Addr} {ys : List V} {v : V} {r : List Int} (fr : ∀ b o, b ≠ D → H b = some o → H' b = some o) (hD : H D = some (.lst ys)) (h : RowAt H v r) : RowAt H' v r := by
  obtain ⟨a, e, h⟩ := h
  exact ⟨a, e, fr _ _ (ne_of h hD (by intro z; cases z)) h⟩
section
variable {P : Program} {w : World} {K : PySem.W.Frag} {mg : Str → Option Value} {base : Heap}
theorem sc_law : FnScope ["script", "base", "weights", "modulus", "bad", "handed", "found", "tables", "weight", "rows", "state", "figures", "total"] ["script"] (defScope sLaw) := ⟨rfl, rfl, rfl, by decide +kernel, rfl, by decide +kernel, by decide +kernel⟩
theorem ok_law {f : Addr} {fd : FuncData} (F : Fun K "law" "law" sLaw f fd) (B : Blt mg)  (h__law_given : Has P w K mg base "_law_given" 2 ["script"] (spGiven K)) (h__law_told : Has P w K mg base "_law_told" 5 ["base", "weights", "modulus"] (spTold K)) (h__law_figures : Has P w K mg base "_law_figures" 2 ["script", "at", "base", "most"] (spFigures K)) (h_state_after : Has P w K mg base "state_after" 7 ["scheme", "figures"] (spState K)) :
    FnOk P w K mg base CX0 9 f fd ["script"] (spLaw K) := by
  refine F.ok sc_law (fun vs H Q E h => ?_) (fun cdv A outer s H vs Q E hr h => ?_)
  · obtain ⟨_, _, rfl, _⟩ := h
    rfl
  · obtain ⟨a, ns, rfl, hSq, hlen, q⟩ := h
    have nd := sc_law.nd
    have hu := hr.units
    refine ⟨_, (pss_cons (ps_asg (pe_fn h__law_given (hr.mono (by decide)) (pa_cons (pv 0) pa_nil)) (pg_tup rfl (pgs_cons (pg_name (i := 1) nd rfl (Or.inl rfl)) (pgs_cons (pg_name (i := 2) nd rfl (Or.inr rfl)) (pgs_cons (pg_name (i := 3) nd rfl (Or.inr rfl)) (pgs_cons (pg_name (i := 4) nd rfl (Or.inl rfl)) pgs_nil))))))
      (pss_cons (ps_set (i := 5) nd rfl (Or.inl rfl) (pe_callTy call_list_of rfl B.tList boot_list (pa_cons (pv 2) pa_nil)))
      (pss_cons (ps_set (i := 6) nd rfl (Or.inl rfl) (pe_fn h__law_told (hr.mono (by decide)) (pa_cons (pv 1) (pa_cons (pv 5) (pa_cons (pv 3) pa_nil)))))
      (pss_cons (ps_if (pt_cmpR (op_neD hu) (pv 5) (pv 2) (nomark _)) (pss_one (ps_ret pe_bl)) pss_nil)
      (pss_cons (ps_if (pt_val (pv 4)) (pss_one (ps_ret (pe_and (pe_callB call_isinst rfl B.isi boot_isinstance (pa_cons (pv 6) (pa_cons (pe_ty B.tList boot_list) pa_nil))) (pe_one (pe_cmpR (op_eqD hu) (pv 6) (pe_lst (pa_cons pe_int (pa_cons pe_int (pa_cons pe_int pa_nil)))) (nomark _)))))) pss_nil)
      (pss_cons (ps_set (i := 7) nd rfl (Or.inl rfl) (pe_lst pa_nil))
      (pss_cons (ps_for PassesOwn.never rfl (pi_list (pv 2)) (pg_name (i := 8) nd rfl (Or.inr rfl)) (pss_cons (ps_set (i := 9) nd rfl (Or.inl rfl) (pe_lst pa_nil))
      (pss_cons (ps_for PassesOwn.never rfl (pi_range1 rfl B.range (pa_cons (pv 3) pa_nil)) (pg_name (i := 10) nd rfl (Or.inr rfl)) (pss_one (ps_expr (pe_bm PySem.F.plainAttrs_list PySem.F.slot_list_append PySem.F.type_list_append mt_append (pv 9) (pa_cons (pe_callTy call_tuple_of rfl B.tTuple boot_tuple (pa_cons (pe_comp (N := ["figure", "modulus", "state", "weight"]) (js := [none, some 3, some 10, some 8]) rfl rfl (pi_range1 rfl B.range (pa_cons (pv 1) pa_nil)) (fun _ _ _ _ => (pg_name (i := 0) (ndOf (N := ["figure", "modulus", "state", "weight"]) (by decide +kernel)) rfl (Or.inl rfl))) (fun _ _ _ _ => pts_nil) (fun _ _ _ _ => (pe_op op_mod (pe_op op_add (pv 2) (pe_op op_mul (pv 3) (pv 0))) (pv 1)))) pa_nil)) pa_nil)))))
      (pss_one (ps_expr (pe_bm PySem.F.plainAttrs_list PySem.F.slot_list_append PySem.F.type_list_append mt_append (pv 7) (pa_cons (pe_callTy call_tuple_of rfl B.tTuple boot_tuple (pa_cons (pv 9) pa_nil)) pa_nil)))))))
      (pss_cons (ps_if (PW.pt (pw_or (pt_not (pt_val (pe_callB call_isinst rfl B.isi boot_isinstance (pa_cons (pv 6) (pa_cons (pe_ty B.tTuple boot_tuple) pa_nil))))) (pw_or1 (pt_cmpR (op_neD hu) (pv 6) (pe_tup (pa_cons (pv 1) (pa_cons (pe_callTy call_tuple_of rfl B.tTuple boot_tuple (pa_cons (pv 7) pa_nil)) pa_nil))) (nomark _))))) (pss_one (ps_ret pe_bl)) pss_nil)
      (pss_cons (ps_set (i := 11) nd rfl (Or.inr rfl) (pe_fn h__law_figures (hr.mono (by decide)) (pa_cons (pv 0) (pa_cons pe_int (pa_cons (pv 1) (pa_cons pe_int pa_nil))))))
      (pss_cons (ps_set (i := 12) nd rfl (Or.inl rfl) (pe_callB (call_sumL rfl) rfl B.sum boot_sum (pa_cons (pe_comp (N := ["k", "figures", "weights"]) (js := [none, some 11, some 2]) rfl rfl (pi_range1 rfl B.range (pa_cons (pe_callB call_len_seq rfl B.len PySem.boot_len (pa_cons (pv 11) pa_nil)) pa_nil)) (fun _ _ _ _ => (pg_name (i := 0) (ndOf (N := ["k", "figures", "weights"]) (by decide +kernel)) rfl (Or.inl rfl))) (fun _ _ _ _ => pts_nil) (fun _ _ _ _ => (pe_op op_mul (pe_ix (ix_listK K) (pv 1) (pv 0) (fun _ _ => rfl)) (pe_ix (ix_listK K) (pv 2) (pe_op op_mod (pv 0) (pe_callB (call_lenK K) rfl B.len PySem.boot_len (pa_cons (pv 2) pa_nil))) (fun _ _ => rfl))))) pa_nil)))
      (pss_one (ps_ret (pe_cmpR op_eq (pe_fn h_state_after (hr.mono (by decide)) (pa_cons (pv 6) (pa_cons (pv 11) pa_nil))) (pe_op op_mod (pv 12) (pv 3)) (nomark _)))))))))))))), ?_⟩
    refine sealE fun E0 hN0 hR0 => ?_
    refine cut2 fun T1 hT1 => ?_
    refine ⟨_, rfl, a, ns, rfl, hSq, fun t W b m ws bad H1 s1 ht hW hl hbad hgood => ?_⟩
    refine ⟨t, _, rfl, SqT.of ht, rfl, _, _, rfl, _, _, rfl, _, _, rfl, _, _, rfl, rfl, ?_⟩
    refine ⟨_, rfl, W, _, rfl, .inl (SqL.of hW), fun l hl1 => hT1 _ _ ?_⟩
    clear hT1
    have u1 := Same.new (o := HO.lst (ws.map V.int)) hl1
    have s02 := s1.trans u1
    have hW2 := u1 _ _ hW
    have hl2 : upd H1 l (.lst (ws.map V.int)) l = some (.lst (ws.map V.int)) := upd_same
    generalize upd H1 l (.lst (ws.map V.int)) = H2 at s02 hW2 hl2 ⊢
    clear hl1 u1
    cases bad with
    | true =>
      refine ⟨_, rfl, _, rfl, _, rfl, b, m, l, ws, rfl, SqL.of hl2, by omega, (fun ok => absurd ok (hbad rfl)), fun _ l3 H3 s3 h3 => ?_⟩
      refine ⟨_, rfl, _, rfl, _, _, Rep.ints (SqL.of (s3 _ _ hl2)), Rep.ints (SqL.of (s3 _ _ hW2)), Plain.ints _, Plain.ints _, _, rfl, ifN (by rw [eqv_lists, decide_eq_true rfl]; rfl) ?_⟩
      refine ⟨_, rfl, _, rfl, ifY rfl ?_⟩
      refine ⟨_, rfl, _, _, _, _, rfl, .lst h3, kit_lst_lst, _, rfl, iteT ?_⟩
      refine ⟨_, rfl, (by show 3 ≤ sizeLine; decide), fun l4 hl4 => ?_⟩
      have s4 := Same.new (o := HO.lst [V.int 0, V.int 1, V.int 1]) hl4
      refine ⟨_, _, Rep.ints (ns := [0, 1, 1]) (SqL.of (s4 _ _ h3)), Rep.ints (ns := [0, 1, 1]) (SqL.of upd_same), Plain.ints _, Plain.ints _, ?_⟩
      rw [eqv_lists, decide_eq_true rfl]
      exact hR0 _ _ (q _)
    | false =>
      have ok := hgood rfl
      obtain ⟨b1, b2, m1, m2, l1, l2, hw⟩ := id ok
      refine ⟨_, rfl, _, rfl, _, rfl, b, m, l, ws, rfl, SqL.of hl2, by omega, (fun _ v H3 s3 hSch => ?_), fun n => absurd ok n⟩
      have hW3 := s3 _ _ hW2
      have s03 := s02.trans s3
      refine ⟨_, rfl, _, rfl, _, _, Rep.ints (SqL.of (s3 _ _ hl2)), Rep.ints (SqL.of hW3), Plain.ints _, Plain.ints _, _, rfl, ifN (by rw [eqv_lists, decide_eq_true rfl]; rfl) ?_⟩
      refine ⟨_, rfl, _, rfl, ifN rfl ?_⟩
      -- tables
      refine cut3 fun T2 hT2 => ?_
      refine ⟨(by show 0 ≤ sizeLine; decide), fun lT hlT => ?_⟩
      have uT := Same.new (o := HO.lst []) hlT
      obtain ⟨I1, hI1⟩ : ∃ I1 : Nat → L2.St → Hp → Prop, ∀ i σ H4, I1 i σ H4 ↔ ∃ vs o8 o9 o10 o11 o12, σ = [some (.ref a), some (.int b), some (.ref W), some (.int m), some (.bl false), some (.ref l), some v, some (.ref lT), o8, o9, o10, o11, o12] ∧ Same H3 H4 ∧ H4 lT = some (.lst vs) ∧ Paired (TabAt H4) vs ((wTabs b m ws).take i) := ⟨_, fun _ _ _ => Iff.rfl⟩
      refine ⟨_, rfl, W, rfl, ⟨_, SqL.of (uT _ _ hW3)⟩, for_list (K := K) (a := W) (xs := ws.map V.int) I1 ((hI1 _ _ _).2 ⟨[], _, _, _, _, _, rfl, uT, upd_same, .nil⟩) (fun i σ H4 _ zz => by
        obtain ⟨_, _, _, _, _, _, _, s4, _⟩ := (hI1 _ _ _).1 zz
        exact SqL.of (s4 _ _ hW3)) ?_ ?_⟩
      · intro i y σ H4 hi zz
        obtain ⟨vs, o8, o9, o10, o11, o12, rfl, s4, hT4, p4⟩ := (hI1 _ _ _).1 zz
        clear zz
        obtain ⟨w', ew, rfl⟩ := get_ints hi
        have hw' := hw w' (List.mem_of_getElem? ew)
        have hvl : vs.length ≤ 6 := by
          rw [paired_length p4, List.length_take]
          unfold wTabs
          rw [List.length_map]
          omega
        refine sealE fun E1 hN1 hR1 => ?_
        refine cut2 fun T3 hT3 => ?_
        refine ⟨(by show 0 ≤ sizeLine; decide), fun lR hlR => ?_⟩
        have uR := Same.new (o := HO.lst []) hlR
        obtain ⟨I2, hI2⟩ : ∃ I2 : Nat → L2.St → Hp → Prop, ∀ j σ H5, I2 j σ H5 ↔ ∃ rs o10, σ = [some (.ref a), some (.int b), some (.ref W), some (.int m), some (.bl false), some (.ref l), some v, some (.ref lT), some (.int w'), some (.ref lR), o10, o11, o12] ∧ Same H4 H5 ∧ H5 lR = some (.lst rs) ∧ Paired (RowAt H5) rs ((wTab b m w').take j) := ⟨_, fun _ _ _ => Iff.rfl⟩
        refine ⟨_, rfl, m, rfl, by omega, by omega, for_range I2 ((hI2 _ _ _).2 ⟨[], _, rfl, uR, upd_same, .nil⟩) ?_ ?_⟩
        · intro j σ H5 hj zz
          obtain ⟨rs, o10', rfl, s5, hR5, p5⟩ := (hI2 _ _ _).1 zz
          clear zz
          have hrl : rs.length ≤ 12 := by
            rw [paired_length p5, List.length_take, length_wTab]
            omega
          refine ⟨_, rfl, .inl ⟨rfl, _, SqL.of hR5⟩, _, rfl, b, rfl, by omega, by omega, ?_⟩
          refine block_map (Walk.rng 0 b.toNat) (by omega) rfl (fun k => .int ((0 + (j : Int) + w' * (0 + (k : Int))) % m)) (fun k H6 Q' hk s6 q' => ?_) (fun D H6 hD s6 hDl => ?_)
          · exact ⟨_, rfl, _, rfl, _, rfl, _, _, rfl, rfl, .inl ⟨by omega, by omega⟩, _, _, rfl, rfl, _, rfl, _, _, rfl, rfl, by omega, q' _ (Same.refl _)⟩
          · refine ⟨D, _, rfl, .inl ⟨SqL.of hDl, fun tR htR => ?_⟩⟩
            have eRow : (List.range b.toNat).map (fun k : Nat => V.int ((0 + (j : Int) + w' * (0 + (k : Int))) % m)) = (wRow b m w' (j : Int)).map V.int := by
              unfold wRow figsOf
              rw [List.map_map, List.map_map]
              refine List.map_congr_left fun k _ => ?_
              show V.int ((0 + (j : Int) + w' * (0 + (k : Int))) % m) = V.int (((j : Int) + (k : Int) * w') % m)
              rw [Int.zero_add, Int.zero_add, Int.mul_comm]
            rw [eRow]
            have u6 := Same.new (o := HO.tup ((wRow b m w' (j : Int)).map V.int)) htR
            have hR6 := u6 _ _ (s6 _ _ hR5)
            refine ⟨lR, _, _, rfl, rfl, hR6, smallM (by omega), (hI2 _ _ _).2 ⟨rs ++ [.ref tR], _, rfl, ((s5.trans s6).trans u6).put hlR, upd_same, ?_⟩⟩
            have fr : ∀ c o, c ≠ lR → upd H6 tR (.tup ((wRow b m w' (j : Int)).map V.int)) c = some o → upd (upd H6 tR (.tup ((wRow b m w' (j : Int)).map V.int))) lR (.lst (rs ++ [.ref tR])) c = some o := fun c o n e => by rw [upd_ne n]; exact e
            have ej : (wTab b m w')[j]? = some (wRow b m w' (j : Int)) := by
              unfold wTab figsOf
              rw [List.map_map, List.getElem?_map, List.getElem?_range (by omega)]
              rfl
            rw [take_succ_get ej]
            refine paired_snoc (paired_imp (fun _ _ x => (x.same (s6.trans u6)).fr fr hR6) p5) (RowAt.fr fr hR6 ⟨tR, rfl, upd_same⟩)
        · intro σ H5 zz
          obtain ⟨rs, o10', rfl, s5, hR5, p5⟩ := (hI2 _ _ _).1 zz
          refine hT3 _ _ ?_
          rw [← length_wTab b m w', List.take_length] at p5
          have hT5 := s5 _ _ hT4
          refine ⟨_, rfl, .inl ⟨rfl, _, SqL.of hT5⟩, _, rfl, lR, _, rfl, .inl ⟨SqL.of hR5, fun tT htT => ?_⟩⟩
          have u6 := Same.new (o := HO.tup rs) htT
          have hT6 := u6 _ _ hT5
          refine ⟨lT, _, _, rfl, rfl, hT6, smallM (by omega), hN1 _ _ ((hI1 _ _ _).2 ⟨vs ++ [.ref tT], _, _, _, _, _, rfl, ((s4.trans s5).trans u6).put hlT, upd_same, ?_⟩)⟩
          have fr : ∀ c o, c ≠ lT → upd H5 tT (.tup rs) c = some o → upd (upd H5 tT (.tup rs)) lT (.lst (vs ++ [.ref tT])) c = some o := fun c o n e => by rw [upd_ne n]; exact e
          have ei : (wTabs b m ws)[i]? = some (wTab b m w') := by
            unfold wTabs
            rw [List.getElem?_map, ew]
            rfl
          rw [take_succ_get ei]
          refine paired_snoc (paired_imp (fun _ _ x => (x.same (s5.trans u6)).fr fr hT6) p4) (TabAt.fr fr hT6 ⟨tT, rs, rfl, upd_same, paired_imp (fun _ _ x => x.same u6) p5⟩)
      · intro σ H4 zz
        obtain ⟨vs, o8, o9, o10, o11, o12, rfl, s4, hT4, p4⟩ := (hI1 _ _ _).1 zz
        refine hT2 _ _ ?_
        clear hT2 hI1
        rw [List.length_map, show ws.length = (wTabs b m ws).length by unfold wTabs; rw [List.length_map], List.take_length] at p4
        have hSch4 := hSch.same s4
        obtain ⟨a0, vT, rfl, ha0, hTs⟩ := id hSch4
        refine ⟨_, rfl, _, _, _, _, rfl, .tup ha0, kit_tup_tup, _, rfl, iteF ?_⟩
        refine ⟨_, rfl, _, rfl, _, rfl, lT, _, rfl, .inl ⟨SqL.of hT4, fun tT htT => ⟨(by show 2 ≤ sizeLine; decide), fun tS htS => ?_⟩⟩⟩
        have u5 := Same.new (o := HO.tup vs) htT
        have u6 := Same.new (o := HO.tup [V.int b, V.ref tT]) htS
        have s56 := u5.trans u6
        have hS2 : SchAt (upd (upd H4 tT (.tup vs)) tS (.tup [V.int b, V.ref tT])) (.ref tS) b (wTabs b m ws) := ⟨tS, _, rfl, upd_same, tT, vs, rfl, u6 _ _ upd_same, paired_imp (fun _ _ x => x.same s56) p4⟩
        refine ⟨_, _, rep_sch (hSch4.same s56), rep_sch hS2, plain_sch _ _, plain_sch _ _, _, rfl, ifN (by rw [eqv_sch]; rfl) ?_⟩
        have s06 := (s03.trans s4).trans s56
        have hSch6 := hSch4.same s56
        have hW6 := s56 _ _ (s4 _ _ hW3)
        generalize upd (upd H4 tT (.tup vs)) tS (.tup [V.int b, V.ref tT]) = H6 at s06 hSch6 hW6 ⊢
        -- figures, total
        refine ⟨_, rfl, _, rfl, a, ns, 12, b, 12, rfl, s06.seq hSq, by omega, b1, b2, by omega, by omega, fun D fs H7 s7 hD hDl hf hfl => ?_⟩
        have hW7 := s7 _ _ hW6
        refine ⟨_, rfl, D, _, rfl, .inl (SqL.of hDl), _, rfl, by omega, by rw [List.length_map]; omega, ?_⟩
        rw [List.length_map, Int.toNat_natCast]
        refine block_map (Walk.rng 0 fs.length) (by omega) rfl (fun k => .int (fs.getD k 0 * ws.getD (k % ws.length) 0)) (fun k H8 Q' hk s8 q' => ?_) (fun G H8 hG s8 hGl => ?_)
        · have ef : fs[k]? = some (fs.getD k 0) := by rw [List.getD_eq_getElem?_getD, List.getElem?_eq_getElem hk]; rfl
          have hkl : k % ws.length < ws.length := Nat.mod_lt _ l1
          have ewk : ws[k % ws.length]? = some (ws.getD (k % ws.length) 0) := by rw [List.getD_eq_getElem?_getD, List.getElem?_eq_getElem hkl]; rfl
          have hb := hf _ (List.mem_of_getElem? ef)
          refine ⟨_, rfl, _, rfl, D, _, _, _, rfl, rfl, SqL.of (s8 _ _ hDl), (show atI _ (0 + (k : Int)) = _ by rw [Int.zero_add]; exact atI_nat (by rw [List.getElem?_map, ef]; rfl)), _, rfl, _, rfl, _, rfl, W, _, rfl, .inl (SqL.of (s8 _ _ hW7)), _, _, rfl, rfl, (by rw [List.length_map]; omega), W, _, _, _, rfl, rfl, SqL.of (s8 _ _ hW7), (show atI _ ((0 + (k : Int)) % (((ws.map V.int).length : Nat) : Int)) = _ by rw [Int.zero_add, List.length_map]; exact atI_nat (j := k % ws.length) (by rw [List.getElem?_map, ewk]; rfl)), _, _, rfl, rfl, .inl ⟨by omega, by omega⟩, q' _ (Same.refl _)⟩
        · refine ⟨G, (List.range fs.length).map fun k => fs.getD k 0 * ws.getD (k % ws.length) 0, rfl, SqL.of (by rw [hGl, List.map_map]; rfl), ?_⟩
          have es : ((List.range fs.length).map fun k => fs.getD k 0 * ws.getD (k % ws.length) 0).sum = wsum ws 0 fs := by
            have := wsum_range ws fs 0
            simpa only [Nat.zero_add] using this
          rw [es]
          have okW := wTabs_ok (b := b) (m := m) (ws := ws) b1 b2 m1 m2 l1 l2
          refine ⟨_, rfl, _, rfl, .ref a0, wTabs b m ws, b, D, fs, rfl, (hSch6.same s7).same s8, okW, SqL.of (s8 _ _ hDl), hf, fun H9 s9 => ⟨_, rfl, _, rfl, _, _, rfl, rfl, by omega, rfl, ?_⟩⟩
          rw [rd_w m1 l1 fs 0 0 (Int.le_refl _) (by omega) hf, Int.zero_add, decide_eq_true rfl]
          exact hR0 _ _ (q H9)
end
end My

namespace My
open PySem L2 PyProof.Rows
theorem all_mk {l : PySem.W.OpenLaw} {w : World} {K : PySem.W.Frag} {h : Heap} {mg : Str → Option Value} {r0 r1 r2 r3 r4 r5 r6 : Addr} {fa : Addr} {t0 t1 t2 t3 : Tok} {aS : Addr} {u0 u1 : Tok} {dS : Option Addr} {nS : Nat} {slS : Array (Option Value)} (X : K.In h) (G : h.Ns mainGlobals mg) (hfa : mg "law" = some (.ref fa))
    (d1 : ∃ f fd, L2.Def K "is_whole" sWhole f fd)
    (d2 : ∃ f fd, L2.Def K "is_tuple_of" sTupOf f fd)
    (d3 : ∃ f fd, L2.Def K "is_row" sRow f fd)
    (d4 : ∃ f fd, L2.Def K "is_table" sTab f fd)
    (d5 : ∃ f fd, L2.Def K "are_tables" sTabs f fd)
    (d6 : ∃ f fd, L2.Def K "check_scheme" sCheck f fd)
    (d7 : ∃ f fd, L2.Def K "check_figures" sFigs f fd)
    (d8 : ∃ f fd, L2.Def K "moved" sMoved f fd)
    (d9 : ∃ f fd, L2.Def K "spot_after" sSpot f fd)
    (d10 : ∃ f fd, L2.Def K "state_after" sState f fd)
    (d11 : ∃ f fd, L2.Def K "check_weighting" s_check_weighting f fd)
    (d12 : ∃ f fd, L2.Def K "weighted_row" s_weighted_row f fd)
    (d13 : ∃ f fd, L2.Def K "weighted_table" s_weighted_table f fd)
    (d14 : ∃ f fd, L2.Def K "weighted" s_weighted f fd)
    (d15 : ∃ f fd, L2.Def K "_law_cell_at" sCell f fd)
    (d16 : ∃ f fd, L2.Def K "_law_figures" sFigures f fd)
    (d17 : ∃ f fd, L2.Def K "_law_given" s__law_given f fd)
    (d18 : ∃ f fd, L2.Def K "_law_told" s__law_told f fd)
    (d19 : ∃ f fd, L2.Def K "law" sLaw f fd ∧ ∀ (s : Shared) (v : Value), BindsTo s fd ⟨[v], []⟩ [("script", v)])
    (c0 : PySem.W.nsIn K mainGlobals "LEAST_BASE" = some (some (.int 2 t0)))
    (c1 : PySem.W.nsIn K mainGlobals "MOST_BASE" = some (some (.int 10 t1)))
    (c2 : PySem.W.nsIn K mainGlobals "MOST_TABLES" = some (some (.int 6 t2)))
    (c3 : PySem.W.nsIn K mainGlobals "MOST_STATES" = some (some (.int 12 t3)))
    (x0 : PySem.W.nsIn K mainGlobals "SlipError" = some (some (.ref r0)))
    (x1 : PySem.W.nsIn K mainGlobals "NoScheme" = some (some (.ref r1)))
    (x2 : PySem.W.nsIn K mainGlobals "OtherBase" = some (some (.ref r2)))
    (x3 : PySem.W.nsIn K mainGlobals "NoRoom" = some (some (.ref r3)))
    (x4 : PySem.W.nsIn K mainGlobals "NoKind" = some (some (.ref r4)))
    (x5 : PySem.W.nsIn K mainGlobals "NoFigure" = some (some (.ref r5)))
    (x6 : PySem.W.nsIn K mainGlobals "NoNote" = some (some (.ref r6)))
    (xv : PySem.W.nsIn K mainGlobals "ValueError" = some none)
    (xb : errsB K r0 r1 r2 r3 r4 r5 r6 = true)
    (e1 : PySem.W.nsIn K mainGlobals "START" = some (some (.ref aS))) (e2 : K.lookup aS = some ⟨.type "tuple", dS, .seq #[.int 0 u0, .int 0 u1] nS, slS⟩)
    (z0 : PySem.W.nsIn K mainGlobals "len" = some none)
    (z1 : PySem.W.nsIn K mainGlobals "isinstance" = some none)
    (z2 : PySem.W.nsIn K mainGlobals "int" = some none)
    (z3 : PySem.W.nsIn K mainGlobals "bool" = some none)
    (z4 : PySem.W.nsIn K mainGlobals "tuple" = some none)
    (z5 : PySem.W.nsIn K mainGlobals "list" = some none)
    (z6 : PySem.W.nsIn K mainGlobals "all" = some none)
    (z7 : PySem.W.nsIn K mainGlobals "range" = some none)
    (z8 : PySem.W.nsIn K mainGlobals "enumerate" = some none)
    (z9 : PySem.W.nsIn K mainGlobals "sum" = some none) :
    ∃ fd : FuncData, (∀ (s : Shared) (v : Value), BindsTo s fd ⟨[v], []⟩ [("script", v)]) ∧ ∀ base : Heap, K.In base → base.Ns mainGlobals mg → FnOk l.prog w K mg base CX0 9 fa fd ["script"] (spLaw K) := by
  obtain ⟨f1, g1, d1⟩ := d1
  obtain ⟨f2, g2, d2⟩ := d2
  obtain ⟨f3, g3, d3⟩ := d3
  obtain ⟨f4, g4, d4⟩ := d4
  obtain ⟨f5, g5, d5⟩ := d5
  obtain ⟨f6, g6, d6⟩ := d6
  obtain ⟨f7, g7, d7⟩ := d7
  obtain ⟨f8, g8, d8⟩ := d8
  obtain ⟨f9, g9, d9⟩ := d9
  obtain ⟨f10, g10, d10⟩ := d10
  obtain ⟨f11, g11, d11⟩ := d11
  obtain ⟨f12, g12, d12⟩ := d12
  obtain ⟨f13, g13, d13⟩ := d13
  obtain ⟨f14, g14, d14⟩ := d14
  obtain ⟨f15, g15, d15⟩ := d15
  obtain ⟨f16, g16, d16⟩ := d16
  obtain ⟨f17, g17, d17⟩ := d17
  obtain ⟨f18, g18, d18⟩ := d18
  obtain ⟨f19, g19, d19, hb⟩ := d19
  have e := hfa.symm.trans (PySem.W.mg_of X G d19.a)
  cases e
  have B : Blt mg := ⟨PySem.W.mg_none_of X G z0, PySem.W.mg_none_of X G z1, PySem.W.mg_none_of X G z2, PySem.W.mg_none_of X G z3, PySem.W.mg_none_of X G z4, PySem.W.mg_none_of X G z5, PySem.W.mg_none_of X G z6, PySem.W.mg_none_of X G z7, PySem.W.mg_none_of X G z8, PySem.W.mg_none_of X G z9⟩
  have Nm : Nums mg := ⟨⟨_, PySem.W.mg_of X G c0⟩, ⟨_, PySem.W.mg_of X G c1⟩, ⟨_, PySem.W.mg_of X G c2⟩, ⟨_, PySem.W.mg_of X G c3⟩⟩
  have Er : ErrsAt K mg := errs_mk (PySem.W.mg_of X G x0) (PySem.W.mg_of X G x1) (PySem.W.mg_of X G x2) (PySem.W.mg_of X G x3) (PySem.W.mg_of X G x4) (PySem.W.mg_of X G x5) (PySem.W.mg_of X G x6) (PySem.W.mg_none_of X G xv) xb
  have St : StartAt K mg := ⟨aS, PySem.W.mg_of X G e1, fun H => .inr ⟨_, _, _, e2, rfl, rfl, (by show 2 ≤ sizeLine; decide), .cons ⟨_, rfl⟩ (.cons ⟨_, rfl⟩ .nil)⟩⟩
  refine ⟨g19, hb, fun base _ _ => ?_⟩
  have H1 : Has l.prog w K mg base "is_whole" 1 ["value", "least", "most"] spWhole := d1.has X G (d1.F.binds fun _ _ _ _ _ _ us hl => match us, hl with | [_, _, _], _ => rfl) (ok_whole d1.F B)
  have H2 : Has l.prog w K mg base "is_tuple_of" 1 ["value", "least", "most"] spTupOf := d2.has X G (d2.F.binds fun _ _ _ _ _ _ us hl => match us, hl with | [_, _, _], _ => rfl) (ok_tupOf d2.F B)
  have H3 : Has l.prog w K mg base "is_row" 2 ["row", "base", "states"] spRow := d3.has X G (d3.F.binds fun _ _ _ _ _ _ us hl => match us, hl with | [_, _, _], _ => rfl) (ok_row d3.F B H2 H1)
  have H4 : Has l.prog w K mg base "is_table" 3 ["table", "base", "states"] spTab := d4.has X G (d4.F.binds fun _ _ _ _ _ _ us hl => match us, hl with | [_, _, _], _ => rfl) (ok_tab d4.F B H2 H3)
  have H5 : Has l.prog w K mg base "are_tables" 4 ["tables", "base"] spTabs := d5.has X G (d5.F.binds fun _ _ _ _ _ _ us hl => match us, hl with | [_, _], _ => rfl) (ok_tabs d5.F B Nm H2 H4)
  have H6 : Has l.prog w K mg base "check_scheme" 5 ["scheme"] spCheck := d6.has X G (d6.F.binds fun _ _ _ _ _ _ us hl => match us, hl with | [_], _ => rfl) (ok_check d6.F B Nm H2 H1 H5)
  have H7 : Has l.prog w K mg base "check_figures" 2 ["scheme", "figures"] (spFigs K) := d7.has X G (d7.F.binds fun _ _ _ _ _ _ us hl => match us, hl with | [_, _], _ => rfl) (ok_figs d7.F H1)
  have H8 : Has l.prog w K mg base "moved" 1 ["tables", "spot", "figures"] (spMoved K) := d8.has X G (d8.F.binds fun _ _ _ _ _ _ us hl => match us, hl with | [_, _, _], _ => rfl) (ok_moved d8.F B)
  have H9 : Has l.prog w K mg base "spot_after" 6 ["scheme", "figures"] (spSpot K) := d9.has X G (d9.F.binds fun _ _ _ _ _ _ us hl => match us, hl with | [_, _], _ => rfl) (ok_spot d9.F St H6 H7 H8)
  have H10 : Has l.prog w K mg base "state_after" 7 ["scheme", "figures"] (spState K) := d10.has X G (d10.F.binds fun _ _ _ _ _ _ us hl => match us, hl with | [_, _], _ => rfl) (ok_state d10.F H9)
  have H11 : HasX l.prog w K mg base "check_weighting" 2 ["base", "weights", "modulus"] (spCheckWX K mg) := ⟨f11, g11, PySem.W.mg_of X G d11.a, d11.F.kp, d11.F.binds fun _ _ _ _ _ _ us hl => match us, hl with | [_, _, _], _ => rfl, ok_check_weighting d11.F B Nm Er H1⟩
  have H12 : Has l.prog w K mg base "weighted_row" 1 ["base", "weight", "modulus", "state"] spWRow := d12.has X G (d12.F.binds fun _ _ _ _ _ _ us hl => match us, hl with | [_, _, _, _], _ => rfl) (ok_weighted_row d12.F B  )
  have H13 : Has l.prog w K mg base "weighted_table" 2 ["base", "weight", "modulus"] spWTab := d13.has X G (d13.F.binds fun _ _ _ _ _ _ us hl => match us, hl with | [_, _, _], _ => rfl) (ok_weighted_table d13.F B  H12)
  have H14 : HasX l.prog w K mg base "weighted" 4 ["base", "weights", "modulus"] (spWeightedX K mg) := ⟨f14, g14, PySem.W.mg_of X G d14.a, d14.F.kp, d14.F.binds fun _ _ _ _ _ _ us hl => match us, hl with | [_, _, _], _ => rfl, ok_weighted d14.F B  H11 H13⟩
  have H15 : Has l.prog w K mg base "_law_cell_at" 1 ["script", "k"] (spCell K) := d15.has X G (d15.F.binds fun _ _ _ _ _ _ us hl => match us, hl with | [_, _], _ => rfl) (ok_cell d15.F B)
  have H16 : Has l.prog w K mg base "_law_figures" 2 ["script", "at", "base", "most"] (spFigures K) := d16.has X G (d16.F.binds fun _ _ _ _ _ _ us hl => match us, hl with | [_, _, _, _], _ => rfl) (ok_figures d16.F B H15)
  have H17 : Has l.prog w K mg base "_law_given" 2 ["script"] (spGiven K) := d17.has X G (d17.F.binds fun _ _ _ _ _ _ us hl => match us, hl with | [_], _ => rfl) (ok__law_given d17.F B  H15)
  have H18 : Has l.prog w K mg base "_law_told" 5 ["base", "weights", "modulus"] (spTold K) := d18.has X G (d18.F.binds fun _ _ _ _ _ _ us hl => match us, hl with | [_, _, _], _ => rfl) (ok__law_told d18.F B Er H14)
  exact ok_law d19.F B  H17 H18 H16 H10
theorem walk {l : PySem.W.OpenLaw} {q : Program} {loose : List Str} {XP : (Str → Option Value) → Heap → Prop} {YP : World → Heap → Prop} {d : DefRec} {K : Params → PySem.W.Frag} (hn : l.most = some 63) (hdf : d.params.defaults = [])
    (hY : ∀ (w : World) (h : Heap), YP w h → (K w.params).In h)
    (F : ∀ (w : World) (mg : Str → Option Value) (fa : Addr) (h : Heap), (K w.params).In h → h.Ns mainGlobals mg → mg d.name = some (.ref fa) →
      ∃ fd : FuncData, (∀ (s : Shared) (u : Value), BindsTo s fd ⟨[u], []⟩ [("script", u)]) ∧ ∀ base : Heap, (K w.params).In base → base.Ns mainGlobals mg → FnOk l.prog w (K w.params) mg base CX0 9 fa fd ["script"] (spLaw (K w.params))) :
    PySem.W.WalkO q loose XP YP l.row.toRowW d [] (fun f vs => PySem.call f vs) :=
  L2.walk_of (n := 63) (k := 9) (x := "script") (CX := fun _ => CX0) (sp := fun w => spLaw (K w.params)) hn (by decide) hdf ⟨rfl, by decide, by decide⟩ hY F (fun _ _ a ns hl _ hS => ⟨a, ns, rfl, hS, hl, fun _ => rfl⟩) fun _ _ _ _ _ z => z
end My
open PySem PySem.W PyProof.Rows
set_option maxRecDepth 100000 in
set_option maxHeartbeats 0 in
theorem PySem.Challenge.cw_slipseen_k10_weighted_schemes_holds : PySem.Challenge.rw_slipseen_k10_weighted_schemes.Holds := by
  w_on; o_law; k_head; (case hw => w_witness2)
  k_fill
  refine My.walk (l := PySem.Challenge.rw_slipseen_k10_weighted_schemes) rfl rfl (fun w h Y => PySem.W.kIn_of Y) ?F
  case F =>
    intro w mg fa h KX G hmg
    refine' My.all_mk KX G hmg ?d1 ?d2 ?d3 ?d4 ?d5 ?d6 ?d7 ?d8 ?d9 ?d10 ?d11 ?d12 ?d13 ?d14 ?d15 ?d16 ?d17 ?d18 ?d19 ?c0 ?c1 ?c2 ?c3 ?x0 ?x1 ?x2 ?x3 ?x4 ?x5 ?x6 ?xv ?xb ?e1 ?e2 ?z0 ?z1 ?z2 ?z3 ?z4 ?z5 ?z6 ?z7 ?z8 ?z9
    case d19 => (refine' My.law_mk ?a ?l ?c ?k ?b; (case a => k_is); (case l => k_is); (case c => k_is); (case k => k_is); (case b => exact fun s v => .of_eq rfl))
    case c0 => k_is
    case c1 => k_is
    case c2 => k_is
    case c3 => k_is
    case x0 => k_is
    case x1 => k_is
    case x2 => k_is
    case x3 => k_is
    case x4 => k_is
    case x5 => k_is
    case x6 => k_is
    case xv => k_is
    case xb => kernel_rfl
    case e1 => k_is
    case e2 => k_is
    case z0 => k_is
    case z1 => k_is
    case z2 => k_is
    case z3 => k_is
    case z4 => k_is
    case z5 => k_is
    case z6 => k_is
    case z7 => k_is
    case z8 => k_is
    case z9 => k_is
    all_goals (refine' L2.def_mk ?a ?l ?c ?k; (case a => k_is); (case l => k_is); (case c => k_is); (case k => k_is))
#print axioms PySem.Challenge.cw_slipseen_k10_weighted_schemes_holds
