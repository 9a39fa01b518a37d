import PyProof.Rows.All
import Wide.All
import OpenK.AllK
import Wide.FinOn
import Lean
import PyProof.EqAt
import PyProof.EqKinds
import PyProof.TupleCall
import PySem.Challenge.RW_slipseen_k15_read_or_refused
set_option Elab.async false
set_option linter.all false
set_option maxRecDepth 100000

namespace L2
open PySem PySem.Spec PyProof.Rows


noncomputable abbrev Key := Sum Int Str
noncomputable def keyIs : Key → Value → Bool
  | .inl k, v => Value.isInt k v
  | .inr x, v => Value.isStrOf x v
noncomputable def keyH (w : World) : Key → Int
  | .inl k => hashInt k
  | .inr x => hashStr w x
theorem keyIs_shape : ∀ {k : Key} {v : Value}, keyIs k v = true → (∃ i t, k = Sum.inl i ∧ v = Value.int i t) ∨ (∃ x t, k = Sum.inr x ∧ v = Value.str x t)
  | .inl i, v, h => by
    obtain ⟨t, e⟩ := Value.isInt_shape (k := i) (v := v) h
    exact .inl ⟨i, t, rfl, e⟩
  | .inr x, v, h => by
    obtain ⟨t, e⟩ := Value.isStrOf_shape (x := x) (v := v) h
    exact .inr ⟨x, t, rfl, e⟩
theorem key_ll (a b : Int) : decide ((Sum.inl a : Key) = Sum.inl b) = (a == b) := by
  by_cases e : a = b
  · subst e; simp
  · have h : ¬ (Sum.inl a : Key) = Sum.inl b := fun q => e (Sum.inl.inj q)
    rw [decide_eq_false h]
    exact (beq_eq_false_iff_ne.mpr e).symm
theorem key_rr (a b : Str) : decide ((Sum.inr a : Key) = Sum.inr b) = decide (a = b) := by
  by_cases e : a = b
  · subst e; simp
  · have h : ¬ (Sum.inr a : Key) = Sum.inr b := fun q => e (Sum.inr.inj q)
    rw [decide_eq_false h, decide_eq_false e]
theorem key_lr (a : Int) (b : Str) : decide ((Sum.inl a : Key) = Sum.inr b) = false := decide_eq_false (fun q => nomatch q)
theorem key_rl (a : Str) (b : Int) : decide ((Sum.inr a : Key) = Sum.inl b) = false := decide_eq_false (fun q => nomatch q)

noncomputable def mixKind (prog : Program) (w : World) : PySem.KeyKind prog w Key where
  is := keyIs
  hash := keyH w
  inj := fun v a b ha hb => by
    rcases keyIs_shape ha with ⟨i, t, rfl, rfl⟩ | ⟨x, t, rfl, rfl⟩
    · rcases keyIs_shape hb with ⟨j, u, rfl, e⟩ | ⟨y, u, rfl, e⟩
      · injection e with e1 _; rw [e1]
      · exact nomatch e
    · rcases keyIs_shape hb with ⟨j, u, rfl, e⟩ | ⟨y, u, rfl, e⟩
      · exact nomatch e
      · injection e with e1 _; rw [e1]
  byValue := fun k v h => by
    rcases keyIs_shape h with ⟨i, t, rfl, rfl⟩ | ⟨x, t, rfl, rfl⟩ <;> rfl
  pyHash := fun hv h => by
    rcases keyIs_shape hv with ⟨i, t, rfl, rfl⟩ | ⟨x, t, rfl, rfl⟩
    · exact wpAny_pyHash_int h
    · exact wpAny_pyHash_str h
  eqBool := fun hu hv h => by
    rcases keyIs_shape hu with ⟨i, t, rfl, rfl⟩ | ⟨x, t, rfl, rfl⟩
    · rcases keyIs_shape hv with ⟨j, u, rfl, rfl⟩ | ⟨y, u, rfl, rfl⟩
      · rw [key_ll] at h; exact wpAny_eqBool_int h
      · rw [key_lr] at h; exact SeqAt.EqAt.int_str i t y u _ _ _ _ h
    · rcases keyIs_shape hv with ⟨j, u, rfl, rfl⟩ | ⟨y, u, rfl, rfl⟩
      · rw [key_rl] at h; exact SeqAt.EqAt.str_int x t j u _ _ _ _ h
      · rw [key_rr] at h; exact wpAny_eqBool_str h
  «strs» := fun k x t v h => by
    rcases keyIs_shape h with ⟨i, u, rfl, e⟩ | ⟨y, u, rfl, e⟩
    · exact nomatch e
    · injection e with e1 _
      subst e1
      cases v <;> rfl

end L2

namespace L2
open PySem PySem.Spec PyProof.Rows


inductive V where
  | non | bl (b : Bool) | int (i : Int) | str (x : Str) | byt (b : Array UInt8) | flt (b : UInt64) | ref (a : Addr) | ty (n : String)
  deriving DecidableEq

noncomputable def RelV : V → Value → Prop
  | .non, u => u = Value.none
  | .bl b, u => u = Value.bool b
  | .int i, u => ∃ t, u = Value.int i t
  | .str x, u => ∃ t, u = Value.str x t
  | .byt b, u => ∃ t, u = Value.bytes b t
  | .flt b, u => ∃ t, u = Value.float b t
  | .ref a, u => u = Value.ref a
  | .ty n, u => u = Value.type n

noncomputable abbrev Vals : List V → List Value → Prop := Paired RelV
theorem Vals.length {xs : List V} {us : List Value} (r : Vals xs us) : xs.length = us.length := Paired.length r
theorem Vals.get : ∀ {xs : List V} {us : List Value} {i : Nat} {x : V}, Vals xs us → xs[i]? = some x → ∃ u, us[i]? = some u ∧ RelV x u
  | _, _, _, _, .nil, e => by simp at e
  | _, _, 0, _, .cons r _, e => by simp at e; subst e; exact ⟨_, rfl, r⟩
  | _, _, i + 1, x, .cons _ t, e => by
    obtain ⟨u, h1, h2⟩ := Vals.get (i := i) (x := x) t (by simpa using e)
    exact ⟨u, by simpa using h1, h2⟩
theorem Vals.set {x : V} {u : Value} (r : RelV x u) : ∀ {xs : List V} {us : List Value} (i : Nat), Vals xs us → Vals (xs.set i x) (us.set i u)
  | _, _, _, .nil => .nil
  | _, _, 0, .cons _ t => .cons r t
  | _, _, i + 1, .cons q t => .cons q (Vals.set r i t)
theorem Vals.append : ∀ {xs ys : List V} {us ws : List Value}, Vals xs us → Vals ys ws → Vals (xs ++ ys) (us ++ ws)
  | _, _, _, _, .nil, s => s
  | _, _, _, _, .cons r t, s => .cons r (Vals.append t s)
theorem Vals.take : ∀ {xs : List V} {us : List Value} (n : Nat), Vals xs us → Vals (xs.take n) (us.take n)
  | _, _, 0, _ => .nil
  | _, _, _ + 1, .nil => .nil
  | _, _, n + 1, .cons r t => .cons r (Vals.take n t)
theorem Vals.drop : ∀ {xs : List V} {us : List Value} (n : Nat), Vals xs us → Vals (xs.drop n) (us.drop n)
  | _, _, 0, r => r
  | _, _, _ + 1, .nil => .nil
  | _, _, n + 1, .cons _ t => Vals.drop n t

noncomputable def RelO : Option V → Option Value → Prop
  | some v, some u => RelV v u
  | none, none => True
  | _, _ => False
noncomputable def KV {κ : Type} : List (κ × V) → List (κ × Value) → Prop := Paired fun (p : κ × V) (q : κ × Value) => p.1 = q.1 ∧ RelV p.2 q.2


noncomputable def kV : Key → V
  | .inl i => .int i
  | .inr x => .str x


inductive HO where
  
  | lst (xs : List V)
  
  | tup (xs : List V)
  
  | dK (kvs : List (Key × V)) | dT (kvs : List (List Key × V))
  
  | set (S : Int → Bool) (n : Nat)
  
  | ins (C dx : Addr) (fs : List (Str × V))
  
  | own (x : Addr)
  
  | xd (fs : List (Str × V))
  
  | met (f x : Addr)
  
  | rng (lo hi : Int)
  
  | frz (o : Obj) (u : HO)
  
  | tbl (ps : Array Value)
  
  | ext (φ : Heap → Prop)

noncomputable abbrev Hp := Addr → Option HO
noncomputable def upd (H : Hp) (a : Addr) (o : HO) : Hp := fun b => if b = a then some o else H b
theorem upd_same {H : Hp} {a : Addr} {o : HO} : upd H a o a = some o := by unfold upd; rw [if_pos rfl]
theorem upd_ne {H : Hp} {a b : Addr} {o : HO} (h : b ≠ a) : upd H a o b = H b := by unfold upd; rw [if_neg h]

theorem ne_of {H : Hp} {a b : Addr} {o u : HO} (h : H a = some o) (h' : H b = some u) (d : o ≠ u) : a ≠ b := by
  intro e; subst e; rw [h] at h'; exact d (Option.some.inj h')
theorem ne_of_none {H : Hp} {a b : Addr} {o : HO} (h : H a = some o) (h' : H b = none) : a ≠ b := by
  intro e; subst e; rw [h] at h'; cases h'


noncomputable def TupP (h : Heap) (a : Addr) (its : Array Value) : Prop := ∃ o, h.get? a = some o ∧ (o.cls = .type "tuple" ∧ ∃ n, o.data = .seq its n) ∧ o.dict = none
theorem TupP.tup {h : Heap} {a : Addr} {its : Array Value} (p : TupP h a its) : IsTup h a its := let ⟨o, e, c, _⟩ := p; ⟨o, e, c.1, c.2⟩
theorem TupP.new (h : Heap) (its : Array Value) : TupP (h.push { cls := .type "tuple", data := .seq its }) h.objs.size its := ⟨_, Heap.get?_push_size _ rfl, ⟨rfl, _, rfl⟩, rfl⟩
section
variable (P : Program) (w : World)
noncomputable def ObjOk (H : Hp) (h : Heap) (a : Addr) : HO → Prop
  | .lst xs => xs.length ≤ sizeLine ∧ ∃ (its : List Value) (n : Nat), Vals xs its ∧ h.get? a = some { cls := .type "list", data := .seq its.toArray n }
  | .tup xs => xs.length ≤ sizeLine ∧ ∃ its : List Value, Vals xs its ∧ TupP h a its.toArray
  | .dK kvs => kvs.length ≤ sizeLine ∧ (a == sysModules) = false ∧ ∃ vs, KV kvs vs ∧ h.DictOf (mixKind P w) a vs
  | .dT kvs => kvs.length ≤ sizeLine ∧ (a == sysModules) = false ∧ ∃ xs : List (List Key × Addr × Value),
      Paired (fun (p : List Key × V) (q : List Key × Addr × Value) => p.1 = q.1 ∧ H q.2.1 = some (.tup (p.1.map kV)) ∧ RelV p.2 q.2.2) kvs xs ∧
      ∃ o es ep, h.get? a = some o ∧ o.ExactDict ∧ o.data = .dict es ep ∧ es.toList = xs.map (entryOfKey (tupleKind (mixKind P w))) ∧ (xs.map (·.1)).Nodup
  | .set S n => h.SetOf (intKind P w) a S n
  | .ins C dx fs => H dx = some (.own a) ∧ fs.length ≤ 1000 ∧ dx ≠ a ∧ h.get? a = some (PySem.W.instObj C dx) ∧
      ∃ mA, h.Ns1 dx mA ∧ (∀ f, RelO (fs.lookup f) (mA f)) ∧ PySem.Within mA (fs.map (·.1))
  | .own _ => ∃ o, h.get? a = some o
  | .xd fs => ∃ mA, h.Ns1 a mA ∧ ∀ f, RelO (fs.lookup f) (mA f)
  | .rng lo hi => ∃ t u v, h.get? a = some { cls := .type "range", data := .fields #[.int lo t, .int hi u, .int 1 v] }
  | .frz o u => h.get? a = some o ∧ ObjOk H h a u
  | .tbl ps => h.get? a = some { cls := .none, data := .fields ps }
  | .met f x => h.get? a = some (PySem.W.methodObj (.ref f) (.ref x))
  | .ext φ => φ h ∧ (∃ o, h.get? a = some o) ∧ ∀ h1 h2 : Heap, φ h1 → (∀ o, h1.get? a = some o → h2.get? a = some o) → φ h2

noncomputable def HOk (H : Hp) (h : Heap) : Prop := ∀ a o, H a = some o → ObjOk P w H h a o
end

section
variable {P : Program} {w : World} {H H' : Hp} {h h' : Heap} {a : Addr} {o : HO}
theorem ObjOk.lt (x : ObjOk P w H h a o) : a < h.objs.size := by
  cases o with
  | lst xs => obtain ⟨_, _, _, _, e⟩ := x; exact Heap.lt_size e
  | tup xs => obtain ⟨_, _, _, p⟩ := x; exact p.tup.lt
  | dK kvs => obtain ⟨_, _, _, _, o, _, _, e, _⟩ := x; exact Heap.lt_size e
  | dT kvs => obtain ⟨_, _, _, _, o, _, _, e, _⟩ := x; exact Heap.lt_size e
  | set S n => obtain ⟨o, _, _, _, e, _⟩ := x; exact Heap.lt_size e
  | ins C dx fs => obtain ⟨_, _, _, e, _⟩ := x; exact Heap.lt_size e
  | own y => obtain ⟨_, e⟩ := x; exact Heap.lt_size e
  | xd fs => obtain ⟨_, ⟨_, _, _, e, _⟩, _⟩ := x; exact Heap.lt_size e
  | rng lo hi => obtain ⟨_, _, _, e⟩ := x; exact Heap.lt_size e
  | frz ob u => obtain ⟨e, _⟩ := x; exact Heap.lt_size e
  | tbl ps => exact Heap.lt_size (show h.get? a = some _ from x)
  | met f y => exact Heap.lt_size (show h.get? a = some _ from x)
  | ext φ => obtain ⟨_, ⟨_, e⟩, _⟩ := x; exact Heap.lt_size e
theorem Paired.mapP {α β : Type} {F G : α → β → Prop} : ∀ {l₁ : List α} {l₂ : List β}, Paired F l₁ l₂ → (∀ a b, F a b → G a b) → Paired G l₁ l₂
  | _, _, .nil, _ => .nil
  | _, _, .cons r t, f => .cons (f _ _ r) (Paired.mapP t f)

theorem ObjOk.stay (x : ObjOk P w H h a o) (k : ∀ b u, (b = a ∨ H b = some (.own a)) → h.get? b = some u → h'.get? b = some u)
    (ho : ∀ b, H b = some (.own a) → H' b = some (.own a)) (ht : ∀ b xs, H b = some (.tup xs) → H' b = some (.tup xs)) : ObjOk P w H' h' a o := by
  induction o with
  | lst xs => obtain ⟨z, its, n, r, e⟩ := x; exact ⟨z, its, n, r, k _ _ (.inl rfl) e⟩
  | tup xs => obtain ⟨z, its, r, ob, e, c⟩ := x; exact ⟨z, its, r, ob, k _ _ (.inl rfl) e, c⟩
  | dK kvs => obtain ⟨z, y, vs, r, ob, es, ep, e, c⟩ := x; exact ⟨z, y, vs, r, ob, es, ep, k _ _ (.inl rfl) e, c⟩
  | dT kvs =>
    obtain ⟨z, y, xs, r, ob, es, ep, e, c⟩ := x
    exact ⟨z, y, xs, Paired.mapP r fun p q z => ⟨z.1, ht _ _ z.2.1, z.2.2⟩, ob, es, ep, k _ _ (.inl rfl) e, c⟩
  | set S n => obtain ⟨ob, es, ep, t, e, c⟩ := x; exact ⟨ob, es, ep, t, k _ _ (.inl rfl) e, c⟩
  | ins C dx fs =>
    obtain ⟨d, z, ne, e, mA, ⟨od, es, ep, e2, c⟩, r⟩ := x
    exact ⟨ho _ d, z, ne, k _ _ (.inl rfl) e, mA, ⟨od, es, ep, k _ _ (.inr d) e2, c⟩, r⟩
  | own y => obtain ⟨ob, e⟩ := x; exact ⟨ob, k _ _ (.inl rfl) e⟩
  | xd fs => obtain ⟨mA, ⟨od, es, ep, e, c⟩, r⟩ := x; exact ⟨mA, ⟨od, es, ep, k _ _ (.inl rfl) e, c⟩, r⟩
  | rng lo hi => obtain ⟨t, u, v, e⟩ := x; exact ⟨t, u, v, k _ _ (.inl rfl) e⟩
  | frz ob u ih => obtain ⟨e, q⟩ := x; exact ⟨k _ _ (.inl rfl) e, ih q⟩
  | tbl ps =>
    have e : h.get? a = some { cls := .none, data := .fields ps } := x
    show h'.get? a = some { cls := .none, data := .fields ps }
    exact k a _ (.inl rfl) e
  | met f y =>
    have e : h.get? a = some (PySem.W.methodObj (.ref f) (.ref y)) := x
    show h'.get? a = some (PySem.W.methodObj (.ref f) (.ref y))
    exact k a _ (.inl rfl) e
  | ext φ => obtain ⟨p, ⟨o, e⟩, st⟩ := x; exact ⟨st _ _ p fun o q => k _ _ (.inl rfl) q, ⟨o, k _ _ (.inl rfl) e⟩, st⟩
theorem HOk.lt (x : HOk P w H h) (e : H a = some o) : a < h.objs.size := (x a o e).lt
theorem HOk.fresh (x : HOk P w H h) (e : h.objs.size ≤ a) : H a = none := by
  cases q : H a with
  | none => rfl
  | some u => exact absurd (Nat.lt_of_lt_of_le (x.lt q) e) (Nat.lt_irrefl _)

theorem HOk.kept (x : HOk P w H h) (k : ∀ b u, h.get? b = some u → h'.get? b = some u) : HOk P w H h' := fun a o e =>
  (x a o e).stay (fun b u _ q => k b u q) (fun _ q => q) fun _ _ q => q

theorem HOk.laid (x : HOk P w H h) (k : ∀ b u, h.get? b = some u → h'.get? b = some u) (hp : h.objs.size ≤ a) (new : ObjOk P w (upd H a o) h' a o) : HOk P w (upd H a o) h' := fun b u e => by
  have hn := x.fresh hp
  by_cases hb : b = a
  · subst hb; rw [upd_same] at e; cases e; exact new
  · rw [upd_ne hb] at e
    exact (x b u e).stay (fun c v _ q => k c v q) (fun c q => by rw [upd_ne (ne_of_none q hn)]; exact q) fun c xs q => by rw [upd_ne (ne_of_none q hn)]; exact q
end


noncomputable def Rd (H : Hp) (a : Addr) (u : HO) : Prop := H a = some u ∨ ∃ o, H a = some (.frz o u)
theorem Rd.ok {P : Program} {w : World} {H : Hp} {h : Heap} {a : Addr} {u : HO} (r : Rd H a u) (x : HOk P w H h) : ObjOk P w H h a u := by
  rcases r with r | ⟨o, r⟩
  · exact x a u r
  · obtain ⟨_, q⟩ := x a _ r
    exact q

noncomputable def Mut : Option HO → Prop
  | some (.lst _) => True
  | some (.dK _) => True
  | some (.dT _) => True
  | some (.set _ _) => True
  | some (.ins _ _ _) => True
  | some (.ext _) => True
  | _ => False
section
variable {P : Program} {w : World} {H : Hp} {h h' : Heap} {x e : Addr} {o' : HO}

theorem HOk.write (ok : HOk P w H h) (mu : Mut (H x)) (he : e = x ∨ H e = some (.own x)) (k : ∀ b u, b ≠ e → h.get? b = some u → h'.get? b = some u) (heo : ∃ u, h'.get? e = some u)
    (new : ObjOk P w (upd H x o') h' x o') : HOk P w (upd H x o') h' := fun b u q => by
  have nown : ∀ c y, H c = some (.own y) → c ≠ x := fun c y r z => by subst z; rw [r] at mu; exact mu
  have ntup : ∀ c xs, H c = some (.tup xs) → c ≠ x := fun c xs r z => by subst z; rw [r] at mu; exact mu
  by_cases hb : b = x
  · subst hb; rw [upd_same] at q; cases q; exact new
  · rw [upd_ne hb] at q
    by_cases hbe : b = e
    · have q' : H b = some (.own x) := by
        rcases he with z | z
        · exact absurd (hbe.trans z) hb
        · rw [hbe]; exact z
      rw [q] at q'; cases q'
      obtain ⟨v, hv⟩ := heo
      exact ⟨v, by rw [hbe]; exact hv⟩
    · refine (ok b u q).stay (fun c v hc r => k c v ?_ r) (fun c r => by rw [upd_ne (nown c b r)]; exact r) fun c xs r => by rw [upd_ne (ntup c xs r)]; exact r
      rcases hc with rfl | hc
      · exact hbe
      · rintro rfl
        rcases he with z | z
        · exact nown c b hc z
        · rw [hc] at z; cases z; exact hb rfl
end


structure Un (fs ex : List Addr) (H H' : Hp) (h h' : Heap) : Prop where
  keep : ∀ b o, h.get? b = some o → H b = none → b ∉ fs → b ∉ ex → h'.get? b = some o
  slot : ∀ b o, h.get? b = some o → H b = none → b ∈ fs → b ∉ ex → ∃ sl, h'.get? b = some { o with slots := sl }
  free : ∀ b o, h.get? b = some o → H b = none → b ∉ ex → H' b = none
  there : ∀ b o, h.get? b = some o → b ∉ ex → ∃ o', h'.get? b = some o'
  tups : ∀ b xs, H b = some (.tup xs) → H' b = some (.tup xs)
  frzs : ∀ b o u, H b = some (.frz o u) → H' b = some (.frz o u)
  tbls : ∀ b ps, H b = some (.tbl ps) → ∃ more, H' b = some (.tbl (ps ++ more))
section
variable {fs fs' ex ex' : List Addr} {H H1 H2 : Hp} {h h1 h2 h' : Heap} {a x e : Addr} {o : HO}
theorem Un.any (u : Un fs ex H H1 h h1) {b : Addr} {ob : Obj} (q : h.get? b = some ob) (n : H b = none) (hx : b ∉ ex) : ∃ sl, h1.get? b = some { ob with slots := sl } := by
  by_cases hb : b ∈ fs
  · exact u.slot b ob q n hb hx
  · exact ⟨ob.slots, u.keep b ob q n hb hx⟩
theorem Un.kept (k : ∀ b u, h.get? b = some u → h'.get? b = some u) : Un fs ex H H h h' :=
  ⟨fun b ob q _ _ _ => k b ob q, fun b ob q _ _ _ => ⟨ob.slots, k b ob q⟩, fun _ _ _ n _ => n, fun b ob q _ => ⟨ob, k b ob q⟩, fun _ _ q => q, fun _ _ _ q => q, fun _ ps q => ⟨#[], by rw [q]; simp⟩⟩
theorem Un.refl : Un fs ex H H h h := Un.kept fun _ _ q => q
theorem Un.laid (k : ∀ b u, h.get? b = some u → h'.get? b = some u) (hp : h.objs.size ≤ a) (hn : H a = none) : Un fs ex H (upd H a o) h h' where
  keep := fun b u q _ _ _ => k b u q
  slot := fun b u q _ _ _ => ⟨u.slots, k b u q⟩
  free := fun b u q n _ => by rw [upd_ne (Nat.ne_of_lt (Nat.lt_of_lt_of_le (Heap.lt_size q) hp))]; exact n
  there := fun b u q _ => ⟨u, k b u q⟩
  tups := fun b xs q => by rw [upd_ne (ne_of_none q hn)]; exact q
  frzs := fun b u xs q => by rw [upd_ne (ne_of_none q hn)]; exact q
  tbls := fun b ps q => ⟨#[], by rw [upd_ne (ne_of_none q hn), q]; simp⟩
theorem Un.write (mu : Mut (H x)) (he : e = x ∨ H e = some (.own x)) (k : ∀ b u, b ≠ e → h.get? b = some u → h'.get? b = some u) (heo : ∃ u, h'.get? e = some u) : Un fs ex H (upd H x o) h h' := by
  have hx : ∀ b, H b = none → b ≠ x := fun b n z => by subst z; rw [n] at mu; exact mu
  have hb : ∀ b, H b = none → b ≠ e := fun b n z => by
    subst z
    rcases he with r | r
    · exact hx b n r
    · rw [n] at r; cases r
  have hm : ∀ b u, H b = some u → ¬ Mut (some u) → b ≠ x := fun b u q nm z => by subst z; rw [q] at mu; exact nm mu
  refine ⟨fun b u q n _ _ => k b u (hb b n) q, fun b u q n _ _ => ⟨u.slots, k b u (hb b n) q⟩, fun b u q n _ => by rw [upd_ne (hx b n)]; exact n, fun b u q _ => ?_,
    fun b xs q => by rw [upd_ne (hm b _ q fun z => z)]; exact q, fun b u xs q => by rw [upd_ne (hm b _ q fun z => z)]; exact q, fun b ps q => ⟨#[], by rw [upd_ne (hm b _ q fun z => z), q]; simp⟩⟩
  by_cases hbe : b = e
  · subst hbe; exact heo
  · exact ⟨u, k b u hbe q⟩
end


noncomputable def trk (h : Heap) (H : Hp) : List Addr := (List.range h.objs.size).filter fun a => (H a).isSome
noncomputable def hidT (h : Heap) (H : Hp) : Heap := PySem.W.hideAll h (trk h H)
theorem hidT_size (h : Heap) (H : Hp) : (hidT h H).objs.size = h.objs.size := PySem.W.hideAll_size _ _
theorem hidT_get {h : Heap} {H : Hp} {b : Addr} {o : Obj} (e : h.get? b = some o) (n : H b = none) : (hidT h H).get? b = some o :=
  PySem.W.hideAll_get _ e fun hm => by
    have q : (H b).isSome = true := (List.mem_filter.mp hm).2
    rw [n] at q; simp at q
theorem of_hidT {h : Heap} {H : Hp} {b : Addr} {o : Obj} (e : (hidT h H).get? b = some o) : h.get? b = some o ∧ H b = none := by
  have e' : h.get? b = some o := PySem.W.of_hideAll (trk h H) e
  refine ⟨e', ?_⟩
  cases q : H b with
  | none => rfl
  | some x =>
    have hm : b ∈ trk h H := List.mem_filter.mpr ⟨List.mem_range.mpr (Heap.lt_size e'), by simp [q]⟩
    have z : (hidT h H).get? b = none := PySem.W.hideAll_none (trk h H) hm
    rw [z] at e; cases e


noncomputable def allNews (g h : Heap) (L : Addr) : List (Addr × Obj) := (List.range h.objs.size).filterMap fun a => if a = L ∨ (g.get? a).isSome = true then none else (h.get? a).map fun o => (a, o)
noncomputable def rest (g h : Heap) (L d : Addr) : List (Addr × Obj) := (allNews g h L).filter fun p => decide (p.1 ≠ d)
end L2

namespace L2
open PySem PySem.Spec PyProof.Rows


structure Mod (K : PySem.W.Frag) (mg : Str → Option Value) (base : Heap) : Prop where
  kin : K.In base
  glob : base.Ns mainGlobals mg
  blt : ∃ mb, base.Ns builtinsNs mb ∧ ∀ x : Str, x ≠ "__name__" → mb x = bootBuiltins x
  nolimit : base.NoLimit


structure Cx where
  prog : Program
  w : World
  K : PySem.W.Frag
  mg : Str → Option Value
  base : Heap
  A : Around
  N : List Str
  s₀ : Shared
  H₀ : Hp
  env : Env
  outer : List Env
  stack : List Env
  ex : List Addr
  fn : Str → Bool
  calm : Bool
  pn : List (Addr × Obj)
  xe : Value → Shared → Prop

noncomputable def frs (l : List Env) : List Addr := l.filterMap (·.frame)
noncomputable abbrev Cx.fs (X : Cx) : List Addr := frs X.outer

noncomputable def Vis (sc : Scope) (x : Str) : Prop := sc.names.lookup x = some .local ∨ sc.names.lookup x = some .cell ∨ sc.names.lookup x = some .free
noncomputable def Loc (sc : Scope) (x : Str) : Prop := sc.names.lookup x = some .local ∨ sc.names.lookup x = some .cell
noncomputable def Look (env : Env) (h : Heap) (m : Str → Option Value) (x : Str) (u : Value) : Prop :=
  (env.kindOf x = some .local ∧ m x = some u) ∨ ((env.kindOf x = some .cell ∨ env.kindOf x = some .free) ∧ ∃ c, env.cells.lookup x = some c ∧ h.IsCell c (some u))

structure Cx.Ok (X : Cx) : Prop where
  mod : Mod X.K X.mg X.base
  kind : X.env.scope.kind = .function
  glob : X.env.globals = mainGlobals
  blt : X.env.builtins = builtinsNs
  above : X.s₀.heap.objs.size ≤ X.env.locals
  inj : ∀ x y c, X.env.cells.lookup x = some c → X.env.cells.lookup y = some c → x = y
  has : ∀ x, (X.env.kindOf x = some .cell ∨ X.env.kindOf x = some .free) → ∃ c, X.env.cells.lookup x = some c
  cab : ∀ x c, X.fn x = true → X.env.cells.lookup x = some c → X.s₀.heap.objs.size ≤ c
  hd : X.calm = true → X.A.handled = none
  frames : X.A.frames = some X.stack
  stk : X.stack = X.outer ∨ (X.stack = X.env :: X.outer ∧ X.env.frame = some X.env.locals)
  exf : ∀ b ∈ X.ex, b ≠ X.env.locals ∧ ∀ x c, X.env.cells.lookup x = some c → c ≠ b
  bs : ∀ b o, X.base.get? b = some o → X.s₀.heap.get? b = some o ∧ X.H₀ b = none
  bsz : X.base.objs.size ≤ X.s₀.heap.objs.size
  noex : ∀ b o, X.base.get? b = some o → b ∉ X.ex
  exfs : ∀ b ∈ X.ex, b ∉ X.fs
  funs : X.s₀.heap.FunFrames X.base X.outer
  frf : ∀ b ∈ X.fs, X.H₀ b = none

structure Inv (X : Cx) (pins : List (Addr × Obj)) (σ : List (Option V)) (H : Hp) (s : Shared) : Prop where
  ok : X.Ok
  os : s.os = X.s₀.os
  bare : AllBare s.gens
  base : Un X.fs X.ex X.H₀ H X.s₀.heap s.heap
  loc : ∃ m, s.heap.Ns X.env.locals m ∧ ∀ (i : Nat) (x : Str) (v : V), X.N[i]? = some x → σ[i]? = some (some v) → Vis X.env.scope x → ∃ u, RelV v u ∧ Look X.env s.heap m x u
  cell : ∀ x c, X.env.cells.lookup x = some c → ∃ v, s.heap.IsCell c v
  free : H X.env.locals = none
  freeC : ∀ x c, X.env.cells.lookup x = some c → H c = none
  pin : ∀ p ∈ X.pn ++ pins, s.heap.get? p.1 = some p.2 ∧ H p.1 = none ∧ p.1 ≠ X.env.locals ∧ p.1 ∉ X.fs ∧ ∀ v, p.2.data ≠ .cell v
  hok : HOk X.prog X.w H s.heap
  len : σ.length = X.N.length

section
variable {X : Cx} {pins : List (Addr × Obj)} {σ : List (Option V)} {H H' : Hp} {s : Shared} {h' : Heap}

theorem Cx.Ok.nofr (ok : X.Ok) {b : Addr} {o : Obj} (e : X.base.get? b = some o) : b ∉ X.fs := fun hb => by
  have := (ok.funs.mem hb).1
  rw [e] at this; cases this
theorem Inv.bs (I : Inv X pins σ H s) : ∀ b o, X.base.get? b = some o → s.heap.get? b = some o ∧ H b = none := fun b o e =>
  ⟨I.base.keep b o (I.ok.bs b o e).1 (I.ok.bs b o e).2 (I.ok.nofr e) (I.ok.noex b o e), I.base.free b o (I.ok.bs b o e).1 (I.ok.bs b o e).2 (I.ok.noex b o e)⟩
theorem Inv.bk (I : Inv X pins σ H s) : ∀ b o, X.base.get? b = some o → s.heap.get? b = some o := fun b o e => (I.bs b o e).1
theorem Inv.mod (I : Inv X pins σ H s) : Mod X.K X.mg X.base := I.ok.mod
theorem Inv.kIn (I : Inv X pins σ H s) : X.K.In s.heap := I.ok.mod.kin.keeps I.bk
theorem Inv.lt (I : Inv X pins σ H s) : X.env.locals < s.heap.objs.size := let ⟨_, hn, _⟩ := I.loc; hn.lt
theorem Inv.sz (I : Inv X pins σ H s) : X.s₀.heap.objs.size ≤ s.heap.objs.size := Nat.le_trans I.ok.above (Nat.le_of_lt I.lt)
theorem Inv.nofs (I : Inv X pins σ H s) {a : Addr} (h : s.heap.objs.size ≤ a) : a ∉ X.fs := fun hb => by
  obtain ⟨_, o, ho, _⟩ := I.ok.funs.mem hb
  exact absurd (Nat.lt_of_lt_of_le (Heap.lt_size ho) (Nat.le_trans I.sz h)) (Nat.lt_irrefl _)
theorem Inv.cne (I : Inv X pins σ H s) : ∀ x c, X.env.cells.lookup x = some c → c ≠ X.env.locals := fun x c e z => by
  obtain ⟨v, o, ho, hd⟩ := I.cell x c e
  obtain ⟨m, ⟨o', es, ep, ho', hd', _⟩, _⟩ := I.loc
  rw [z, ho'] at ho; cases ho; rw [hd'] at hd; cases hd
theorem Inv.funs (I : Inv X pins σ H s) : s.heap.FunFrames X.base X.outer := by
  have all : ∀ (l : List Env), (∀ b ∈ frs l, b ∈ X.fs) → X.s₀.heap.FunFrames X.base l → s.heap.FunFrames X.base l := by
    intro l
    induction l with
    | nil => intro _ _; trivial
    | cons env r ih =>
      intro hs hl
      obtain ⟨hk, ⟨L, o, hf, hn, ho, hd⟩, hr⟩ := hl
      have hL : L ∈ X.fs := hs L (by unfold frs; rw [List.filterMap_cons, hf]; exact List.mem_cons_self)
      obtain ⟨sl, e⟩ := I.base.slot L o ho (I.ok.frf L hL) hL fun z => I.ok.exfs L z hL
      exact ⟨hk, ⟨L, _, hf, hn, e, hd⟩, ih (fun b hb => hs b (by unfold frs; rw [List.filterMap_cons, hf]; exact List.mem_cons_of_mem _ hb)) hr⟩
  exact all X.outer (fun _ hb => hb) I.ok.funs


theorem Inv.stack (I : Inv X pins σ H s) : s.heap.FunFrames X.base X.stack := by
  rcases I.ok.stk with e | ⟨e, hf⟩
  · rw [e]; exact I.funs
  · rw [e]
    obtain ⟨m, hn, _⟩ := I.loc
    refine .cons (by rw [I.ok.kind]; decide) hf hn ?_ I.funs
    exact Heap.get?_none_of_le (Nat.le_trans I.ok.bsz I.ok.above)
theorem Inv.stkSub (I : Inv X pins σ H s) : ∀ b ∈ frs X.stack, b ∈ X.env.locals :: X.fs := fun b hb => by
  rcases I.ok.stk with e | ⟨e, hf⟩
  · rw [e] at hb; exact List.mem_cons_of_mem _ hb
  · rw [e] at hb
    unfold frs at hb
    rw [List.filterMap_cons, hf] at hb
    exact hb
theorem Inv.stkFree (I : Inv X pins σ H s) : ∀ b ∈ frs X.stack, H b = none := fun b hb => by
  rcases List.mem_cons.mp (I.stkSub b hb) with e | hb
  · rw [e]; exact I.free
  · obtain ⟨_, o, ho, _⟩ := I.ok.funs.mem hb
    exact I.base.free b o ho (I.ok.frf b hb) fun z => I.ok.exfs b z hb


theorem Inv.step {g' : Array GenState} {t' : Nat} {d' : Drawn} {ch : List Addr} (I : Inv X pins σ H s)
    (hch : ∀ b ∈ ch, (b ∈ X.ex ∨ X.s₀.heap.objs.size ≤ b) ∧ b ≠ X.env.locals ∧ (∀ x c, X.env.cells.lookup x = some c → c ≠ b) ∧ ∀ p ∈ X.pn ++ pins, p.1 ≠ b)
    (keep : ∀ b o, b ≠ X.env.locals → b ∉ X.fs → b ∉ ch → s.heap.get? b = some o → H b = none → h'.get? b = some o)
    (slot : ∀ b o, b ≠ X.env.locals → b ∈ X.fs → b ∉ ch → s.heap.get? b = some o → H b = none → ∃ sl, h'.get? b = some { o with slots := sl }) (free : ∀ b o, b ∉ ch → s.heap.get? b = some o → H b = none → H' b = none)
    (there : ∀ b o, b ∉ ch → s.heap.get? b = some o → ∃ o', h'.get? b = some o')
    (tups : ∀ b xs, H b = some (.tup xs) → H' b = some (.tup xs)) (frzs : ∀ b o u, H b = some (.frz o u) → H' b = some (.frz o u)) (tbls : ∀ b ps, H b = some (.tbl ps) → ∃ more, H' b = some (.tbl (ps ++ more)))
    (ns : ∀ m, s.heap.Ns X.env.locals m → h'.Ns X.env.locals m) (hok : HOk X.prog X.w H' h') (hg : AllBare g') :
    Inv X pins σ H' { s with heap := h', gens := g', drawn := d', toks := t' } := by
  have neL : ∀ b o, X.s₀.heap.get? b = some o → b ≠ X.env.locals := fun b o e => Nat.ne_of_lt (Nat.lt_of_lt_of_le (Heap.lt_size e) I.ok.above)
  have neC : ∀ b o, X.s₀.heap.get? b = some o → b ∉ X.ex → b ∉ ch := fun b o e hx hb => by
    rcases (hch b hb).1 with z | z
    · exact hx z
    · exact absurd (Nat.lt_of_lt_of_le (Heap.lt_size e) z) (Nat.lt_irrefl _)
  have cellK : ∀ x c, X.env.cells.lookup x = some c → ∀ v, s.heap.IsCell c v → h'.IsCell c v := fun x c e v ⟨o, ho, hd⟩ => by
    have nch : c ∉ ch := fun z => (hch c z).2.2.1 x c e rfl
    by_cases hc : c ∈ X.fs
    · obtain ⟨sl, q⟩ := slot c o (I.cne x c e) hc nch ho (I.freeC x c e)
      exact ⟨_, q, hd⟩
    · exact ⟨o, keep c o (I.cne x c e) hc nch ho (I.freeC x c e), hd⟩
  refine ⟨I.ok, I.os, hg, ⟨fun b o e n hb hx => ?_, fun b o e n hb hx => ?_, fun b o e n hx => ?_, fun b o e hx => ?_, fun b xs e => tups b xs (I.base.tups b xs e), fun b o xs e => frzs b o xs (I.base.frzs b o xs e), fun b ps e => ?_⟩, ?_, fun x c e => ?_, ?_, fun x c e => ?_, fun p hp => ?_, hok, I.len⟩
  · exact keep b o (neL b o e) hb (neC b o e hx) (I.base.keep b o e n hb hx) (I.base.free b o e n hx)
  · obtain ⟨sl, e1⟩ := I.base.slot b o e n hb hx
    obtain ⟨sl', e2⟩ := slot b _ (neL b o e) hb (neC b o e hx) e1 (I.base.free b o e n hx)
    exact ⟨sl', e2⟩
  · obtain ⟨o', e1⟩ := I.base.there b o e hx
    exact free b o' (neC b o e hx) e1 (I.base.free b o e n hx)
  · obtain ⟨o', e1⟩ := I.base.there b o e hx
    exact there b o' (neC b o e hx) e1
  · obtain ⟨m1, e1⟩ := I.base.tbls b ps e
    obtain ⟨m2, e2⟩ := tbls b _ e1
    exact ⟨m1 ++ m2, by rw [e2, Array.append_assoc]⟩
  · obtain ⟨m, hn, hl⟩ := I.loc
    refine ⟨m, ns m hn, fun i x v e1 e2 e3 => ?_⟩
    obtain ⟨u, r, l⟩ := hl i x v e1 e2 e3
    refine ⟨u, r, ?_⟩
    rcases l with l | ⟨k, c, e, z⟩
    · exact .inl l
    · exact .inr ⟨k, c, e, cellK x c e _ z⟩
  · obtain ⟨v, z⟩ := I.cell x c e
    exact ⟨v, cellK x c e v z⟩
  · obtain ⟨m, ⟨o, _, _, ho, _⟩, _⟩ := I.loc
    exact free _ o (fun z => (hch _ z).2.1 rfl) ho I.free
  · obtain ⟨v, o, ho, hd⟩ := I.cell x c e
    exact free c o (fun z => (hch c z).2.2.1 x c e rfl) ho (I.freeC x c e)
  · obtain ⟨e, n, ne, nf, d⟩ := I.pin p hp
    have nch : p.1 ∉ ch := fun z => (hch p.1 z).2.2.2 p hp rfl
    exact ⟨keep p.1 p.2 ne nf nch e n, free p.1 p.2 nch e n, ne, nf, d⟩

theorem Inv.un {t' : Nat} (I : Inv X pins σ H s) (u : Un X.fs [] H H' s.heap h') (hok : HOk X.prog X.w H' h') : Inv X pins σ H' { s with heap := h', toks := t' } := by
  obtain ⟨m, ⟨o, es, ep, ho, r⟩, _⟩ := id I.loc
  obtain ⟨sl, hL⟩ := u.any ho I.free (by simp)
  exact I.step (g' := s.gens) (d' := s.drawn) (ch := []) (fun _ z => nomatch z) (fun b o _ hb _ e n => u.keep b o e n hb (by simp)) (fun b o _ hb _ e n => u.slot b o e n hb (by simp)) (fun b o _ e n => u.free b o e n (by simp)) (fun b o _ e => u.there b o e (by simp)) u.tups u.frzs u.tbls (fun m' hm => by
    obtain ⟨o', es', ep', ho', r'⟩ := hm
    rw [ho] at ho'; cases ho'
    exact ⟨_, es', ep', hL, r'⟩) hok I.bare

theorem Inv.call {g' : Array GenState} {t' : Nat} {d' : Drawn} {ch : List Addr} (I : Inv X pins σ H s) (u : Un (frs X.stack) ch H H' s.heap h') (hok : HOk X.prog X.w H' h') (hg : AllBare g')
    (hch : ∀ b ∈ ch, (b ∈ X.ex ∨ X.s₀.heap.objs.size ≤ b) ∧ b ≠ X.env.locals ∧ (∀ x c, X.env.cells.lookup x = some c → c ≠ b) ∧ ∀ p ∈ X.pn ++ pins, p.1 ≠ b) :
    Inv X pins σ H' { s with heap := h', gens := g', drawn := d', toks := t' } := by
  obtain ⟨m, ⟨o, es, ep, ho, r⟩, _⟩ := id I.loc
  obtain ⟨sl, hL⟩ := u.any ho I.free fun z => (hch _ z).2.1 rfl
  exact I.step (ch := ch) hch (fun b o hL hb hc e n => u.keep b o e n (fun z => (List.mem_cons.mp (I.stkSub b z)).elim hL hb) hc) (fun b o _ _ hc e n => u.any e n hc) (fun b o hc e n => u.free b o e n hc) (fun b o hc e => u.there b o e hc) u.tups u.frzs u.tbls (fun m' hm => by
    obtain ⟨o', es', ep', ho', r'⟩ := hm
    rw [ho] at ho'; cases ho'
    exact ⟨_, es', ep', hL, r'⟩) hok hg

theorem Inv.turned {t' : Nat} {it : Addr} (I : Inv X pins σ H s) (k : ∀ b o, b ≠ it → s.heap.get? b = some o → h'.get? b = some o) (hn : H it = none) (hL : it ≠ X.env.locals)
    (h1 : it ∈ X.ex ∨ X.s₀.heap.objs.size ≤ it) (h2 : ∀ x c, X.env.cells.lookup x = some c → c ≠ it) (h3 : ∀ p ∈ X.pn ++ pins, p.1 ≠ it) : Inv X pins σ H { s with heap := h', toks := t' } := by
  have nit : ∀ b u, H b = some u → b ≠ it := fun b u e z => by rw [z, hn] at e; cases e
  refine I.step (g' := s.gens) (d' := s.drawn) (ch := [it]) (fun b hb => ?_) (fun b o _ _ hc e _ => k b o (fun z => hc (by simp [z])) e) (fun b o _ _ hc e _ => ⟨o.slots, k b o (fun z => hc (by simp [z])) e⟩) (fun _ _ _ _ n => n)
    (fun b o hc e => ⟨o, k b o (fun z => hc (by simp [z])) e⟩) (fun _ _ e => e) (fun _ _ _ e => e) (fun b ps e => ⟨#[], by rw [e]; simp⟩) (fun m hm => ?_) (fun b u e => ?_) I.bare
  · have e : b = it := by simpa using hb
    subst e
    exact ⟨h1, hL, h2, h3⟩
  · obtain ⟨o, es, ep, ho, r⟩ := hm
    exact ⟨o, es, ep, k _ o (Ne.symm hL) ho, r⟩
  · refine (I.hok b u e).stay (fun c v hc q => k c v ?_ q) (fun _ q => q) fun _ _ q => q
    rcases hc with z | z
    · rw [z]; exact nit b u e
    · exact nit c _ z
theorem Inv.tok (I : Inv X pins σ H s) (t : Nat) : Inv X pins σ H { s with toks := t } := I.un (h' := s.heap) (t' := t) Un.refl I.hok

theorem Inv.kept {t' : Nat} (I : Inv X pins σ H s) (k : ∀ b u, s.heap.get? b = some u → h'.get? b = some u) : Inv X pins σ H { s with heap := h', toks := t' } := I.un (Un.kept k) (I.hok.kept k)

theorem Inv.laid {a : Addr} {o : HO} {t' : Nat} (I : Inv X pins σ H s) (k : ∀ b u, s.heap.get? b = some u → h'.get? b = some u) (hp : s.heap.objs.size ≤ a) (new : ObjOk X.prog X.w (upd H a o) h' a o) :
    Inv X pins σ (upd H a o) { s with heap := h', toks := t' } := I.un (Un.laid k hp (I.hok.fresh hp)) (I.hok.laid k hp new)

theorem Inv.write {x e : Addr} {o : HO} {t' : Nat} (I : Inv X pins σ H s) (mu : Mut (H x)) (he : e = x ∨ H e = some (.own x)) (k : ∀ b u, b ≠ e → s.heap.get? b = some u → h'.get? b = some u) (heo : ∃ u, h'.get? e = some u)
    (new : ObjOk X.prog X.w (upd H x o) h' x o) : Inv X pins σ (upd H x o) { s with heap := h', toks := t' } := I.un (Un.write mu he k heo) (I.hok.write mu he k heo new)

theorem Inv.weak {σ' : List (Option V)} (I : Inv X pins σ H s) (hl : σ'.length = σ.length) (w : ∀ (i : Nat) v, σ'[i]? = some (some v) → σ[i]? = some (some v)) : Inv X pins σ' H s :=
  ⟨I.ok, I.os, I.bare, I.base, let ⟨m, hn, hl'⟩ := I.loc; ⟨m, hn, fun i x v e1 e2 e3 => hl' i x v e1 (w i v e2) e3⟩, I.cell, I.free, I.freeC, I.pin, I.hok, hl.trans I.len⟩
theorem Inv.pins_of {pins' : List (Addr × Obj)} (I : Inv X pins σ H s) (h : ∀ p ∈ pins', s.heap.get? p.1 = some p.2 ∧ H p.1 = none ∧ p.1 ≠ X.env.locals ∧ p.1 ∉ X.fs ∧ ∀ v, p.2.data ≠ .cell v) : Inv X pins' σ H s :=
  ⟨I.ok, I.os, I.bare, I.base, I.loc, I.cell, I.free, I.freeC, fun p hp => (List.mem_append.mp hp).elim (fun z => I.pin p (List.mem_append_left _ z)) (h p), I.hok, I.len⟩

theorem nodup_ix {N : List Str} (hN : N.Nodup) {i j : Nat} {x : Str} (a : N[i]? = some x) (b : N[j]? = some x) : i = j := by
  obtain ⟨h1, e1⟩ := List.getElem?_eq_some_iff.mp a
  obtain ⟨h2, e2⟩ := List.getElem?_eq_some_iff.mp b
  exact (List.getElem_inj hN).mp (e1.trans e2.symm)


theorem store_ok2 {M : Model} {A : Around} {E : Value → Shared → Prop} {i : Nat} {x : Str} {v : V} {u : Value} {Q : Unit → Shared → Prop} (I : Inv X pins σ H s) (hN : X.N.Nodup) (hi : X.N[i]? = some x) (hx : Loc X.env.scope x) (r : RelV v u)
    (h : ∀ s', Inv X pins (σ.set i (some v)) H s' → (∃ a, Heap.SameBut a s.heap s'.heap ∧ (a = X.env.locals ∨ X.env.cells.lookup x = some a)) → Q () s') (hf : X.fn x = true ∨ X.env.scope.names.lookup x = some .local := by first | exact .inl rfl | exact .inr rfl | assumption) : wpAny M A (storeName X.env x u) Q E s := by
  obtain ⟨m, hn, hl⟩ := id I.loc
  have hcls : (X.env.scope.kind == .class || (X.env.scope.kind == .module && X.env.locals != X.env.globals)) = false := by rw [I.ok.kind]; rfl
  have hiσ : i < σ.length := by rw [I.len]; exact (List.getElem?_eq_some_iff.mp hi).1
  have cne := I.cne
  have tracked : ∀ {a : Addr} {h' : Heap}, (∃ o, s.heap.get? a = some o ∧ H a = none) → Heap.SameBut a s.heap h' → HOk X.prog X.w H h' := fun {a h'} ha hs b ob e => by
    obtain ⟨_, _, hfree⟩ := ha
    refine (I.hok b ob e).stay (fun c w' hc q => (hs.2 c ?_).trans q) (fun _ q => q) fun _ _ q => q
    rintro rfl
    rcases hc with rfl | hc
    · rw [hfree] at e; cases e
    · rw [hfree] at hc; cases hc
  rcases hx with hk | hk
  · refine wpAny_storeName_local hk hn (fun h' hn' hs => ?_) hcls
    obtain ⟨oL, _, _, hoL, _⟩ := id hn
    refine h _ ⟨I.ok, I.os, I.bare, ⟨fun b o e n hb hx => ?_, fun b o e n hb hx => ?_, I.base.free, fun b o e hx => ?_, I.base.tups, I.base.frzs, I.base.tbls⟩, ⟨_, hn', fun j y v' e1 e2 e3 => ?_⟩, fun y c e => ?_, I.free, I.freeC, fun p hp => ?_, tracked ⟨oL, hoL, I.free⟩ hs, by simpa using I.len⟩ ⟨_, hs, .inl rfl⟩
    · exact (hs.2 b (Nat.ne_of_lt (Nat.lt_of_lt_of_le (Heap.lt_size e) I.ok.above))).trans (I.base.keep b o e n hb hx)
    · obtain ⟨sl, e1⟩ := I.base.slot b o e n hb hx
      exact ⟨sl, (hs.2 b (Nat.ne_of_lt (Nat.lt_of_lt_of_le (Heap.lt_size e) I.ok.above))).trans e1⟩
    · obtain ⟨o', e1⟩ := I.base.there b o e hx
      exact ⟨o', (hs.2 b (Nat.ne_of_lt (Nat.lt_of_lt_of_le (Heap.lt_size e) I.ok.above))).trans e1⟩
    · by_cases hj : j = i
      · subst hj
        rw [hi] at e1; cases e1
        rw [List.getElem?_set_self hiσ] at e2
        cases e2
        exact ⟨u, r, .inl ⟨hk, by simp⟩⟩
      · rw [List.getElem?_set_ne (Ne.symm hj)] at e2
        obtain ⟨u', r', q⟩ := hl j y v' e1 e2 e3
        refine ⟨u', r', ?_⟩
        rcases q with ⟨k, e⟩ | ⟨k, c, e, z⟩
        · refine .inl ⟨k, ?_⟩
          have : y ≠ x := fun e => hj (nodup_ix hN e1 (e ▸ hi))
          simp [this, e]
        · exact .inr ⟨k, c, e, z.sameBut hs (cne y c e)⟩
    · obtain ⟨w', z⟩ := I.cell y c e
      exact ⟨w', z.sameBut hs (cne y c e)⟩
    · obtain ⟨e, n, ne, nf, d⟩ := I.pin p hp
      exact ⟨(hs.2 p.1 ne).trans e, n, ne, nf, d⟩
  · have hfn : X.fn x = true := by
      rcases hf with z | z
      · exact z
      · rw [z] at hk; cases hk
    obtain ⟨c, hc⟩ := I.ok.has x (.inl hk)
    obtain ⟨w', z⟩ := I.cell x c hc
    refine wpAny_storeName_cell I.ok.kind hk hc z (fun h' hc' hs => ?_)
    obtain ⟨oc, hoc, hocd⟩ := id z
    refine h { s with heap := h' } ⟨I.ok, I.os, I.bare, ⟨fun b o e n hb hx => ?_, fun b o e n hb hx => ?_, I.base.free, fun b o e hx => ?_, I.base.tups, I.base.frzs, I.base.tbls⟩, ⟨m, hn.sameBut hs (Ne.symm (cne x c hc)), fun j y v' e1 e2 e3 => ?_⟩, fun y c' e => ?_, I.free, I.freeC, fun p hp => ?_, tracked ⟨oc, hoc, I.freeC x c hc⟩ hs, by simpa using I.len⟩ ⟨c, hs, .inr hc⟩
    · exact (hs.2 b (Nat.ne_of_lt (Nat.lt_of_lt_of_le (Heap.lt_size e) (I.ok.cab x c hfn hc)))).trans (I.base.keep b o e n hb hx)
    · obtain ⟨sl, e1⟩ := I.base.slot b o e n hb hx
      exact ⟨sl, (hs.2 b (Nat.ne_of_lt (Nat.lt_of_lt_of_le (Heap.lt_size e) (I.ok.cab x c hfn hc)))).trans e1⟩
    · obtain ⟨o', e1⟩ := I.base.there b o e hx
      exact ⟨o', (hs.2 b (Nat.ne_of_lt (Nat.lt_of_lt_of_le (Heap.lt_size e) (I.ok.cab x c hfn hc)))).trans e1⟩
    · by_cases hj : j = i
      · subst hj
        rw [hi] at e1; cases e1
        rw [List.getElem?_set_self hiσ] at e2
        cases e2
        exact ⟨u, r, .inr ⟨.inl hk, c, hc, hc'⟩⟩
      · rw [List.getElem?_set_ne (Ne.symm hj)] at e2
        obtain ⟨u', r', q⟩ := hl j y v' e1 e2 e3
        refine ⟨u', r', ?_⟩
        rcases q with q | ⟨k, c', e, z'⟩
        · exact .inl q
        · refine .inr ⟨k, c', e, z'.sameBut hs ?_⟩
          rintro rfl
          exact hj (nodup_ix hN e1 (I.ok.inj _ _ _ e hc ▸ hi))
    · by_cases hcc : c' = c
      · subst hcc; exact ⟨_, hc'⟩
      · obtain ⟨w2, z2⟩ := I.cell y c' e
        exact ⟨w2, z2.sameBut hs hcc⟩
    · obtain ⟨e, n, ne, nf, d⟩ := I.pin p hp
      refine ⟨(hs.2 p.1 ?_).trans e, n, ne, nf, d⟩
      intro q
      rw [q, hoc] at e
      have q' : oc = p.2 := Option.some.inj e
      exact d w' (by rw [← q']; exact hocd)
theorem store_ok {M : Model} {A : Around} {E : Value → Shared → Prop} {i : Nat} {x : Str} {v : V} {u : Value} {Q : Unit → Shared → Prop} (I : Inv X pins σ H s) (hN : X.N.Nodup) (hi : X.N[i]? = some x) (hx : Loc X.env.scope x) (r : RelV v u)
    (h : ∀ s', Inv X pins (σ.set i (some v)) H s' → Q () s') (hf : X.fn x = true ∨ X.env.scope.names.lookup x = some .local := by first | exact .inl rfl | exact .inr rfl | assumption) : wpAny M A (storeName X.env x u) Q E s :=
  store_ok2 I hN hi hx r (fun s' I' _ => h s' I') hf

theorem Inv.call' {s' : Shared} {ch : List Addr} (I : Inv X pins σ H s) (ho : s'.os = s.os) (u : Un (frs X.stack) ch H H' s.heap s'.heap) (hok : HOk X.prog X.w H' s'.heap) (hg : AllBare s'.gens)
    (hch : ∀ b ∈ ch, (b ∈ X.ex ∨ X.s₀.heap.objs.size ≤ b) ∧ b ≠ X.env.locals ∧ (∀ x c, X.env.cells.lookup x = some c → c ≠ b) ∧ ∀ p ∈ X.pn ++ pins, p.1 ≠ b) : Inv X pins σ H' s' := by
  obtain ⟨h', g', d', t', o'⟩ := s'
  have e : o' = s.os := ho
  subst e
  exact I.call (g' := g') (t' := t') (d' := d') u hok hg hch
end



noncomputable abbrev XK := Value → Option Addr → Hp → Prop
noncomputable abbrev St := List (Option V)
noncomputable abbrev VK := V → Hp → Prop

noncomputable abbrev TE := St → Hp → VK → Prop
noncomputable abbrev TT := St → Hp → (Bool → Hp → Prop) → Prop
noncomputable abbrev TA := St → Hp → (List V → Hp → Prop) → Prop

structure Ends where
  nx : St → Hp → Prop
  rt : VK
  bk : St → Hp → Prop := fun _ _ => False
  ct : St → Hp → Prop := fun _ _ => False
noncomputable abbrev TS := Ends → St → Hp → Prop

noncomputable def EP (X : Cx) (pins : List (Addr × Obj)) (σ : St) (Q : VK) (u : Value) (s' : Shared) : Prop := ∃ v H', Inv X pins σ H' s' ∧ RelV v u ∧ Q v H'
noncomputable def TP (X : Cx) (pins : List (Addr × Obj)) (σ : St) (Q : Bool → Hp → Prop) (b : Bool) (s' : Shared) : Prop := ∃ H', Inv X pins σ H' s' ∧ Q b H'
noncomputable def AP (X : Cx) (pins : List (Addr × Obj)) (σ : St) (Q : List V → Hp → Prop) (us : List Value) (s' : Shared) : Prop := ∃ vs H', Inv X pins σ H' s' ∧ Vals vs us ∧ Q vs H'
noncomputable def SP (X : Cx) (pins : List (Addr × Obj)) (D : Ends) (f : Flow) (s' : Shared) : Prop :=
  match f with
  | .next => ∃ σ' H', Inv X pins σ' H' s' ∧ D.nx σ' H'
  | .brk => ∃ σ' H', Inv X pins σ' H' s' ∧ D.bk σ' H'
  | .cont => ∃ σ' H', Inv X pins σ' H' s' ∧ D.ct σ' H'
  | .ret u => ∃ v σ' H', Inv X pins σ' H' s' ∧ RelV v u ∧ D.rt v H'

noncomputable def PE (X : Cx) (e : Expr) (t : TE) : Prop :=
  ∀ (pins : List (Addr × Obj)) (s : Shared) (σ : St) (H : Hp) (Q : VK), Inv X pins σ H s → t σ H Q → wpAny (model X.prog X.w) X.A (eval e X.env) (EP X pins σ Q) X.xe s
noncomputable def PT (X : Cx) (e : Expr) (t : TT) : Prop :=
  ∀ (pins : List (Addr × Obj)) (s : Shared) (σ : St) (H : Hp) (Q : Bool → Hp → Prop), Inv X pins σ H s → t σ H Q → wpAny (model X.prog X.w) X.A (isTrue e X.env (eval e X.env)) (TP X pins σ Q) X.xe s

noncomputable def PW (X : Cx) (e : Expr) (t : TT) : Prop :=
  ∀ (whole : Sem Value) (pins : List (Addr × Obj)) (s : Shared) (σ : St) (H : Hp) (Q : Bool → Hp → Prop), Inv X pins σ H s → t σ H Q → wpAny (model X.prog X.w) X.A (isTrue e X.env whole) (TP X pins σ Q) X.xe s
theorem PW.pt {X : Cx} {e : Expr} {t : TT} (h : PW X e t) : PT X e t := h _

noncomputable def PA (X : Cx) (es : List Expr) (t : TA) : Prop :=
  ∀ (pos : Pos) (pins : List (Addr × Obj)) (s : Shared) (σ : St) (H : Hp) (Q : List V → Hp → Prop), Inv X pins σ H s → t σ H Q → wpAny (model X.prog X.w) X.A (spliced (backTo pos (starEach es X.env))) (AP X pins σ Q) X.xe s
noncomputable def PS (X : Cx) (st : Stmt) (t : TS) : Prop :=
  ∀ (pins : List (Addr × Obj)) (s : Shared) (σ : St) (H : Hp) (D : Ends), Inv X pins σ H s → t D σ H → wpAny (model X.prog X.w) X.A (exec st X.env) (SP X pins D) X.xe s
noncomputable def PSs (X : Cx) (st : List Stmt) (t : TS) : Prop :=
  ∀ (pins : List (Addr × Obj)) (s : Shared) (σ : St) (H : Hp) (D : Ends), Inv X pins σ H s → t D σ H → wpAny (model X.prog X.w) X.A (execs st X.env) (SP X pins D) X.xe s

theorem thn {α : Type} {t : Sem α} {Q Q' : α → Shared → Prop} {M : Model} {A : Around} {E : Value → Shared → Prop} {s : Shared} (h : wpAny M A t Q E s) (hQ : ∀ a s, Q a s → Q' a s) : wpAny M A t Q' E s := wpAny_mono h hQ fun _ _ x => x
theorem thnE {X : Cx} {pins : List (Addr × Obj)} {σ : St} {Q : VK} {t : Sem Value} {Q' : Value → Shared → Prop} {M : Model} {A : Around} {E : Value → Shared → Prop} {s : Shared} (h : wpAny M A t (EP X pins σ Q) E s) (hQ : ∀ a s x H, Inv X pins σ H s → RelV x a → Q x H → Q' a s) : wpAny M A t Q' E s := thn h fun a s z => z.elim fun x z => z.elim fun H z => hQ a s x H z.1 z.2.1 z.2.2
theorem thnA {X : Cx} {pins : List (Addr × Obj)} {σ : St} {Q : List V → Hp → Prop} {t : Sem (List Value)} {Q' : List Value → Shared → Prop} {M : Model} {A : Around} {E : Value → Shared → Prop} {s : Shared} (h : wpAny M A t (AP X pins σ Q) E s) (hQ : ∀ a s x H, Inv X pins σ H s → Vals x a → Q x H → Q' a s) : wpAny M A t Q' E s := thn h fun a s z => z.elim fun x z => z.elim fun H z => hQ a s x H z.1 z.2.1 z.2.2
end L2

namespace L2
open PySem PySem.Spec PyProof.Rows
section
variable {X : Cx}



noncomputable def tVar (i : Nat) : TE := fun σ H Q => ∃ v, σ[i]? = some (some v) ∧ Q v H
noncomputable def tC (v : V) : TE := fun _ H Q => Q v H
theorem pe_var {i : Nat} {x : Str} {pos : Pos} (hN : X.N[i]? = some x) (hv : Vis X.env.scope x) (hd : (x == ("__debug__" : Str)) = false := by decide) (hcd : (x == ("__classdict__" : Str)) = false := by decide) : PE X (.Name x pos) (tVar i) := by
  intro pins s σ H Q I h
  obtain ⟨v, e, h⟩ := h
  obtain ⟨m, hn, hl⟩ := I.loc
  obtain ⟨u, r, l⟩ := hl i x v hN e hv
  have fin : EP X pins σ Q u s := ⟨v, H, I, r, h⟩
  rcases l with ⟨hk, hm⟩ | ⟨hk, c, hc, hcell⟩
  · exact wpAny_Name (wpAny_loadName_local I.ok.kind hk hn hm fin) hd
  · rcases hk with hk | hk
    · exact wpAny_Name (wpAny_loadName_cell I.ok.kind hk hc hcell fin) hd
    · exact wpAny_Name (wpAny_loadName_free I.ok.kind hk hc hcell fin hcd) hd
theorem pe_int {i j pos} : PE X (.Constant (.int i) j pos) (tC (.int i)) := fun _ _ _ H _ I h => wpAny_Constant_int ⟨.int i, H, I.tok _, ⟨_, rfl⟩, h⟩
theorem pe_bl {b j pos} : PE X (.Constant (.bool b) j pos) (tC (.bl b)) := fun _ _ _ H _ I h => Constant_bool ⟨.bl b, H, I, rfl, h⟩
theorem pe_non {j pos} : PE X (.Constant .none j pos) (tC .non) := fun _ _ _ H _ I h => Constant_none ⟨.non, H, I, rfl, h⟩
theorem pe_str {x j pos} : PE X (.Constant (.str x) j pos) (tC (.str x)) := fun _ _ _ H _ I h => Calls.Constant_str ⟨.str x, H, I.tok _, ⟨_, rfl⟩, h⟩


noncomputable def Gl (X : Cx) (x : Str) : Prop := X.env.kindOf x = some .globalImplicit
theorem ld_glob {E : Value → Shared → Prop} {pins : List (Addr × Obj)} {s : Shared} {σ : St} {H : Hp} {x : Str} {u : Value} {pos : Pos} {Q : Value → Shared → Prop} (I : Inv X pins σ H s) (hg : Gl X x) (hm : X.mg x = some u) (h : Q u s)
    (hd : (x == ("__debug__" : Str)) = false := by decide) : wpAny (model X.prog X.w) X.A (eval (.Name x pos) X.env) Q E s :=
  Calls.Name_function_global I.ok.kind hg (Calls.loadGlobal_global (by rw [I.ok.glob]; exact I.mod.glob.keeps I.bk) hm h) hd
theorem ld_blt {E : Value → Shared → Prop} {pins : List (Addr × Obj)} {s : Shared} {σ : St} {H : Hp} {x : Str} {u : Value} {pos : Pos} {Q : Value → Shared → Prop} (I : Inv X pins σ H s) (hg : Gl X x) (hm : X.mg x = none) (hv : bootBuiltins x = some u) (h : Q u s)
    (hn : x ≠ "__name__" := by decide) (hd : (x == ("__debug__" : Str)) = false := by decide) : wpAny (model X.prog X.w) X.A (eval (.Name x pos) X.env) Q E s := by
  obtain ⟨mb, h1, h2⟩ := I.mod.blt
  exact Calls.Name_function_global I.ok.kind hg (Calls.loadGlobal_builtin (by rw [I.ok.glob]; exact I.mod.glob.keeps I.bk) hm (by rw [I.ok.blt]; exact h1.keeps I.bk) ((h2 x hn).trans hv) h) hd

theorem pe_glob {x : Str} {v : V} {u : Value} {pos : Pos} (hg : Gl X x) (hm : X.mg x = some u) (r : RelV v u) (hd : (x == ("__debug__" : Str)) = false := by decide) : PE X (.Name x pos) (tC v) :=
  fun _ _ _ H _ I h => ld_glob I hg hm ⟨v, H, I, r, h⟩ hd
theorem pe_bltn {x : Str} {v : V} {u : Value} {pos : Pos} (hg : Gl X x) (hm : X.mg x = none) (hv : bootBuiltins x = some u) (r : RelV v u) (hn : x ≠ "__name__" := by decide) (hd : (x == ("__debug__" : Str)) = false := by decide) : PE X (.Name x pos) (tC v) :=
  fun _ _ _ H _ I h => ld_blt I hg hm hv ⟨v, H, I, r, h⟩ hn hd




variable {a b : Expr} {ta tb : TE} {pos : Pos}




noncomputable def tB (t : TE) : TT := fun σ H Q => t σ H fun x H1 => ∃ c, x = .bl c ∧ Q c H1

theorem pt_val {e : Expr} {t : TE} (h : PE X e t) (he : ∀ whole, isTrue e X.env whole = (do let v ← whole; standAt e.pos; holding [v] (truthy v)) := by intro _; rfl) : PT X e (tB t) := by
  intro pins s σ H Q I hw
  refine isTrue_plain (thnE (h pins s σ H _ I hw) fun v s1 x H1 I1 r1 q1 => ?_) (he _)
  obtain ⟨d, rfl, q⟩ := q1
  cases r1
  exact wpAny_truthy_bool ⟨H1, I1, q⟩


variable {tA tB' : TT} {rest : List Expr}
noncomputable def tAnd (t u : TT) : TT := fun σ H Q => t σ H fun c H1 => if c = true then u σ H1 Q else Q false H1
noncomputable def tOr (t u : TT) : TT := fun σ H Q => t σ H fun c H1 => if c = true then Q true H1 else u σ H1 Q
noncomputable def tNot (t : TT) : TT := fun σ H Q => t σ H fun c H1 => Q (!c) H1
theorem pw_and1 (ha : PT X a tA) : PW X (.BoolOp .And [a] pos) tA := by
  intro wh pins s σ H Q I h
  refine isTrue_and (thn (ha pins s σ H Q I h) fun c s1 e => ?_)
  cases c with
  | true => exact isTrue_and_nil e
  | false => exact e
theorem pw_or1 (ha : PT X a tA) : PW X (.BoolOp .Or [a] pos) tA := by
  intro wh pins s σ H Q I h
  refine isTrue_or (thn (ha pins s σ H Q I h) fun c s1 e => ?_)
  cases c with
  | false => exact isTrue_or_nil e
  | true => exact e
theorem pw_and (ha : PT X a tA) (hb : PW X (.BoolOp .And (b :: rest) pos) tB') : PW X (.BoolOp .And (a :: b :: rest) pos) (tAnd tA tB') := by
  intro wh pins s σ H Q I h
  refine isTrue_and (thn (ha pins s σ H _ I h) fun c s1 ⟨H1, I1, q1⟩ => ?_)
  cases c with
  | true => exact hb wh pins s1 σ H1 Q I1 q1
  | false => exact ⟨H1, I1, q1⟩
theorem pw_or (ha : PT X a tA) (hb : PW X (.BoolOp .Or (b :: rest) pos) tB') : PW X (.BoolOp .Or (a :: b :: rest) pos) (tOr tA tB') := by
  intro wh pins s σ H Q I h
  refine isTrue_or (thn (ha pins s σ H _ I h) fun c s1 ⟨H1, I1, q1⟩ => ?_)
  cases c with
  | true => exact ⟨H1, I1, q1⟩
  | false => exact hb wh pins s1 σ H1 Q I1 q1
theorem pt_not (ha : PT X a tA) : PT X (.UnaryOp .Not a pos) (tNot tA) := by
  intro pins s σ H Q I h
  exact isTrue_not (ha pins s σ H (fun c H1 => Q (!c) H1) I h)

noncomputable def tAndV (ta tb : TE) : TE := fun σ H Q => ta σ H fun x H1 => ∃ c, x = .bl c ∧ if c = true then tb σ H1 Q else Q (.bl false) H1
theorem pe_one {op} {t : TE} (h : PE X a t) : PE X (.BoolOp op [a] pos) t := fun pins s σ H Q I hw => BoolOp_one (h pins s σ H Q I hw)
theorem pe_and (ha : PE X a ta) (hb : PE X (.BoolOp .And (b :: rest) pos) tb) : PE X (.BoolOp .And (a :: b :: rest) pos) (tAndV ta tb) := by
  intro pins s σ H Q I h
  refine BoolOp_and (thnE (ha pins s σ H _ I h) fun v s1 x H1 I1 r1 q1 => ?_)
  obtain ⟨c, rfl, q1⟩ := q1
  cases r1
  refine wpAny_truthy_bool ?_
  cases c with
  | true => exact hb pins s1 σ H1 Q I1 q1
  | false => exact ⟨.bl false, H1, I1, rfl, q1⟩

end
end L2

namespace L2
open PySem PySem.Spec PyProof.Rows


noncomputable def SqL (K : PySem.W.Frag) (H : Hp) (a : Addr) (xs : List V) : Prop :=
  Rd H a (.lst xs) ∨
    ∃ (o : Obj) (its : Array Value) (n : Nat), K.lookup a = some o ∧ o.cls = .type "list" ∧ o.dict = none ∧ o.data = .seq its n ∧ its.size ≤ sizeLine ∧ Vals xs its.toList
noncomputable def SqT (K : PySem.W.Frag) (H : Hp) (a : Addr) (xs : List V) : Prop :=
  Rd H a (.tup xs) ∨
    ∃ (o : Obj) (its : Array Value) (n : Nat), K.lookup a = some o ∧ o.cls = .type "tuple" ∧ o.data = .seq its n ∧ its.size ≤ sizeLine ∧ Vals xs its.toList
noncomputable def absV : Value → Option V
  | .none => some .non
  | .bool b => some (.bl b)
  | .int i _ => some (.int i)
  | .str x _ => some (.str x)
  | .bytes b _ => some (.byt b)
  | .float b _ => some (.flt b)
  | .ref a => some (.ref a)
  | .type n => some (.ty n)
  | _ => none
theorem RelV.abs {x : V} {u : Value} (r : RelV x u) : absV u = some x := by
  cases x with
  | non => cases r; rfl
  | bl _ => cases r; rfl
  | int _ => obtain ⟨t, rfl⟩ := r; rfl
  | str _ => obtain ⟨t, rfl⟩ := r; rfl
  | byt _ => obtain ⟨t, rfl⟩ := r; rfl
  | flt _ => obtain ⟨t, rfl⟩ := r; rfl
  | ref _ => cases r; rfl
  | ty _ => cases r; rfl
theorem RelV.inj {x y : V} {u : Value} (r : RelV x u) (q : RelV y u) : x = y := Option.some.inj (r.abs.symm.trans q.abs)
theorem Vals.inj : ∀ {xs ys : List V} {us : List Value}, Vals xs us → Vals ys us → xs = ys
  | _, _, _, .nil, .nil => rfl
  | _, _, _, .cons r t, .cons r' t' => by rw [r.inj r', Vals.inj t t']
section
variable {X : Cx} {pins : List (Addr × Obj)} {σ : St} {H : Hp} {s : Shared} {a : Addr} {xs ys : List V}
theorem SqL.of {K : PySem.W.Frag} (h : H a = some (.lst xs)) : SqL K H a xs := .inl (.inl h)
theorem SqT.of {K : PySem.W.Frag} (h : H a = some (.tup xs)) : SqT K H a xs := .inl (.inl h)
theorem Inv.list (I : Inv X pins σ H s) (h : SqL X.K H a xs) : ∃ its : List Value, Vals xs its ∧ PlainL s.heap a its.toArray ∧ xs.length ≤ sizeLine := by
  rcases h with h | ⟨o, its, n, hk, hc, hd, hs, hz, r⟩
  · obtain ⟨z, its, n, r, e⟩ := h.ok I.hok
    exact ⟨its, r, ⟨_, n, e, rfl, rfl, rfl⟩, z⟩
  · refine ⟨its.toList, r, ⟨o, n, I.kIn a o hk, hc, hd, by simpa using hs⟩, ?_⟩
    have e := r.length
    simp only [Array.length_toList] at e
    omega
theorem Inv.tuple (I : Inv X pins σ H s) (h : SqT X.K H a xs) : ∃ its : List Value, Vals xs its ∧ IsTup s.heap a its.toArray ∧ xs.length ≤ sizeLine := by
  rcases h with h | ⟨o, its, n, hk, hc, hs, hz, r⟩
  · obtain ⟨z, its, r, p⟩ := h.ok I.hok
    exact ⟨its, r, p.tup, z⟩
  · refine ⟨its.toList, r, ⟨o, I.kIn a o hk, hc, n, by simpa using hs⟩, ?_⟩
    have e := r.length
    simp only [Array.length_toList] at e
    omega
theorem Inv.list_inj (I : Inv X pins σ H s) (h : SqL X.K H a xs) (h' : SqL X.K H a ys) : xs = ys := by
  obtain ⟨its, r, ⟨o, n, e, _, _, d⟩, _⟩ := I.list h
  obtain ⟨its', r', ⟨o', n', e', _, _, d'⟩, _⟩ := I.list h'
  rw [e] at e'; cases e'
  rw [d] at d'
  injection d' with d1 _
  have : its = its' := by simpa using congrArg Array.toList d1
  subst this
  exact r.inj r'
theorem Inv.tuple_inj (I : Inv X pins σ H s) (h : SqT X.K H a xs) (h' : SqT X.K H a ys) : xs = ys := by
  obtain ⟨its, r, ⟨o, e, _, n, d⟩, _⟩ := I.tuple h
  obtain ⟨its', r', ⟨o', e', _, n', d'⟩, _⟩ := I.tuple h'
  rw [e] at e'; cases e'
  rw [d] at d'
  injection d' with d1 _
  have : its = its' := by simpa using congrArg Array.toList d1
  subst this
  exact r.inj r'
end


noncomputable abbrev Cx.wish (X : Cx) (E : Value → Shared → Prop) : Cx := { X with xe := E }

noncomputable abbrev Cx.nox (X : Cx) : Cx := X.wish fun _ _ => False
theorem Cx.Ok.wish {X : Cx} (ok : X.Ok) (E : Value → Shared → Prop) : (X.wish E).Ok :=
  ⟨ok.mod, ok.kind, ok.glob, ok.blt, ok.above, ok.inj, ok.has, ok.cab, ok.hd, ok.frames, ok.stk, ok.exf, ok.bs, ok.bsz, ok.noex, ok.exfs, ok.funs, ok.frf⟩
theorem Cx.Ok.unwish {X : Cx} {E : Value → Shared → Prop} (ok : (X.wish E).Ok) : X.Ok :=
  ⟨ok.mod, ok.kind, ok.glob, ok.blt, ok.above, ok.inj, ok.has, ok.cab, ok.hd, ok.frames, ok.stk, ok.exf, ok.bs, ok.bsz, ok.noex, ok.exfs, ok.funs, ok.frf⟩
section
variable {X : Cx} {pins : List (Addr × Obj)} {σ : St} {H : Hp} {s : Shared} {E : Value → Shared → Prop}
theorem Inv.wish (I : Inv X pins σ H s) (E : Value → Shared → Prop) : Inv (X.wish E) pins σ H s := ⟨I.ok.wish E, I.os, I.bare, I.base, I.loc, I.cell, I.free, I.freeC, I.pin, I.hok, I.len⟩
theorem Inv.unwish (I : Inv (X.wish E) pins σ H s) : Inv X pins σ H s := ⟨I.ok.unwish, I.os, I.bare, I.base, I.loc, I.cell, I.free, I.freeC, I.pin, I.hok, I.len⟩
theorem SP.unwish {D : Ends} {f : Flow} {s' : Shared} (h : SP (X.wish E) pins D f s') : SP X pins D f s' := by
  cases f with
  | next => obtain ⟨σ', H', I, q⟩ := h; exact ⟨σ', H', I.unwish, q⟩
  | brk => obtain ⟨σ', H', I, q⟩ := h; exact ⟨σ', H', I.unwish, q⟩
  | cont => obtain ⟨σ', H', I, q⟩ := h; exact ⟨σ', H', I.unwish, q⟩
  | ret u => obtain ⟨v, σ', H', I, r, q⟩ := h; exact ⟨v, σ', H', I.unwish, r, q⟩
theorem PSs.nox {st : List Stmt} {t : TS} (h : PSs X.nox st t) : PSs X st t := fun pins s σ H D I hw =>
  wpAny_mono (h pins s σ H D (I.wish _) hw) (fun _ _ q => q.unwish) fun _ _ z => False.elim z
end


section
variable {X : Cx} {st : Stmt} {rest : List Stmt} {t u : TS} {e : Expr} {te : TE} {pos : Pos}
noncomputable def tNext : TS := fun D σ H => D.nx σ H
noncomputable def tSeq (t u : TS) : TS := fun D σ H => t { D with nx := u D } σ H
theorem pss_nil : PSs X [] tNext := fun _ _ σ H _ I h => wpAny_execs_nil ⟨σ, H, I, h⟩
theorem pss_cons (h1 : PS X st t) (h2 : PSs X rest u) : PSs X (st :: rest) (tSeq t u) := by
  intro pins s σ H D I h
  refine wpAny_execs_cons (thn (h1 pins s σ H { D with nx := u D } I h) fun f s1 q => ?_)
  cases f with
  | next =>
    obtain ⟨σ', H', I', q⟩ := q
    exact h2 pins s1 σ' H' D I' q
  | ret v => exact q
  | brk => exact q
  | cont => exact q
theorem pss_one (h1 : PS X st t) : PSs X [st] t := by
  intro pins s σ H D I h
  refine wpAny_execs_cons (thn (h1 pins s σ H D I h) fun f s1 q => ?_)
  cases f with
  | next => exact wpAny_execs_nil q
  | ret v => exact q
  | brk => exact q
  | cont => exact q

theorem Inv.quiet {pins : List (Addr × Obj)} {σ : St} {H : Hp} {s : Shared} (I : Inv X pins σ H s) : interactive X.env = false := by simp [interactive, I.ok.kind]

noncomputable def tDrop (te : TE) : TS := fun D σ H => te σ H fun _ H1 => D.nx σ H1
theorem ps_expr (he : PE X e te) (hs : swapsWith e none pos.line X.env = pure false := by rfl) : PS X (.Expr e pos) (tDrop te) := by
  intro pins s σ H D I h
  exact wpAny_Expr_any (thnE (he pins s σ H _ I h) fun v s1 x H1 I1 r1 q1 => ⟨σ, H1, I1, q1⟩) I.quiet hs
noncomputable def tRet (te : TE) : TS := fun D σ H => te σ H D.rt
theorem ps_ret (he : PE X e te) : PS X (.Return (some e) pos) (tRet te) := by
  intro pins s σ H D I h
  exact wpAny_Return_some (thnE (he pins s σ H _ I h) fun v s1 x H1 I1 r1 q1 => ⟨x, σ, H1, I1, r1, q1⟩)
noncomputable def tIfS (c : TT) (t u : TS) : TS := fun D σ H => c σ H fun b H1 => if b = true then t D σ H1 else u D σ H1
theorem ps_if {c : Expr} {a b : List Stmt} {tc : TT} (hc : PT X c tc) (ha : PSs X a t) (hb : PSs X b u) : PS X (.If c a b pos) (tIfS tc t u) := by
  intro pins s σ H D I h
  refine wpAny_If (thn (hc pins s σ H _ I h) fun d s1 ⟨H1, I1, q1⟩ => ?_)
  cases d with
  | true => exact ha pins s1 σ H1 D I1 q1
  | false => exact hb pins s1 σ H1 D I1 q1

end


noncomputable abbrev TG := V → St → Hp → (St → Hp → Prop) → Prop
noncomputable abbrev TGs := List V → St → Hp → (St → Hp → Prop) → Prop
noncomputable def PG (X : Cx) (target : Expr) (t : TG) : Prop :=
  ∀ (pins : List (Addr × Obj)) (s : Shared) (σ : St) (H : Hp) (v : V) (u : Value) (Q : St → Hp → Prop), Inv X pins σ H s → RelV v u → t v σ H Q →
    wpAny (model X.prog X.w) X.A (assign target X.env u) (fun _ s' => ∃ σ' H', Inv X pins σ' H' s' ∧ Q σ' H') X.xe s

noncomputable def PGs (X : Cx) (ts : List Expr) (t : TGs) : Prop :=
  ∀ (pins : List (Addr × Obj)) (s : Shared) (σ : St) (H : Hp) (vs : List V) (us : List Value) (Q : St → Hp → Prop), Inv X pins σ H s → Vals vs us → t vs σ H Q →
    wpAny (model X.prog X.w) X.A (assignInOrder ((assignEach ts X.env).map (·.2)) us) (fun _ s' => ∃ σ' H', Inv X pins σ' H' s' ∧ Q σ' H') X.xe s

noncomputable abbrev TSet := V → V → V → Hp → (Hp → Prop) → Prop
noncomputable def PSet (X : Cx) (t : TSet) : Prop :=
  ∀ (pins : List (Addr × Obj)) (s : Shared) (σ : St) (H : Hp) (o i v : V) (ov iv u : Value) (Q : Hp → Prop), Inv X pins σ H s → RelV o ov → RelV i iv → RelV v u → t o i v H Q →
    wpAny (model X.prog X.w) X.A (setItem ov iv u) (fun _ s' => ∃ H', Inv X pins σ H' s' ∧ Q H') X.xe s

section
variable {X : Cx} {pos : Pos}
noncomputable def gName (i : Nat) : TG := fun v σ H Q => Q (σ.set i (some v)) H
theorem pg_name {i : Nat} {x : Str} (hN : X.N.Nodup) (hi : X.N[i]? = some x) (hx : Loc X.env.scope x) (hf : X.fn x = true ∨ X.env.scope.names.lookup x = some .local := by first | exact .inl rfl | exact .inr rfl | assumption) : PG X (.Name x pos) (gName i) := by
  intro pins s σ H v u Q I r h
  exact wpAny_assign_Name (store_ok I hN hi hx r (fun s' I' => ⟨_, H, I', h⟩) hf)
noncomputable def gNil : TGs := fun vs σ H Q => vs = [] ∧ Q σ H
noncomputable def gCons (t : TG) (u : TGs) : TGs := fun vs σ H Q => ∃ v r, vs = v :: r ∧ t v σ H fun σ' H' => u r σ' H' Q
theorem pgs_nil : PGs X [] gNil := by
  intro pins s σ H vs us Q I r h
  obtain ⟨e, h⟩ := h
  subst e
  cases r
  exact assignInOrder_nil ⟨σ, H, I, h⟩
theorem pgs_cons {e : Expr} {es : List Expr} {t : TG} {u : TGs} (h1 : PG X e t) (h2 : PGs X es u)
    (hs : (assignEach (e :: es) X.env).map (·.2) = assign e X.env :: (assignEach es X.env).map (·.2) := by rfl) : PGs X (e :: es) (gCons t u) := by
  intro pins s σ H vs us Q I r h
  obtain ⟨v, vr, e1, h⟩ := h
  subst e1
  cases r with
  | cons r rr =>
    rw [hs]
    refine assignInOrder_cons (thn (h1 pins s σ H _ _ _ I r h) fun _ s1 ⟨σ1, H1, I1, q1⟩ => ?_)
    exact h2 pins s1 σ1 H1 _ _ Q I1 rr q1

noncomputable def gTup (K : PySem.W.Frag) (n : Nat) (t : TGs) : TG := fun v σ H Q => ∃ a xs, v = .ref a ∧ SqT K H a xs ∧ xs.length = n ∧ t xs σ H Q
theorem pg_tup {es : List Expr} {k : Nat} {t : TGs} {n : Nat} (hc : X.calm = true) (h : PGs X es t)
    (hn : (assignEach es X.env).length = n := by rfl) (hst : (assignEach es X.env).findIdx? (·.1) = none := by rfl) : PG X (.Tuple es k pos) (gTup X.K n t) := by
  intro pins s σ H v u Q I r hw
  obtain ⟨a, xs, e1, hq, hl, hw⟩ := hw
  subst e1
  cases r
  obtain ⟨its, rv, ht, hz⟩ := I.tuple hq
  refine assign_Tuple_tuple (I.ok.hd hc) ht (by simp [hn, ← hl, rv.length]) hst fun h' hx => ?_
  have I1 : Inv X pins σ H { s with heap := h' } := I.kept (t' := s.toks) fun b o e => hx b o (Nat.ne_of_lt (Heap.lt_size e)) e
  exact h pins _ σ H xs _ Q I1 (by simpa using rv) hw

noncomputable def gSub (to ti : TE) (t : TSet) : TG := fun v σ H Q => to σ H fun o H1 => ti σ H1 fun i H2 => t o i v H2 fun H3 => Q σ H3
theorem pg_sub {o i : Expr} {to ti : TE} {t : TSet} (ho : PE X o to) (hi : PE X i ti) (hs : PSet X t)
    (ha : ∀ v, assign (.Subscript o i pos) X.env v = (do
      let ov ← holding [v] (eval o X.env)
      let iv ← holding [v, ov] (eval i X.env)
      standAt pos
      holding [v, ov, iv] (setItem ov iv v)
      release [v, ov, iv] []) := by intro _; rfl) : PG X (.Subscript o i pos) (gSub to ti t) := by
  intro pins s σ H v u Q I r h
  rw [ha]
  refine wpAny_bind (wpAny_holding (thnE (ho pins s σ H _ I h) fun ov s1 x H1 I1 r1 q1 => ?_))
  refine wpAny_bind (wpAny_holding (thnE (hi pins s1 σ H1 _ I1 q1) fun iv s2 y H2 I2 r2 q2 => ?_))
  refine wpAny_bind (wpAny_standAt (wpAny_bind (wpAny_holding (thn (hs pins s2 σ H2 x y v ov iv u _ I2 r1 r2 r q2) fun _ s3 ⟨H3, I3, q3⟩ => ?_))))
  exact wpAny_release ⟨σ, H3, I3, q3⟩

noncomputable def tAsg (te : TE) (g : TG) : TS := fun D σ H => te σ H fun x H1 => g x σ H1 D.nx
theorem ps_asg {tg e : Expr} {te : TE} {g : TG} (he : PE X e te) (hg : PG X tg g) (hs : swapsWithSole [tg] e pos.line X.env = pure false := by rfl) (hw : swappedStores [tg] e X.env = pure none := by rfl)
    (h1 : (assignEach [tg] X.env).map (·.2) = [assign tg X.env] := by rfl) : PS X (.Assign [tg] e pos) (tAsg te g) := by
  intro pins s σ H D I h
  refine wpAny_Assign_stores (thnE (he pins s σ H _ I h) fun v s1 x H1 I1 r1 q1 => ?_) hs hw
  rw [h1]
  exact thn (hg pins s1 σ H1 x v _ I1 r1 q1) fun _ s2 q => q

theorem ps_set {i : Nat} {x : Str} {e : Expr} {te : TE} {pos' : Pos} (hN : X.N.Nodup) (hi : X.N[i]? = some x) (hx : Loc X.env.scope x) (he : PE X e te) (hs : swapsWith e (some (.Name x pos')) pos.line X.env = pure false := by rfl) (hf : X.fn x = true ∨ X.env.scope.names.lookup x = some .local := by first | exact .inl rfl | exact .inr rfl | assumption) :
    PS X (.Assign [.Name x pos'] e pos) (tAsg te (gName i)) := by
  intro pins s σ H D I h
  refine wpAny_Assign_Name (thnE (he pins s σ H _ I h) fun v s1 y H1 I1 r1 q1 => ?_) hs
  exact store_ok I1 hN hi hx r1 (fun s2 I2 => ⟨_, H1, I2, q1⟩) hf





end


section
variable {X : Cx} {pos : Pos}

end



structure It where
  go : Nat → Hp → Prop
  yld : Nat → Hp → V → Hp → Prop
  stop : Nat → Hp → Prop

noncomputable def FpOk (X : Cx) (pins : List (Addr × Obj)) (H : Hp) (b : Addr) : Prop :=
  H b = none ∧ b ≠ X.env.locals ∧ b ∉ X.fs ∧ (b ∈ X.ex ∨ X.s₀.heap.objs.size ≤ b) ∧ (∀ x c, X.env.cells.lookup x = some c → c ≠ b) ∧ ∀ p ∈ X.pn ++ pins, p.1 ≠ b
theorem Inv.fpOk {X : Cx} {pins : List (Addr × Obj)} {σ : St} {H H' : Hp} {s : Shared} {b : Addr} (I : Inv X pins σ H s) (hb : s.heap.objs.size ≤ b) (hn : H' b = none) : FpOk X pins H' b := by
  refine ⟨hn, Nat.ne_of_gt (Nat.lt_of_lt_of_le I.lt hb), I.nofs hb, .inr (Nat.le_trans I.sz hb), fun x c e z => ?_, fun p hp z => ?_⟩
  · obtain ⟨v, q⟩ := I.cell x c e
    exact absurd (Nat.lt_of_lt_of_le q.lt (by rw [z]; exact hb)) (Nat.lt_irrefl _)
  · exact absurd (Nat.lt_of_lt_of_le (Heap.lt_size (I.pin p hp).1) (by rw [z]; exact hb)) (Nat.lt_irrefl _)
structure Turn (P : Program) (w : World) (K : PySem.W.Frag) (tg : Expr) (J : It) (fp : List Addr) (it : Addr) (tn : Nat → Heap → Prop) : Prop where
  mem : it ∈ fp
  obj : ∀ i h, tn i h → ∀ b ∈ fp, ∃ o, h.get? b = some o ∧ ∀ v, o.data ≠ .cell v
  keep : ∀ i h h', tn i h → (∀ b ∈ fp, ∀ o, h.get? b = some o → h'.get? b = some o) → tn i h'
  item : ∀ (X : Cx), X.prog = P → X.w = w → X.K = K → X.calm = true → ∀ (i : Nat) (pins : List (Addr × Obj)) (s : Shared) (σ : St) (H : Hp) (E : Value → Shared → Prop), Inv X pins σ H s → (∀ b ∈ fp, FpOk X pins H b) → tn i s.heap → J.go i H →
    wpAny (model P w) X.A (pyNext (.ref it)) (fun r s1 => ∃ u, r = some u ∧
      wpAny (model P w) X.A (letOwnedTupleGo tg (.ref it) u) (fun _ s2 => ∃ x H', Inv X pins σ H' s2 ∧ RelV x u ∧ J.yld i H x H' ∧ tn (i + 1) s2.heap ∧ ∀ b ∈ fp, H' b = none) E s1) E s
  done : ∀ (X : Cx), X.prog = P → X.w = w → X.K = K → X.calm = true → ∀ (i : Nat) (pins : List (Addr × Obj)) (s : Shared) (σ : St) (H : Hp) (E : Value → Shared → Prop), Inv X pins σ H s → (∀ b ∈ fp, FpOk X pins H b) → tn i s.heap → J.stop i H →
    wpAny (model P w) X.A (pyNext (.ref it)) (fun r s1 => r = none ∧ Inv X pins σ H s1) E s
  self : ∀ (A : Around) (i : Nat) (s : Shared) (Q : Value → Shared → Prop) (E : Value → Shared → Prop), tn i s.heap → Q (.ref it) s → wpAny (model P w) A (pyIter (.ref it)) Q E s
noncomputable abbrev TI := St → Hp → (It → Hp → Prop) → Prop

noncomputable def PIE (X : Cx) (pins : List (Addr × Obj)) (σ : St) (tg : Expr) (R : It → Hp → Prop) (itv : Value) (s2 : Shared) : Prop :=
  ∃ (it : Addr) (fp : List Addr) (tn : Nat → Heap → Prop) (J : It) (H' : Hp), itv = .ref it ∧ Inv X pins σ H' s2 ∧ Turn X.prog X.w X.K tg J fp it tn ∧ tn 0 s2.heap ∧ (∀ b ∈ fp, FpOk X pins H' b) ∧ R J H'
noncomputable def PI (X : Cx) (tg iter : Expr) (wi : TI) : Prop :=
  ∀ (pins : List (Addr × Obj)) (s : Shared) (σ : St) (H : Hp) (R : It → Hp → Prop), Inv X pins σ H s → wi σ H R →
    wpAny (model X.prog X.w) X.A (eval iter X.env) (fun v s1 => wpAny (model X.prog X.w) X.A (pyIter v) (PIE X pins σ tg R) X.xe s1) X.xe s


theorem go_of {M : Model} {A : Around} {E : Value → Shared → Prop} {s : Shared} {tg : Expr} {it : Addr} {u : Value} {o : Obj} {n : String} {vs : Array Value} {Q : Unit → Shared → Prop} (ho : s.heap.get? it = some o) (hc : o.cls = .type n) (hd : o.data = .fields vs)
    (hn : ["enumerate", "zip", "dict_itemiterator", "dict_reverseitemiterator", "odict_iterator", "itertools.zip_longest", "itertools.pairwise"].contains n = false) (hQ : Q () s) : wpAny M A (letOwnedTupleGo tg (.ref it) u) Q E s := by
  unfold letOwnedTupleGo
  cases tg <;> first
    | exact wpAny_pure hQ
    | (cases u <;> first
        | exact wpAny_pure hQ
        | (refine wpAny_bind (wpAny_load ho ?_)
           rw [hc, hd]
           show wpAny M A (if (["enumerate", "zip", "dict_itemiterator", "dict_reverseitemiterator", "odict_iterator", "itertools.zip_longest", "itertools.pairwise"].contains n && vs[0]? == some (rawInt _)) = true then _ else _) Q E s
           rw [if_neg (by intro h; rw [hn, Bool.false_and] at h; cases h)]
           exact wpAny_pure hQ))


noncomputable def Itl (K : PySem.W.Frag) (a : Addr) : It :=
  ⟨fun i H => ∃ xs x, SqL K H a xs ∧ xs[i]? = some x, fun i H x H' => H' = H ∧ ∀ xs, SqL K H a xs → xs[i]? = some x, fun i H => ∃ xs, SqL K H a xs ∧ xs.length ≤ i⟩
noncomputable def Itt (K : PySem.W.Frag) (a : Addr) : It :=
  ⟨fun i H => ∃ xs x, SqT K H a xs ∧ xs[i]? = some x, fun i H x H' => H' = H ∧ ∀ xs, SqT K H a xs → xs[i]? = some x, fun i H => ∃ xs, SqT K H a xs ∧ xs.length ≤ i⟩

noncomputable def Itr (lo : Int) (n : Nat) : It := ⟨fun i _ => i < n, fun i H x H' => H' = H ∧ x = .int (lo + i), fun i _ => n ≤ i⟩
theorem turn_list {P : Program} {w : World} {K : PySem.W.Frag} {tg : Expr} (a it : Addr) : Turn P w K tg (Itl K a) [it] it (fun i h => h.IsListIter it a i) where
  mem := by simp
  obj := fun i h st b hb => by
    have e : b = it := by simpa using hb
    subst e
    obtain ⟨o, e, c, d⟩ := st
    exact ⟨o, e, fun v z => by rw [d] at z; cases z⟩
  keep := fun i h h' st k => st.at fun o e => k it (by simp) o e
  item := by
    intro X hP hw hK hc i pins s σ H E I hf st hg
    subst hP hw hK
    obtain ⟨xs, x, hq, hx⟩ := hg
    obtain ⟨its, rv, p, hz⟩ := I.list hq
    obtain ⟨u, hu, ru⟩ := rv.get hx
    obtain ⟨f0, f1, f2, f3, f4, f5⟩ := hf it (by simp)
    refine wpAny_pyNext_list_item st p.isList (x := u) (by simpa using hu) fun h' st' sb => ?_
    have I1 : Inv X pins σ H { s with heap := h' } := I.turned (t' := s.toks) (fun b o hb e => (sb.2 b hb).trans e) f0 f1 f3 f4 f5
    obtain ⟨o, e, c, d⟩ := id st'
    exact ⟨u, rfl, go_of (s := { s with heap := h' }) e c d (by decide) ⟨x, H, I1, ru, ⟨rfl, fun ys hy => by rw [I.list_inj hy hq]; exact hx⟩, st', fun b hb => (hf b hb).1⟩⟩
  done := by
    intro X hP hw hK hc i pins s σ H E I hf st hg
    subst hP hw hK
    obtain ⟨xs, hq, hx⟩ := hg
    obtain ⟨its, rv, p, hz⟩ := I.list hq
    obtain ⟨f0, f1, f2, f3, f4, f5⟩ := hf it (by simp)
    have hl := rv.length
    exact wpAny_pyNext_list_end (I.ok.hd hc) st p.isList (by simp; omega) fun h' eb => ⟨rfl, I.turned (t' := s.toks) (fun b o hb e => eb b o hb e) f0 f1 f3 f4 f5⟩
  self := fun _ _ _ _ _ st h => wpAny_pyIter_listiter st h
theorem turn_tuple {P : Program} {w : World} {K : PySem.W.Frag} {tg : Expr} (a it : Addr) : Turn P w K tg (Itt K a) [it] it (fun i h => h.IsTupleIter it a i) where
  mem := by simp
  obj := fun i h st b hb => by
    have e : b = it := by simpa using hb
    subst e
    obtain ⟨o, e, c, d⟩ := st
    exact ⟨o, e, fun v z => by rw [d] at z; cases z⟩
  keep := fun i h h' st k => st.at fun o e => k it (by simp) o e
  item := by
    intro X hP hw hK hc i pins s σ H E I hf st hg
    subst hP hw hK
    obtain ⟨xs, x, hq, hx⟩ := hg
    obtain ⟨its, rv, p, hz⟩ := I.tuple hq
    obtain ⟨u, hu, ru⟩ := rv.get hx
    obtain ⟨f0, f1, f2, f3, f4, f5⟩ := hf it (by simp)
    refine wpAny_pyNext_tuple_item st (show s.heap.IsTuple a its.toArray from p) (x := u) (by simpa using hu) fun h' st' sb => ?_
    have I1 : Inv X pins σ H { s with heap := h' } := I.turned (t' := s.toks) (fun b o hb e => (sb.2 b hb).trans e) f0 f1 f3 f4 f5
    obtain ⟨o, e, c, d⟩ := id st'
    exact ⟨u, rfl, go_of (s := { s with heap := h' }) e c d (by decide) ⟨x, H, I1, ru, ⟨rfl, fun ys hy => by rw [I.tuple_inj hy hq]; exact hx⟩, st', fun b hb => (hf b hb).1⟩⟩
  done := by
    intro X hP hw hK hc i pins s σ H E I hf st hg
    subst hP hw hK
    obtain ⟨xs, hq, hx⟩ := hg
    obtain ⟨its, rv, p, hz⟩ := I.tuple hq
    obtain ⟨f0, f1, f2, f3, f4, f5⟩ := hf it (by simp)
    have hl := rv.length
    exact wpAny_pyNext_tuple_end (I.ok.hd hc) st (show s.heap.IsTuple a its.toArray from p) (by simp; omega) fun h' eb => ⟨rfl, I.turned (t' := s.toks) (fun b o hb e => eb b o hb e) f0 f1 f3 f4 f5⟩
  self := fun _ _ _ _ _ st h => wpAny_pyIter_tupleiter st h
theorem turn_range {P : Program} {w : World} {K : PySem.W.Frag} {tg : Expr} (it : Addr) (lo : Int) (n : Nat) : Turn P w K tg (Itr lo n) [it] it (fun i h => IsRangeIter h it (lo + (i : Nat) * 1) ((n : Int) - (i : Nat)) 1) where
  mem := by simp
  obj := fun i h st b hb => by
    have e : b = it := by simpa using hb
    subst e
    exact ⟨_, st, fun v z => by
      have z' : Data.fields _ = Data.cell v := z
      cases z'⟩
  keep := fun i h h' st k => k it (by simp) _ st
  item := by
    intro X hP hw hK hc i pins s σ H E I hf st hg
    subst hP hw hK
    obtain ⟨f0, f1, f2, f3, f4, f5⟩ := hf it (by simp)
    have W := Walks.range (prog := X.prog) (w := X.w) (I.ok.hd hc) it lo 1 n
    refine W.item i s _ _ hg st fun v h' tk hv st' kk => ?_
    obtain ⟨t, rfl⟩ := hv
    have I1 : Inv X pins σ H { s with heap := h', toks := tk } := I.turned (fun b o hb e => kk b o (by simpa using hb) e) f0 f1 f3 f4 f5
    refine ⟨_, rfl, go_of (s := { s with heap := h', toks := tk }) (n := "range_iterator") st' rfl rfl (by decide) ⟨.int (lo + i), H, I1, ⟨t, ?_⟩, ⟨rfl, rfl⟩, st', fun b hb => (hf b hb).1⟩⟩
    rw [Int.mul_one]
  done := by
    intro X hP hw hK hc i pins s σ H E I hf st hg
    subst hP hw hK
    obtain ⟨f0, f1, f2, f3, f4, f5⟩ := hf it (by simp)
    exact wpAny_pyNext_range_end (I.ok.hd hc) st (by have : n ≤ i := hg; omega) fun h' eb => ⟨rfl, I.turned (t' := s.toks) (fun b o hb e => eb b o hb e) f0 f1 f3 f4 f5⟩
  self := fun _ _ _ _ _ st h => wpAny_pyIter_rangeiter st h
end L2

namespace L2
open PySem PySem.Spec PyProof.Rows
section
variable {X : Cx} {tg : Expr}
noncomputable def iList (K : PySem.W.Frag) (tl : TE) : TI := fun σ H R => tl σ H fun x H1 => ∃ a, x = .ref a ∧ (∃ xs, SqL K H1 a xs) ∧ R (Itl K a) H1
noncomputable def iTup (K : PySem.W.Frag) (tl : TE) : TI := fun σ H R => tl σ H fun x H1 => ∃ a, x = .ref a ∧ (∃ xs, SqT K H1 a xs) ∧ R (Itt K a) H1
theorem pi_list {l : Expr} {tl : TE} (hl : PE X l tl) : PI X tg l (iList X.K tl) := by
  intro pins s σ H R I h
  refine thnE (hl pins s σ H _ I h) fun v s1 x H1 I1 r1 q1 => ?_
  obtain ⟨a, e, ⟨xs, hq⟩, q⟩ := q1
  subst e
  cases r1
  obtain ⟨its, rv, p, hz⟩ := I1.list hq
  refine wpAny_pyIter_list p.isList ?_
  refine ⟨s1.heap.objs.size, [s1.heap.objs.size], _, _, H1, rfl, I1.kept (t' := s1.toks) fun b o e => Heap.get?_push_of_some _ e, turn_list a _, ⟨_, Heap.get?_push_size _ rfl, rfl, rfl⟩, fun b hb => ?_, q⟩
  have e : b = s1.heap.objs.size := by simpa using hb
  subst e
  exact I1.fpOk (Nat.le_refl _) (I1.hok.fresh (Nat.le_refl _))
theorem pi_tup {l : Expr} {tl : TE} (hl : PE X l tl) : PI X tg l (iTup X.K tl) := by
  intro pins s σ H R I h
  refine thnE (hl pins s σ H _ I h) fun v s1 x H1 I1 r1 q1 => ?_
  obtain ⟨a, e, ⟨xs, hq⟩, q⟩ := q1
  subst e
  cases r1
  obtain ⟨its, rv, p, hz⟩ := I1.tuple hq
  refine wpAny_pyIter_tuple (show s1.heap.IsTuple a its.toArray from p) ?_
  refine ⟨s1.heap.objs.size, [s1.heap.objs.size], _, _, H1, rfl, I1.kept (t' := s1.toks) fun b o e => Heap.get?_push_of_some _ e, turn_tuple a _, ⟨_, Heap.get?_push_size _ rfl, rfl, rfl⟩, fun b hb => ?_, q⟩
  have e : b = s1.heap.objs.size := by simpa using hb
  subst e
  exact I1.fpOk (Nat.le_refl _) (I1.hok.fresh (Nat.le_refl _))

theorem range_it {pins : List (Addr × Obj)} {σ : St} {H : Hp} {s : Shared} {R : It → Hp → Prop} {E : Value → Shared → Prop} {lo hi : Int} {t u v : Tok} {tk : Nat} (I : Inv X pins σ H s) (h1 : -(2 ^ 62) ≤ lo) (h2 : lo < 2 ^ 62) (h3 : -(2 ^ 62) ≤ hi) (h4 : hi < 2 ^ 62)
    (q : R (Itr lo (hi - lo).toNat) H) : wpAny (model X.prog X.w) X.A (pyIter (.ref s.heap.objs.size)) (PIE X pins σ tg R) E { s with heap := s.heap.push { cls := .type "range", data := .fields #[.int lo t, .int hi u, .int 1 v] }, toks := tk } := by
  refine wpAny_pyIter_range (IsRange.new ..) (small_one h1 h2 h3 h4) ?_
  have I1 : Inv X pins σ H { s with heap := s.heap.push { cls := .type "range", data := .fields #[.int lo t, .int hi u, .int 1 v] }, toks := tk } := I.kept fun b o e => Heap.get?_push_of_some _ e
  refine ⟨(s.heap.push { cls := .type "range", data := .fields #[.int lo t, .int hi u, .int 1 v] }).objs.size, [(s.heap.push { cls := .type "range", data := .fields #[.int lo t, .int hi u, .int 1 v] }).objs.size], _, _, H, rfl,
    I1.kept (t' := tk) fun b o e => Heap.get?_push_of_some _ e, turn_range _ lo (hi - lo).toNat, ?_, fun b hb => ?_, q⟩
  · have e1 : lo + ((0 : Nat) : Int) * 1 = lo := by simp
    have e2 : (((hi - lo).toNat : Nat) : Int) - ((0 : Nat) : Int) = Builtin.Range.rangeSize lo hi 1 := by rw [rangeSize_one]; split <;> omega
    show IsRangeIter _ _ (lo + ((0 : Nat) : Int) * 1) ((((hi - lo).toNat : Nat) : Int) - ((0 : Nat) : Int)) 1
    rw [e1, e2]
    exact Heap.get?_push_size _ rfl
  · have e : b = (s.heap.push { cls := .type "range", data := .fields #[.int lo t, .int hi u, .int 1 v] }).objs.size := by simpa using hb
    subst e
    exact I1.fpOk (Nat.le_refl _) (I1.hok.fresh (Nat.le_refl _))
noncomputable def iRng1 (ta : TA) : TI := fun σ H R => ta σ H fun vs H1 => ∃ j : Int, vs = [.int j] ∧ -(2 ^ 62) ≤ j ∧ j < 2 ^ 62 ∧ R (Itr 0 j.toNat) H1
theorem pi_range1 {a : Expr} {ta : TA} {p pos : Pos} (hg : Gl X "range") (hm : X.mg "range" = none) (ha : PA X [a] ta) (hs : starEach [a] X.env = [(false, eval a X.env)] := by rfl) : PI X tg (.Call (.Name "range" p) [a] [] pos) (iRng1 ta) := by
  intro pins s σ H R I h
  refine Call_ (ld_blt I hg hm boot_range (PyProof.Rows.callWith_type1 (thnA (ha pos pins s σ H _ I h) fun us s1 vs H1 I1 r1 q1 => ?_) hs rfl))
  obtain ⟨j, e, q1, q2, q⟩ := q1
  subst e
  cases r1 with
  | cons r rr =>
    cases rr
    obtain ⟨t, rfl⟩ := r
    exact call_range_1 (range_it I1 (by omega) (by omega) q1 q2 (by simpa using q))



noncomputable def tFor (wi : TI) (g : TG) (tb : TS) : TS := fun D σ H => wi σ H fun J H1 => ∃ W : Nat → Nat → St → Hp → Prop, (∃ m, W 0 m σ H1) ∧ ∀ i m σ H, W i m σ H →
  (J.stop i H ∧ D.nx σ H) ∨ (J.go i H ∧ ∃ N : St → Hp → Prop, (∀ σ' H', N σ' H' → ∃ m', m' < m ∧ W (i + 1) m' σ' H') ∧ ∀ x H', J.yld i H x H' → g x σ H' fun σ2 H2 => tb { D with nx := N, ct := N, bk := D.nx } σ2 H2)

noncomputable def pinsAt (fp : List Addr) (h : Heap) : List (Addr × Obj) := fp.filterMap fun b => (h.get? b).map fun o => (b, o)
theorem mem_pinsAt {fp : List Addr} {h : Heap} {b : Addr} {o : Obj} (hb : b ∈ fp) (e : h.get? b = some o) : (b, o) ∈ pinsAt fp h := List.mem_filterMap.mpr ⟨b, hb, by rw [e]; rfl⟩
theorem of_pinsAt {fp : List Addr} {h : Heap} {p : Addr × Obj} (hp : p ∈ pinsAt fp h) : p.1 ∈ fp ∧ h.get? p.1 = some p.2 := by
  obtain ⟨b, hb, e⟩ := List.mem_filterMap.mp hp
  cases q : h.get? b with
  | none => rw [q] at e; cases e
  | some o =>
    rw [q] at e
    have e' : (b, o) = p := Option.some.inj e
    subst e'
    exact ⟨hb, q⟩
theorem Inv.pinned {pins : List (Addr × Obj)} {σ : St} {H : Hp} {s : Shared} {fp : List Addr} (I : Inv X pins σ H s) (hf : ∀ b ∈ fp, FpOk X pins H b) (ho : ∀ b ∈ fp, ∃ o, s.heap.get? b = some o ∧ ∀ v, o.data ≠ .cell v) : Inv X (pins ++ pinsAt fp s.heap) σ H s :=
  I.pins_of fun p hp => (List.mem_append.mp hp).elim (fun z => I.pin p (List.mem_append_right _ z)) fun z => by
    obtain ⟨hb, e⟩ := of_pinsAt z
    obtain ⟨f0, f1, f2, _⟩ := hf p.1 hb
    obtain ⟨o, e', d⟩ := ho p.1 hb
    rw [e] at e'; cases e'
    exact ⟨e, f0, f1, f2, d⟩
theorem Inv.unpinned {pins pl : List (Addr × Obj)} {σ : St} {H : Hp} {s : Shared} (I : Inv X (pins ++ pl) σ H s) : Inv X pins σ H s := I.pins_of fun p hp => I.pin p (List.mem_append_right _ (List.mem_append_left _ hp))
theorem ps_for {iter : Expr} {body : List Stmt} {wi : TI} {g : TG} {tb : TS} {pos : Pos} (hp : PassesOwn (model X.prog X.w) X.A X.env X.xe) (hc : X.calm = true) (hi : PI X tg iter wi) (hg : PG X tg g) (hb : PSs X body tb)
    (hs : ∀ x, foldedSetIterable iter X.env x = pure x := by intro _; rfl) : PS X (.For tg iter body [] pos) (tFor wi g tb) := by
  intro pins s σ H D I h
  refine wpAny_For (thn (hi pins s σ H _ I h) fun v s1 h1 => thn h1 fun itv s2 h2 => ?_) hs
  obtain ⟨it, fp, tn, J, H2, e, I2, T, st2, f2, W, ⟨m0, w0⟩, turn⟩ := h2
  subst e
  -- what stays true of the iterator's objects through the loop
  have stat : ∀ {H' : Hp}, (∀ b ∈ fp, H' b = none) → ∀ b ∈ fp, FpOk X pins H' b := fun hn b hb => ⟨hn b hb, (f2 b hb).2⟩
  refine codeAny_forLoop_any (fun n s' => ∃ i σ' H', Inv X pins σ' H' s' ∧ tn i s'.heap ∧ (∀ b ∈ fp, H' b = none) ∧ W i n σ' H') ?_ m0 ⟨0, σ, H2, I2, st2, fun b hb => (f2 b hb).1, w0⟩
  rintro n s3 ⟨i, σ3, H3, I3, st3, fr3, w3⟩
  rcases turn i n σ3 H3 w3 with ⟨stop, qn⟩ | ⟨go, N, hN, step⟩
  · refine wpAny_passesOwn hp (thn (T.done X rfl rfl rfl hc i pins s3 σ3 H3 X.xe I3 (stat fr3) st3 stop) fun r s4 ⟨hr, I4⟩ => ?_)
    subst hr
    exact wpAny_execs_nil ⟨σ3, H3, I4, qn⟩
  · refine wpAny_passesOwn hp (thn (T.item X rfl rfl rfl hc i pins s3 σ3 H3 X.xe I3 (stat fr3) st3 go) fun r s4 ⟨u, hr, h4⟩ => ?_)
    subst hr
    refine wpAny_passesOwn hp (thn h4 fun _ s5 ⟨x, H5, I5, r5, y5, st5, fr5⟩ => ?_)
    have I5' := I5.pinned (stat fr5) (T.obj _ _ st5)
    refine wpAny_passesOwn hp (thn (hg _ s5 σ3 H5 x u _ I5' r5 (step x H5 y5)) fun _ s6 ⟨σ6, H6, I6, q6⟩ => ?_)
    refine wpAny_passesOwn hp (thn (hb _ s6 σ6 H6 _ I6 q6) fun f s7 q7 => ?_)
    have again : ∀ {σ7 : St} {H7 : Hp}, Inv X (pins ++ pinsAt fp s5.heap) σ7 H7 s7 → N σ7 H7 → ∃ m, m < n ∧ ∃ i σ' H', Inv X pins σ' H' s7 ∧ tn i s7.heap ∧ (∀ b ∈ fp, H' b = none) ∧ W i m σ' H' := fun {σ7 H7} I7 n7 => by
      obtain ⟨m', hm, w7⟩ := hN σ7 H7 n7
      refine ⟨m', hm, i + 1, σ7, H7, I7.unpinned, T.keep _ _ _ st5 fun b hb o e => (I7.pin (b, o) (List.mem_append_right _ (List.mem_append_right _ (mem_pinsAt hb e)))).1, fun b hb => ?_, w7⟩
      obtain ⟨o, e, d⟩ := T.obj _ _ st5 b hb
      exact (I7.pin (b, o) (List.mem_append_right _ (List.mem_append_right _ (mem_pinsAt hb e)))).2.1
    cases f with
    | next => obtain ⟨σ7, H7, I7, n7⟩ := q7; exact again I7 n7
    | cont => obtain ⟨σ7, H7, I7, n7⟩ := q7; exact again I7 n7
    | brk => obtain ⟨σ7, H7, I7, q7⟩ := q7; exact ⟨σ7, H7, I7.unpinned, q7⟩
    | ret v => obtain ⟨x7, σ7, H7, I7, r7, q7⟩ := q7; exact ⟨x7, σ7, H7, I7.unpinned, r7, q7⟩
end



theorem for_list {K : PySem.W.Frag} {a : Addr} {xs : List V} {g : TG} {tb : TS} {D : Ends} {σ : St} {H : Hp} (Pv : Nat → St → Hp → Prop) (h0 : Pv 0 σ H) (hl : ∀ i σ H, i ≤ xs.length → Pv i σ H → SqL K H a xs)
    (hs : ∀ i x σ H, xs[i]? = some x → Pv i σ H → g x σ H fun σ2 H2 => tb { D with nx := Pv (i + 1), ct := Pv (i + 1), bk := D.nx } σ2 H2) (hd : ∀ σ H, Pv xs.length σ H → D.nx σ H) :
    ∃ W : Nat → Nat → St → Hp → Prop, (∃ m, W 0 m σ H) ∧ ∀ i m σ H, W i m σ H →
      ((Itl K a).stop i H ∧ D.nx σ H) ∨ ((Itl K a).go i H ∧ ∃ N : St → Hp → Prop, (∀ σ' H', N σ' H' → ∃ m', m' < m ∧ W (i + 1) m' σ' H') ∧ ∀ x H', (Itl K a).yld i H x H' → g x σ H' fun σ2 H2 => tb { D with nx := N, ct := N, bk := D.nx } σ2 H2) := by
  refine ⟨fun i m σ H => m = xs.length - i ∧ i ≤ xs.length ∧ Pv i σ H, ⟨xs.length, by simp, Nat.zero_le _, h0⟩, ?_⟩
  rintro i m σ H ⟨rfl, hi, p⟩
  have q := hl i σ H hi p
  by_cases hlt : i < xs.length
  · refine .inr ⟨⟨xs, xs[i], q, by simp [hlt]⟩, Pv (i + 1), fun σ' H' p' => ⟨xs.length - (i + 1), by omega, rfl, hlt, p'⟩, fun x H' y => ?_⟩
    obtain ⟨e, y⟩ := y
    subst e
    exact hs i x σ _ (y xs q) p
  · have e : i = xs.length := by omega
    subst e
    exact .inl ⟨⟨xs, q, Nat.le_refl _⟩, hd σ H p⟩
theorem for_tup {K : PySem.W.Frag} {a : Addr} {xs : List V} {g : TG} {tb : TS} {D : Ends} {σ : St} {H : Hp} (Pv : Nat → St → Hp → Prop) (h0 : Pv 0 σ H) (hl : ∀ i σ H, i ≤ xs.length → Pv i σ H → SqT K H a xs)
    (hs : ∀ i x σ H, xs[i]? = some x → Pv i σ H → g x σ H fun σ2 H2 => tb { D with nx := Pv (i + 1), ct := Pv (i + 1), bk := D.nx } σ2 H2) (hd : ∀ σ H, Pv xs.length σ H → D.nx σ H) :
    ∃ W : Nat → Nat → St → Hp → Prop, (∃ m, W 0 m σ H) ∧ ∀ i m σ H, W i m σ H →
      ((Itt K a).stop i H ∧ D.nx σ H) ∨ ((Itt K a).go i H ∧ ∃ N : St → Hp → Prop, (∀ σ' H', N σ' H' → ∃ m', m' < m ∧ W (i + 1) m' σ' H') ∧ ∀ x H', (Itt K a).yld i H x H' → g x σ H' fun σ2 H2 => tb { D with nx := N, ct := N, bk := D.nx } σ2 H2) := by
  refine ⟨fun i m σ H => m = xs.length - i ∧ i ≤ xs.length ∧ Pv i σ H, ⟨xs.length, by simp, Nat.zero_le _, h0⟩, ?_⟩
  rintro i m σ H ⟨rfl, hi, p⟩
  have q := hl i σ H hi p
  by_cases hlt : i < xs.length
  · refine .inr ⟨⟨xs, xs[i], q, by simp [hlt]⟩, Pv (i + 1), fun σ' H' p' => ⟨xs.length - (i + 1), by omega, rfl, hlt, p'⟩, fun x H' y => ?_⟩
    obtain ⟨e, y⟩ := y
    subst e
    exact hs i x σ _ (y xs q) p
  · have e : i = xs.length := by omega
    subst e
    exact .inl ⟨⟨xs, q, Nat.le_refl _⟩, hd σ H p⟩
theorem for_range {lo : Int} {n : Nat} {g : TG} {tb : TS} {D : Ends} {σ : St} {H : Hp} (Pv : Nat → St → Hp → Prop) (h0 : Pv 0 σ H)
    (hs : ∀ i σ H, i < n → Pv i σ H → g (.int (lo + i)) σ H fun σ2 H2 => tb { D with nx := Pv (i + 1), ct := Pv (i + 1), bk := D.nx } σ2 H2) (hd : ∀ σ H, Pv n σ H → D.nx σ H) :
    ∃ W : Nat → Nat → St → Hp → Prop, (∃ m, W 0 m σ H) ∧ ∀ i m σ H, W i m σ H →
      ((Itr lo n).stop i H ∧ D.nx σ H) ∨ ((Itr lo n).go i H ∧ ∃ N : St → Hp → Prop, (∀ σ' H', N σ' H' → ∃ m', m' < m ∧ W (i + 1) m' σ' H') ∧ ∀ x H', (Itr lo n).yld i H x H' → g x σ H' fun σ2 H2 => tb { D with nx := N, ct := N, bk := D.nx } σ2 H2) := by
  refine ⟨fun i m σ H => m = n - i ∧ i ≤ n ∧ Pv i σ H, ⟨n, by simp, Nat.zero_le _, h0⟩, ?_⟩
  rintro i m σ H ⟨rfl, hi, p⟩
  by_cases hlt : i < n
  · refine .inr ⟨hlt, Pv (i + 1), fun σ' H' p' => ⟨n - (i + 1), by omega, rfl, hlt, p'⟩, fun x H' y => ?_⟩
    obtain ⟨e, y⟩ := y
    subst e y
    exact hs i σ _ hlt p
  · have e : i = n := by omega
    subst e
    exact .inl ⟨Nat.le_refl _, hd σ H p⟩
end L2

namespace L2
open PySem PySem.Spec PyProof.Rows

noncomputable abbrev R2 := V → V → Hp → VK → Prop

noncomputable def OpR (X : Cx) (f : Value → Value → Sem Value) (r : R2) : Prop :=
  ∀ (pins : List (Addr × Obj)) (s : Shared) (σ : St) (H : Hp) (x y : V) (v u : Value) (Q : VK), Inv X pins σ H s → RelV x v → RelV y u → r x y H Q →
    wpAny (model X.prog X.w) X.A (f v u) (EP X pins σ Q) X.xe s

noncomputable def UnR (X : Cx) (f : Value → Sem Value) (r : V → Hp → VK → Prop) : Prop :=
  ∀ (pins : List (Addr × Obj)) (s : Shared) (σ : St) (H : Hp) (x : V) (v : Value) (Q : VK), Inv X pins σ H s → RelV x v → r x H Q →
    wpAny (model X.prog X.w) X.A (f v) (EP X pins σ Q) X.xe s

noncomputable def CallR (X : Cx) (f : Value) (r : List V → Hp → VK → Prop) : Prop :=
  ∀ (pins : List (Addr × Obj)) (s : Shared) (σ : St) (H : Hp) (xs : List V) (us : List Value) (Q : VK), Inv X pins σ H s → Vals xs us → r xs H Q →
    wpAny (model X.prog X.w) X.A (call f us) (EP X pins σ Q) X.xe s


noncomputable def tOp (r : R2) (ta tb : TE) : TE := fun σ H Q => ta σ H fun x H1 => tb σ H1 fun y H2 => r x y H2 Q
noncomputable def tUn (r : V → Hp → VK → Prop) (ta : TE) : TE := fun σ H Q => ta σ H fun x H1 => r x H1 Q

noncomputable def rI (C : Int → Int → Prop) (g : Int → Int → V) : R2 := fun x y H Q => ∃ i j, x = .int i ∧ y = .int j ∧ C i j ∧ Q (g i j) H
noncomputable def rI0 (g : Int → Int → V) : R2 := fun x y H Q => ∃ i j, x = .int i ∧ y = .int j ∧ Q (g i j) H
noncomputable def rU (g : Int → V) : V → Hp → VK → Prop := fun x H Q => ∃ i, x = .int i ∧ Q (g i) H

section
variable {X : Cx} {a b c : Expr} {ta tb tc : TE} {pos : Pos}

theorem binT (ha : PE X a ta) (hb : PE X b tb) {pins : List (Addr × Obj)} {s : Shared} {σ : St} {H : Hp} {R : V → V → Hp → Prop} (I : Inv X pins σ H s)
    (h : ta σ H fun x H1 => tb σ H1 fun y H2 => R x y H2) {Q : Value → Shared → Prop} {f : Value → Value → Sem Value}
    (hf : ∀ v u s2 x y H2, Inv X pins σ H2 s2 → RelV x v → RelV y u → R x y H2 → wpAny (model X.prog X.w) X.A (f v u) Q X.xe s2) :
    wpAny (model X.prog X.w) X.A (eval a X.env) (fun v s₁ => wpAny (model X.prog X.w) X.A (eval b X.env) (fun u s₂ => wpAny (model X.prog X.w) X.A (f v u) Q X.xe s₂) X.xe s₁) X.xe s := by
  refine thnE (ha pins s σ H _ I h) fun v s1 x H1 I1 r1 q1 => ?_
  refine thnE (hb pins s1 σ H1 _ I1 q1) fun u s2 y H2 I2 r2 q2 => ?_
  exact hf v u s2 x y H2 I2 r1 r2 q2

theorem pe_op {op : Operator} {r : R2} (ho : OpR X (binaryOp op) r) (ha : PE X a ta) (hb : PE X b tb) : PE X (.BinOp a op b pos) (tOp r ta tb) := by
  intro pins s σ H Q I h
  exact wpAny_BinOp (binT ha hb I h fun v u s2 x y H2 I2 rx ry q => ho pins s2 σ H2 x y v u Q I2 rx ry q)
theorem pe_un {op : UnaryOp} {r : V → Hp → VK → Prop} (ho : UnR X (unaryOp op) r) (ha : PE X a ta) : PE X (.UnaryOp op a pos) (tUn r ta) := by
  intro pins s σ H Q I h
  exact UnaryOp_ (thnE (ha pins s σ H _ I h) fun v s1 x H1 I1 r1 q1 => ho pins s1 σ H1 x v Q I1 r1 q1)


theorem opI {f : Value → Value → Sem Value} {C : Int → Int → Prop} {g : Int → Int → Int}
    (rule : ∀ (i j : Int) (t u : Tok) (s : Shared) (Q : Value → Shared → Prop) (E : Value → Shared → Prop), C i j → Q (.int (g i j) s.toks) { s with toks := s.toks + 1 } → wpAny (model X.prog X.w) X.A (f (.int i t) (.int j u)) Q E s) :
    OpR X f (rI C fun i j => .int (g i j)) := by
  intro pins s σ H x y v u Q I rx ry h
  obtain ⟨i, j, rfl, rfl, hc, q⟩ := h
  obtain ⟨t, rfl⟩ := rx
  obtain ⟨t', rfl⟩ := ry
  exact rule i j t t' s _ _ hc ⟨.int (g i j), H, I.tok _, ⟨_, rfl⟩, q⟩
theorem opI0 {f : Value → Value → Sem Value} {g : Int → Int → Int}
    (rule : ∀ (i j : Int) (t u : Tok) (s : Shared) (Q : Value → Shared → Prop) (E : Value → Shared → Prop), Q (.int (g i j) s.toks) { s with toks := s.toks + 1 } → wpAny (model X.prog X.w) X.A (f (.int i t) (.int j u)) Q E s) :
    OpR X f (rI0 fun i j => .int (g i j)) := by
  intro pins s σ H x y v u Q I rx ry h
  obtain ⟨i, j, rfl, rfl, q⟩ := h
  obtain ⟨t, rfl⟩ := rx
  obtain ⟨t', rfl⟩ := ry
  exact rule i j t t' s _ _ ⟨.int (g i j), H, I.tok _, ⟨_, rfl⟩, q⟩
theorem opB0 {f : Value → Value → Sem Value} {g : Int → Int → Bool}
    (rule : ∀ (i j : Int) (t u : Tok) (s : Shared) (Q : Value → Shared → Prop) (E : Value → Shared → Prop), Q (.bool (g i j)) s → wpAny (model X.prog X.w) X.A (f (.int i t) (.int j u)) Q E s) :
    OpR X f (rI0 fun i j => .bl (g i j)) := by
  intro pins s σ H x y v u Q I rx ry h
  obtain ⟨i, j, rfl, rfl, q⟩ := h
  obtain ⟨t, rfl⟩ := rx
  obtain ⟨t', rfl⟩ := ry
  exact rule i j t t' s _ _ ⟨.bl (g i j), H, I, rfl, q⟩

noncomputable def CDiv (i j : Int) : Prop := 0 < j ∧ j < 1073741824
noncomputable def CPow (i j : Int) : Prop := 0 ≤ j ∧ j ≤ 1000000 ∧ i.natAbs < 2 ^ 64
noncomputable def CMul (i j : Int) : Prop := (-(2 ^ 64) < i ∧ i < 2 ^ 64) ∨ (-(2 ^ 64) < j ∧ j < 2 ^ 64)
theorem CMul.ok {i j : Int} (h : CMul i j) : IntMulOk i j := by
  rcases h with ⟨h1, h2⟩ | ⟨h1, h2⟩
  · exact .of_left (intBits_le_64 h1 h2)
  · exact .of_right (intBits_le_64 h1 h2)

theorem op_add : OpR X (binaryOp .Add) (rI0 fun i j => .int (i + j)) := opI0 fun _ _ _ _ _ _ _ q => add_int q
theorem op_sub : OpR X (binaryOp .Sub) (rI0 fun i j => .int (i - j)) := opI0 fun _ _ _ _ _ _ _ q => sub_int q
theorem op_mul : OpR X (binaryOp .Mult) (rI CMul fun i j => .int (i * j)) := opI fun _ _ _ _ _ _ _ hc q => mul_int q hc.ok

theorem op_fdiv : OpR X (binaryOp .FloorDiv) (rI CDiv fun i j => .int (i / j)) := opI fun i j _ _ _ _ _ hc q => by
  have h1 : (0 : Int) < j := hc.1
  have h2 : j < 1073741824 := hc.2
  exact floordiv_int (by omega) (by rw [Int.fdiv_eq_ediv_of_nonneg i (by omega)]; exact q) (.inl (PyProof.noPylong_small (by omega)))

theorem op_mod : OpR X (binaryOp .Mod) (rI (fun _ j => 0 < j) fun i j => .int (i % j)) := opI fun i j _ _ _ _ _ hc q => by
  have h1 : (0 : Int) < j := hc
  exact mod_int' (by omega) (by rw [Int.fmod_eq_emod_of_nonneg i (by omega)]; exact q)
theorem op_pow : OpR X (binaryOp .Pow) (rI CPow fun i j => .int (i ^ j.toNat)) := opI fun _ _ _ _ _ _ _ hc q => pow_int_small hc.1 hc.2.1 hc.2.2 q


theorem unI {f : Value → Sem Value} {g : Int → Int}
    (rule : ∀ (i : Int) (t : Tok) (s : Shared) (Q : Value → Shared → Prop) (E : Value → Shared → Prop), Q (.int (g i) s.toks) { s with toks := s.toks + 1 } → wpAny (model X.prog X.w) X.A (f (.int i t)) Q E s) :
    UnR X f (rU fun i => .int (g i)) := by
  intro pins s σ H x v Q I rx h
  obtain ⟨i, rfl, q⟩ := h
  obtain ⟨t, rfl⟩ := rx
  exact rule i t s _ _ ⟨.int (g i), H, I.tok _, ⟨_, rfl⟩, q⟩
theorem un_neg : UnR X (unaryOp .USub) (rU fun i => .int (-i)) := unI fun _ _ _ _ _ q => neg_int q


end



noncomputable def scal : V → V → Bool
  | .non, .non => true | .non, .int _ => true | .int _, .non => true | .non, .bl _ => true | .bl _, .non => true | .non, .str _ => true | .str _, .non => true
  | .int _, .int _ => true | .bl _, .bl _ => true | .str _, .str _ => true | .byt _, .byt _ => true
  | .int _, .str _ => true | .str _, .int _ => true | .bl _, .str _ => true | .str _, .bl _ => true
  | _, _ => false
noncomputable def rEq : R2 := fun x y H Q => scal x y = true ∧ Q (.bl (decide (x = y))) H
noncomputable def rNe : R2 := fun x y H Q => scal x y = true ∧ Q (.bl (!decide (x = y))) H

theorem dec_int {i j : Int} : decide (V.int i = V.int j) = (i == j) := by
  rw [Bool.eq_iff_iff]
  simp
theorem dec_bl {i j : Bool} : decide (V.bl i = V.bl j) = (i == j) := by
  rw [Bool.eq_iff_iff]
  simp
theorem dec_str {i j : Str} : decide (V.str i = V.str j) = (i == j) := by
  rw [Bool.eq_iff_iff]
  simp
theorem dec_byt {i j : Array UInt8} : decide (V.byt i = V.byt j) = (i.toList == j.toList) := by
  rw [Bool.eq_iff_iff]
  cases i
  cases j
  simp

section
variable {X : Cx} {a b c : Expr} {ta tb tc : TE} {pos : Pos}
theorem fin_bl {pins : List (Addr × Obj)} {σ : St} {H : Hp} {s : Shared} {Q : VK} {k k' : Bool} (I : Inv X pins σ H s) (q : Q (.bl k) H) (e : k = k') : EP X pins σ Q (.bool k') s := by
  subst e
  exact ⟨.bl k, H, I, rfl, q⟩
theorem op_eq : OpR X (compareOp .Eq) rEq := by
  intro pins s σ H x y v u Q I rx ry h
  obtain ⟨hs, q⟩ := h
  cases x with
  | non =>
    cases rx
    cases y with
    | non => cases ry; exact PySem.EqNone.eq_none_none (fin_bl I q (by simp))
    | bl j => cases ry; exact PySem.EqNone.eq_none_bool (fin_bl I q (by simp))
    | int j => obtain ⟨t', rfl⟩ := ry; exact PySem.EqNone.eq_none_int (fin_bl I q (by simp))
    | str j => obtain ⟨t', rfl⟩ := ry; exact PySem.EqNone.eq_none_str (fin_bl I q (by simp))
    | _ => exact absurd (show false = true from hs) Bool.false_ne_true
  | bl i =>
    cases rx
    cases y with
    | non => cases ry; exact PySem.EqNone.eq_bool_none (fin_bl I q (by simp))
    | bl j => cases ry; exact eq_bool (fin_bl I q dec_bl)
    | str j => obtain ⟨t', rfl⟩ := ry; exact PySem.EqMixed.eq_bool_str (fin_bl I q (by simp))
    | _ => exact absurd (show false = true from hs) Bool.false_ne_true
  | int i =>
    obtain ⟨t, rfl⟩ := rx
    cases y with
    | non => cases ry; exact PySem.EqNone.eq_int_none (fin_bl I q (by simp))
    | int j => obtain ⟨t', rfl⟩ := ry; exact eq_int (fin_bl I q dec_int)
    | str j => obtain ⟨t', rfl⟩ := ry; exact PySem.EqMixed.eq_int_str (fin_bl I q (by simp))
    | _ => exact absurd (show false = true from hs) Bool.false_ne_true
  | str i =>
    obtain ⟨t, rfl⟩ := rx
    cases y with
    | non => cases ry; exact PySem.EqNone.eq_str_none (fin_bl I q (by simp))
    | bl j => cases ry; exact PySem.EqMixed.eq_str_bool (fin_bl I q (by simp))
    | int j => obtain ⟨t', rfl⟩ := ry; exact PySem.EqMixed.eq_str_int (fin_bl I q (by simp))
    | str j => obtain ⟨t', rfl⟩ := ry; exact eq_str (fin_bl I q dec_str)
    | _ => exact absurd (show false = true from hs) Bool.false_ne_true
  | byt i =>
    obtain ⟨t, rfl⟩ := rx
    cases y with
    | byt j => obtain ⟨t', rfl⟩ := ry; exact PySem.W.eq_bytes (fin_bl I q dec_byt)
    | _ => exact absurd (show false = true from hs) Bool.false_ne_true
  | _ => cases y <;> exact absurd (show false = true from hs) Bool.false_ne_true
theorem op_ne : OpR X (compareOp .NotEq) rNe := by
  intro pins s σ H x y v u Q I rx ry h
  obtain ⟨hs, q⟩ := h
  cases x with
  | non =>
    cases rx
    cases y with
    | non => cases ry; exact PySem.EqNone.ne_none_none (fin_bl I q (by simp))
    | bl j => cases ry; exact PySem.EqNone.ne_none_bool (fin_bl I q (by simp))
    | int j => obtain ⟨t', rfl⟩ := ry; exact PySem.EqNone.ne_none_int (fin_bl I q (by simp))
    | str j => obtain ⟨t', rfl⟩ := ry; exact PySem.EqNone.ne_none_str (fin_bl I q (by simp))
    | _ => exact absurd (show false = true from hs) Bool.false_ne_true
  | bl i =>
    cases rx
    cases y with
    | non => cases ry; exact PySem.EqNone.ne_bool_none (fin_bl I q (by simp))
    | bl j => cases ry; exact ne_bool (fin_bl I q (congrArg not dec_bl))
    | str j => obtain ⟨t', rfl⟩ := ry; exact PySem.EqMixed.ne_bool_str (fin_bl I q (by simp))
    | _ => exact absurd (show false = true from hs) Bool.false_ne_true
  | int i =>
    obtain ⟨t, rfl⟩ := rx
    cases y with
    | non => cases ry; exact PySem.EqNone.ne_int_none (fin_bl I q (by simp))
    | int j => obtain ⟨t', rfl⟩ := ry; exact ne_int (fin_bl I q (congrArg not dec_int))
    | str j => obtain ⟨t', rfl⟩ := ry; exact PySem.EqMixed.ne_int_str (fin_bl I q (by simp))
    | _ => exact absurd (show false = true from hs) Bool.false_ne_true
  | str i =>
    obtain ⟨t, rfl⟩ := rx
    cases y with
    | non => cases ry; exact PySem.EqNone.ne_str_none (fin_bl I q (by simp))
    | bl j => cases ry; exact PySem.EqMixed.ne_str_bool (fin_bl I q (by simp))
    | int j => obtain ⟨t', rfl⟩ := ry; exact PySem.EqMixed.ne_str_int (fin_bl I q (by simp))
    | str j => obtain ⟨t', rfl⟩ := ry; exact ne_str (fin_bl I q (congrArg not dec_str))
    | _ => exact absurd (show false = true from hs) Bool.false_ne_true
  | byt i =>
    obtain ⟨t, rfl⟩ := rx
    cases y with
    | byt j => obtain ⟨t', rfl⟩ := ry; exact PySem.W.ne_bytes (fin_bl I q (congrArg not dec_byt))
    | _ => exact absurd (show false = true from hs) Bool.false_ne_true
  | _ => cases y <;> exact absurd (show false = true from hs) Bool.false_ne_true

theorem op_lt : OpR X (compareOp .Lt) (rI0 fun i j => .bl (decide (i < j))) := opB0 fun _ _ _ _ _ _ _ q => lt_int q
theorem op_le : OpR X (compareOp .LtE) (rI0 fun i j => .bl (decide (i ≤ j))) := opB0 fun _ _ _ _ _ _ _ q => le_int q
theorem op_gt : OpR X (compareOp .Gt) (rI0 fun i j => .bl (decide (j < i))) := opB0 fun _ _ _ _ _ _ _ q => gt_int q
theorem op_ge : OpR X (compareOp .GtE) (rI0 fun i j => .bl (decide (j ≤ i))) := opB0 fun _ _ _ _ _ _ _ q => ge_int q


theorem op_isN : OpR X (compareOp .Is) (fun x y H Q => y = .non ∧ Q (.bl (decide (x = .non))) H) := by
  intro pins s σ H x y v u Q I rx ry h
  obtain ⟨rfl, q⟩ := h
  cases ry
  refine is_none_gen (fin_bl I q ?_)
  cases x <;> first
    | (cases rx; rfl)
    | (obtain ⟨t, rfl⟩ := rx; rfl)




theorem nomark (b : Expr) {op : CmpOp} (h : op ≠ .In := by decide) (h2 : op ≠ .NotIn := by decide) : behindInMarks op b = false := by
  have e1 : (op == CmpOp.In) = false := by cases op <;> first | rfl | exact absurd rfl h
  have e2 : (op == CmpOp.NotIn) = false := by cases op <;> first | rfl | exact absurd rfl h2
  cases b <;> simp [behindInMarks, e1, e2]

theorem pe_cmpR {op : CmpOp} {r : R2} (ho : OpR X (compareOp op) r) (ha : PE X a ta) (hb : PE X b tb) (hm : behindInMarks op b = false) : PE X (.Compare a [op] [b] pos) (tOp r ta tb) := by
  intro pins s σ H Q I h
  exact wpAny_Compare1 (binT ha hb I h fun v u s2 x y H2 I2 rx ry q => ho pins s2 σ H2 x y v u Q I2 rx ry q) hm

noncomputable def tTest (t : TE) : TT := fun σ H Q => t σ H fun x H' => ∃ k, x = .bl k ∧ Q k H'
theorem pt_cmpR {op : CmpOp} {r : R2} (ho : OpR X (compareOp op) r) (ha : PE X a ta) (hb : PE X b tb) (hm : behindInMarks op b = false) : PT X (.Compare a [op] [b] pos) (tTest (tOp r ta tb)) := by
  intro pins s σ H Q I h
  refine wpAny_isTrue_Compare1 (thnE (ha pins s σ H _ I h) fun v s1 x H1 I1 r1 q1 => thn (hb pins s1 σ H1 _ I1 q1) fun u s2 ⟨y, H2, I2, r2, q2⟩ =>
    thnE (ho pins s2 σ H2 x y v u _ I2 r1 r2 q2) fun c s3 z H3 I3 r3 zz0 => ?_) hm
  obtain ⟨k, e, q3⟩ := zz0
  subst e
  cases r3
  exact wpAny_truthy_bool ⟨H3, I3, q3⟩

noncomputable def tChain (r r' : R2) (ta tb tc : TE) : TE := fun σ H Q => ta σ H fun x H1 => tb σ H1 fun y H2 => r x y H2 fun z H3 => ∃ k, z = .bl k ∧
  (if k = true then tc σ H3 fun w' H4 => r' y w' H4 Q else Q (.bl false) H3)
theorem pe_chain {op op' : CmpOp} {r r' : R2} (ho : OpR X (compareOp op) r) (ho' : OpR X (compareOp op') r') (ha : PE X a ta) (hb : PE X b tb) (hc : PE X c tc)
    (hm : lastMarks [op, op'] [b, c] = false := by with_unfolding_all rfl) : PE X (.Compare a [op, op'] [b, c] pos) (tChain r r' ta tb tc) := by
  intro pins s σ H Q I h
  refine Compare_chain (thnE (ha pins s σ H _ I h) fun v s1 x H1 I1 r1 q1 => chain_link (thn (hb pins s1 σ H1 _ I1 q1) fun u s2 ⟨y, H2, I2, r2, q2⟩ =>
    thnE (ho pins s2 σ H2 x y v u _ I2 r1 r2 q2) fun d s3 z H3 I3 r3 zz1 => ?_)) hm
  obtain ⟨k, e, q3⟩ := zz1
  subst e
  cases r3
  refine wpAny_truthy_bool ?_
  cases k with
  | false => exact ite_ff ⟨.bl false, H3, I3, rfl, q3⟩
  | true => exact ite_tt (chain_last (thn (hc pins s3 σ H3 _ I3 q3) fun w' s4 ⟨z', H4, I4, r4, q4⟩ => ho' pins s4 σ H4 y z' u w' Q I4 r2 r4 q4))
theorem pt_chain {op op' : CmpOp} {r r' : R2} (ho : OpR X (compareOp op) r) (ho' : OpR X (compareOp op') r') (ha : PE X a ta) (hb : PE X b tb) (hc : PE X c tc)
    (hm : lastMarks [op, op'] [b, c] = false := by with_unfolding_all rfl) : PT X (.Compare a [op, op'] [b, c] pos) (tTest (tChain r r' ta tb tc)) := by
  intro pins s σ H Q I h
  refine isTrue_chain (thnE (ha pins s σ H _ I h) fun v s1 x H1 I1 r1 q1 => test_link (thn (hb pins s1 σ H1 _ I1 q1) fun u s2 ⟨y, H2, I2, r2, q2⟩ =>
    thnE (ho pins s2 σ H2 x y v u _ I2 r1 r2 q2) fun d s3 z H3 I3 r3 zz2 => ?_)) hm
  obtain ⟨k, e, q3⟩ := zz2
  subst e
  cases r3
  refine wpAny_truthy_bool ?_
  cases k with
  | false =>
    obtain ⟨k', e', q'⟩ := q3
    cases e'
    exact ite_ff ⟨H3, I3, q'⟩
  | true =>
    refine ite_tt (test_last (thn (hc pins s3 σ H3 _ I3 q3) fun w' s4 ⟨z', H4, I4, r4, q4⟩ => thn (ho' pins s4 σ H4 y z' u w' _ I4 r2 r4 q4) fun d' s5 ⟨z2, H5, I5, r5, k2, e2, q5⟩ => ?_))
    subst e2
    cases r5
    exact wpAny_truthy_bool ⟨H5, I5, q5⟩



theorem line63 : (sizeLine : Nat) < 2 ^ 63 := by rw [sizeLine_eq]; decide


theorem op_add_str : OpR X (binaryOp .Add) (fun x y H Q => ∃ i j, x = .str i ∧ y = .str j ∧ i.length + j.length ≤ sizeLine ∧ Q (.str (i ++ j)) H) := by
  intro pins s σ H x y v u Q I rx ry h
  obtain ⟨i, j, rfl, rfl, hz, q⟩ := h
  obtain ⟨t, rfl⟩ := rx
  obtain ⟨t', rfl⟩ := ry
  exact add_str (fun t' tk => ⟨.str (i ++ j), H, I.tok _, ⟨_, rfl⟩, q⟩) hz



theorem vals1 {x : V} {us : List Value} (r : Vals [x] us) : ∃ u, us = [u] ∧ RelV x u := by
  cases r with
  | cons r1 r2 => cases r2; exact ⟨_, rfl, r1⟩
theorem vals2 {x y : V} {us : List Value} (r : Vals [x, y] us) : ∃ u w', us = [u, w'] ∧ RelV x u ∧ RelV y w' := by
  cases r with
  | cons r1 r2 =>
    cases r2 with
    | cons r3 r4 => cases r4; exact ⟨_, _, rfl, r1, r3⟩
theorem call_str_int : CallR X (.type "str") (fun xs H Q => ∃ i, xs = [.int i] ∧ i.natAbs.log2 < 1920 ∧ Q (.str (toString i)) H) := by
  intro pins s σ H xs us Q I r h
  obtain ⟨i, rfl, hz, q⟩ := h
  obtain ⟨u, rfl, t, rfl⟩ := vals1 r
  exact PySem.P.str_of_int hz ⟨.str _, H, I.tok _, ⟨_, rfl⟩, q⟩

end
end L2

namespace L2
open PySem PySem.Spec PyProof.Rows


structure ObjM (h : Heap) (x dx C : Addr) (mA : Str → Option Value) : Prop where
  obj : h.get? x = some (PySem.W.instObj C dx)
  ns : h.Ns1 dx mA
  ne : dx ≠ x

theorem lookIn_ns {h : Heap} {dx : Addr} {mA : Str → Option Value} (n : h.Ns1 dx mA) : ∃ od, h.get? dx = some od ∧ ∀ name, PySem.W.lookIn name od = some (mA name) := by
  obtain ⟨o, es, ep, ho, hd, hk, _, hm⟩ := n
  refine ⟨o, ho, fun name => ?_⟩
  have e := hm name
  unfold nsFind findBy at e
  rw [← Array.find?_toList] at e
  unfold PySem.W.lookIn
  rw [hd]
  dsimp only
  split
  · rename_i y q
    rw [q] at e
    exact congrArg some e
  · rename_i q
    rw [q] at e
    have a : es.toList.any (·.refKey) = false := by
      rw [List.any_eq_false]
      intro y hy
      obtain ⟨z, t, hkey⟩ := hk y (Array.mem_toList_iff.mp hy)
      simp [DictEntry.refKey, hkey]
    have a' : ¬ es.toList.any (·.refKey) = true := by rw [a]; exact Bool.false_ne_true
    rw [if_neg a']
    exact congrArg some e

theorem ObjM.look {h : Heap} {x dx C : Addr} {mA : Str → Option Value} (I : ObjM h x dx C mA) : ∃ od, PySem.W.InstAt h x (PySem.W.instObj C dx) C (some od) ∧ ∀ name, PySem.W.lookIn name od = some (mA name) :=
  let ⟨od, ho, hl⟩ := lookIn_ns I.ns
  ⟨od, ⟨I.obj, rfl, rfl, ho⟩, hl⟩

section
variable {prog : Program} {w : World} {A : Around} {E : Value → Shared → Prop} {s : Shared} {K : PySem.W.Frag} {x dx C f : Addr} {mA : Str → Option Value} {name : Str} {v : Value}





end




section
variable {P : Program} {w : World} {H H' : Hp} {h h' : Heap} {a C dx : Addr} {fs fs' : List (Str × V)}
theorem ins_get (hok : HOk P w H h) (e : H a = some (.ins C dx fs)) : ∃ mA, ObjM h a dx C mA ∧ (∀ f, RelO (fs.lookup f) (mA f)) ∧ PySem.Within mA (fs.map (·.1)) ∧ fs.length ≤ 1000 ∧ H dx = some (.own a) := by
  obtain ⟨d, z, ne, ob, mA, n, r, q⟩ := (show ObjOk P w H h a (.ins C dx fs) from hok a _ e)
  exact ⟨mA, ⟨ob, n, ne⟩, r, q, z, d⟩
end


structure Cls (K : PySem.W.Frag) (C : Addr) : Prop where
  pg : PySem.W.plainGet K C Str.empty = true
  hd : PySem.W.hasDictIn K C = true
  po : PySem.W.plainOver K C = true
  sa : PySem.W.findIn K (.ref C) "__setattr__" = some (some (.builtin "object.__setattr__"))
theorem Cls.get {K : PySem.W.Frag} {C : Addr} (c : Cls K C) (f : Str) : PySem.W.plainGet K C f = true := c.pg


structure Con (K : PySem.W.Frag) (C : Addr) (f : Str) (v : V) (u : Value) : Prop where
  at_ : PySem.W.findIn K (.ref C) f = some (some u)
  rel : RelV v u
  get : PySem.W.specialIn K u "__get__" = some none
  cp : PySem.W.copiedNames.contains f = false

structure Meth (K : PySem.W.Frag) (C : Addr) (m : Str) (f : Addr) : Prop where
  at_ : PySem.W.findIn K (.ref C) m = some (some (.ref f))
  fn : PySem.W.isFn K (.ref f) = true
  kp : PySem.W.keepIn K (.ref f) = true

section
variable {X : Cx} {pins : List (Addr × Obj)} {σ : St} {H : Hp} {s : Shared} {a C dx : Addr} {fs : List (Str × V)} {f : Str} {v : V} {A : Around} {E : Value → Shared → Prop}






end








section
variable {X : Cx} {o e value : Expr} {f : Str} {pos pos' tpos : Pos} {ta tv : TE}

end


section
variable {X : Cx} {pins : List (Addr × Obj)} {σ : St} {H : Hp} {s : Shared} {A : Around} {E : Value → Shared → Prop} {Q : Value → Shared → Prop} {c : Value} {b : Bool}

inductive TyOf (K : PySem.W.Frag) (H : Hp) : V → Value → Prop where
  | non : TyOf K H .non (.type "NoneType")
  | bl (x : Bool) : TyOf K H (.bl x) (.type "bool")
  | int (i : Int) : TyOf K H (.int i) (.type "int")
  | str (x : Str) : TyOf K H (.str x) (.type "str")
  | flt (x : UInt64) : TyOf K H (.flt x) (.type "float")
  | lst {a : Addr} {xs : List V} (e : H a = some (.lst xs)) : TyOf K H (.ref a) (.type "list")
  | frz {a : Addr} {o : Obj} {xs : List V} (e : H a = some (.frz o (.lst xs))) : TyOf K H (.ref a) (.type "list")
  | tup {a : Addr} {xs : List V} (e : H a = some (.tup xs)) : TyOf K H (.ref a) (.type "tuple")
  | dK {a : Addr} {kvs : List (Key × V)} (e : H a = some (.dK kvs)) : TyOf K H (.ref a) (.type "dict")
  | dT {a : Addr} {kvs : List (List Key × V)} (e : H a = some (.dT kvs)) : TyOf K H (.ref a) (.type "dict")
  | ins {a C dx : Addr} {fs : List (Str × V)} (e : H a = some (.ins C dx fs)) (cl : Cls K C) (ha : PySem.W.findIn K (.ref C) "__class__" = some (some (.builtin "object.__class__")))
      (hn : PySem.W.specialIn K (.builtin "object.__class__") "__get__" = some (some (.builtin "getset_descriptor.__get__"))) (htk : PySem.W.takesIn K (.builtin "object.__class__") = some true)
      (hm : PySem.W.mroIn K C (.type "object") = some true) : TyOf K H (.ref a) (.ref C)

theorem isinst_ok {x : V} {u t : Value} (I : Inv X pins σ H s) (rx : RelV x u) (ty : TyOf X.K H x t) (e : PySem.W.kitOne X.K t c = some b) (h : ∀ tk, Q (.bool b) { s with toks := tk }) :
    wpAny (model X.prog X.w) A (call (.builtin "isinstance") [u, c]) Q E s := by
  cases ty with
  | non => cases (show u = Value.none from rx); exact PySem.W.kia_one PySem.W.kitx_none I.kIn True.intro e (fun z => nomatch z) h
  | bl y => cases (show u = Value.bool y from rx); exact PySem.W.kia_one PySem.W.kitx_bool I.kIn True.intro e (fun z => nomatch z) h
  | int i => obtain ⟨t, q⟩ := (show ∃ t, u = Value.int i t from rx); cases q; exact PySem.W.kia_one PySem.W.kitx_int I.kIn True.intro e (fun z => nomatch z) h
  | str y => obtain ⟨t, q⟩ := (show ∃ t, u = Value.str y t from rx); cases q; exact PySem.W.kia_one PySem.W.kitx_str I.kIn True.intro e (fun z => nomatch z) h
  | flt y => obtain ⟨t, q⟩ := (show ∃ t, u = Value.float y t from rx); cases q; exact PySem.W.kia_one PySem.W.kitx_float I.kIn True.intro e (fun z => nomatch z) h
  | @lst a xs ea =>
    cases (show u = Value.ref a from rx)
    obtain ⟨_, _, n, _, h1⟩ := (show ObjOk X.prog X.w H s.heap a (.lst xs) from I.hok a _ ea)
    exact PySem.W.kia_one PySem.W.kitx_list I.kIn ⟨_, h1, rfl⟩ e (fun z => nomatch z) h
  | @frz a ob xs ea =>
    cases (show u = Value.ref a from rx)
    obtain ⟨_, _, _, n, _, h1⟩ := (show ObjOk X.prog X.w H s.heap a (.frz ob (.lst xs)) from I.hok a _ ea)
    exact PySem.W.kia_one PySem.W.kitx_list I.kIn ⟨_, h1, rfl⟩ e (fun z => nomatch z) h
  | @tup a xs ea =>
    cases (show u = Value.ref a from rx)
    obtain ⟨_, _, _, p⟩ := (show ObjOk X.prog X.w H s.heap a (.tup xs) from I.hok a _ ea)
    obtain ⟨o, h1, ⟨h2, _⟩, _⟩ := p
    exact PySem.W.kia_one PySem.W.kitx_tuple I.kIn ⟨o, h1, h2⟩ e (fun z => nomatch z) h
  | @dK a kvs ea =>
    cases (show u = Value.ref a from rx)
    obtain ⟨_, _, vs, _, p⟩ := (show ObjOk X.prog X.w H s.heap a (.dK kvs) from I.hok a _ ea)
    obtain ⟨o, es, ep, h1, h2, _⟩ := p
    exact PySem.W.kia_one PySem.W.kitx_dict I.kIn ⟨o, h1, h2.1⟩ e (fun z => nomatch z) h
  | @dT a kvs ea =>
    cases (show u = Value.ref a from rx)
    obtain ⟨_, _, xs, _, o, es, ep, h1, h2, _⟩ := (show ObjOk X.prog X.w H s.heap a (.dT kvs) from I.hok a _ ea)
    exact PySem.W.kia_one PySem.W.kitx_dict I.kIn ⟨o, h1, h2.1⟩ e (fun z => nomatch z) h
  | @ins a C dx fs ea cl ha hn htk hm =>
    cases (show u = Value.ref a from rx)
    obtain ⟨mA, O, _⟩ := ins_get I.hok ea
    obtain ⟨od, J, _⟩ := O.look
    exact PySem.W.kia_one (PySem.W.kitx_own (cl.get _) cl.hd ha hn htk hm) I.kIn J e (fun z => nomatch z) h
end
end L2

namespace L2
open PySem PySem.Spec PyProof.Rows


structure Room (k : Nat) (A : Around) : Prop where
  hd : A.handled = none
  dp : A.depth + 3 * k + 5 < recursionLimit
  un : A.units + 16 * k + 200 < cLine
theorem Room.mono {j k : Nat} {A : Around} (r : Room k A) (h : j ≤ k) : Room j A := ⟨r.hd, by have := r.dp; omega, by have := r.un; omega⟩
theorem Room.deeper {k : Nat} {A : Around} (r : Room (k + 1) A) (env : Env) : Room k (A.deeper env) :=
  ⟨r.hd, by have := r.dp; show A.depth + 1 + 3 * k + 5 < _; omega, by have := r.un; show A.units + 3 + 16 * k + 200 < _; omega⟩
theorem Room.depth {k : Nat} {A : Around} (r : Room k A) : A.depth < recursionLimit := by have := r.dp; omega
theorem Room.units {k : Nat} {A : Around} (r : Room k A) : A.units + 64 < cLine := by have := r.un; omega


noncomputable def tNil : TA := fun _ H Q => Q [] H
noncomputable def tCons (ta : TE) (tr : TA) : TA := fun σ H Q => ta σ H fun x H1 => tr σ H1 fun xs H2 => Q (x :: xs) H2
section
variable {X : Cx} {e : Expr} {es : List Expr} {te : TE} {t : TA} {pos : Pos}
theorem pa_nil : PA X [] tNil := fun _ _ _ _ H Q I h => Calls.spliced_nil ⟨[], H, I, .nil, h⟩
theorem pa_cons (ha : PE X e te) (hr : PA X es t) (hs : starEach (e :: es) X.env = (false, eval e X.env) :: starEach es X.env := by rfl) : PA X (e :: es) (tCons te t) := by
  intro pos pins s σ H Q I h
  rw [hs]
  show wpAny _ _ (spliced ((false, eval e X.env) :: backTo pos (starEach es X.env))) _ _ s
  refine Calls.spliced_cons (thnE (ha pins s σ H _ I h) fun u s1 x H1 I1 r1 q1 => ?_)
  exact thnA (hr pos pins s1 σ H1 _ I1 q1) fun us s2 xs H2 I2 r2 q2 => ⟨x :: xs, H2, I2, .cons r1 r2, q2⟩


noncomputable def tTup (t : TA) : TE := fun σ H Q => t σ H fun xs H1 => xs.length ≤ sizeLine ∧ ∀ p, H1 p = none → Q (.ref p) (upd H1 p (.tup xs))
noncomputable def tLst (t : TA) : TE := fun σ H Q => t σ H fun xs H1 => xs.length ≤ sizeLine ∧ ∀ p, H1 p = none → Q (.ref p) (upd H1 p (.lst xs))
theorem pe_tup {x1} (h : PA X es t) : PE X (.Tuple es x1 pos) (tTup t) := by
  intro pins s σ H Q I hq
  refine wpAny_Tuple_spliced (thn (h pos pins s σ H _ I hq) fun us s1 ⟨xs, H1, I1, r, z, q⟩ => ⟨by rw [← r.length]; exact z, ?_⟩)
  have hf : H1 s1.heap.objs.size = none := I1.hok.fresh (Nat.le_refl _)
  refine ⟨.ref s1.heap.objs.size, upd H1 s1.heap.objs.size (.tup xs), I1.laid (t' := s1.toks) (fun b u e => Heap.get?_push_of_some _ e) (Nat.le_refl _) ?_, rfl, q _ hf⟩
  exact ⟨z, us, r, ⟨_, Heap.get?_push_size _ rfl, ⟨rfl, _, rfl⟩, rfl⟩⟩
theorem pe_lst (h : PA X es t) : PE X (.List es pos) (tLst t) := by
  intro pins s σ H Q I hq
  refine wpAny_List_spliced (thn (h pos pins s σ H _ I hq) fun us s1 ⟨xs, H1, I1, r, z, q⟩ => ⟨by rw [← r.length]; exact z, ?_⟩)
  have hf : H1 s1.heap.objs.size = none := I1.hok.fresh (Nat.le_refl _)
  refine ⟨.ref s1.heap.objs.size, upd H1 s1.heap.objs.size (.lst xs), I1.laid (t' := s1.toks) (fun b u e => Heap.get?_push_of_some _ e) (Nat.le_refl _) ?_, rfl, q _ hf⟩
  exact ⟨z, us, 0, r, Heap.get?_push_size _ rfl⟩
end



noncomputable abbrev Sp := List V → Hp → VK → XK → Prop

noncomputable abbrev CXT := List Env → Hp → Shared → XK → Value → Shared → Prop


structure Env0 (P : Program) (w : World) (K : PySem.W.Frag) (mg : Str → Option Value) (base : Heap) (A : Around) (outer : List Env) (s : Shared) (H : Hp) : Prop where
  frames : A.frames = some outer
  mod : Mod K mg base
  bs : ∀ b o, base.get? b = some o → s.heap.get? b = some o ∧ H b = none
  bsz : base.objs.size ≤ s.heap.objs.size
  funs : s.heap.FunFrames base outer
  frf : ∀ b ∈ frs outer, H b = none
  hok : HOk P w H s.heap
  bare : AllBare s.gens

noncomputable def CE (outer : List Env) (P : Program) (w : World) (H : Hp) (s : Shared) (Q : VK) (u : Value) (s' : Shared) : Prop :=
  ∃ v H', s'.os = s.os ∧ AllBare s'.gens ∧ Un (frs outer) [] H H' s.heap s'.heap ∧ HOk P w H' s'.heap ∧ RelV v u ∧ Q v H'
noncomputable def CR (CX : CXT) (outer : List Env) (P : Program) (w : World) (H : Hp) (s : Shared) (Q : VK) (E : XK) (r : Result) (s' : Shared) : Prop :=
  match r with
  | .ok (.ret u) => CE outer P w H s Q u s'
  | .ok _ => False
  | .error e => CX outer H s E e s'
structure FnOk (P : Program) (w : World) (K : PySem.W.Frag) (mg : Str → Option Value) (base : Heap) (CX : CXT) (k : Nat) (f : Addr) (fd : FuncData) (ps : List Str) (sp : Sp) : Prop where
  len : ∀ vs H Q E, sp vs H Q E → vs.length = ps.length
  run : ∀ (A : Around) (outer : List Env) (s : Shared) (H : Hp) (args : Args) (us : List Value) (vs : List V) (Q : VK) (E : XK), Room k A → Env0 P w K mg base A outer s H → BindsTo s fd args (ps.zip us) → Vals vs us → sp vs H Q E →
    codeAny (model P w) A (.call (.ref f) args) (CR CX outer P w H s Q E) s


section
variable {X : Cx} {pins : List (Addr × Obj)} {σ : St} {H : Hp} {s s' : Shared}

theorem Inv.env0 (I : Inv X pins σ H s) : Env0 X.prog X.w X.K X.mg X.base X.A X.stack s H :=
  ⟨I.ok.frames, I.ok.mod, I.bs, Nat.le_trans I.ok.bsz I.sz, I.stack, I.stkFree, I.hok, I.bare⟩

theorem Inv.after {Q : VK} {u : Value} (I : Inv X pins σ H s) (h : CE X.stack X.prog X.w H s Q u s') : EP X pins σ Q u s' := by
  obtain ⟨v, H', os, bare, un, hok, r, q⟩ := h
  obtain ⟨hh, g, d, t, os'⟩ := s'
  obtain rfl : os' = s.os := os
  exact ⟨v, H', I.call (h' := hh) (g' := g) (d' := d) (t' := t) (ch := []) un hok bare (fun b z => absurd z (by simp)), r, q⟩
end



noncomputable def tCall (sp : Sp) (dvs : List V) (E : XK) (t : TA) : TE := fun σ H Q => t σ H fun vs H1 => sp (vs ++ dvs) H1 Q E




noncomputable def Binds (K : PySem.W.Frag) (fd : FuncData) (ps : List Str) (ds : List Value) : Prop :=
  ∀ (s : Shared) (us : List Value), K.In s.heap → (us ++ ds).length = ps.length → BindsTo s fd ⟨us, []⟩ (ps.zip (us ++ ds))

theorem Binds.all {K : PySem.W.Frag} {fd : FuncData} {ps : List Str} (h : ∀ us : List Value, us.length = ps.length → bindArgs fd ⟨us, []⟩ = pure (ps.zip us)) : Binds K fd ps [] := fun s us _ hl => by
  rw [List.append_nil] at hl ⊢
  exact .of_eq (h us hl)


noncomputable def Passes (CX : CXT) (X : Cx) (E : XK) : Prop := ∀ (pins : List (Addr × Obj)) (σ : St) (H : Hp) (s : Shared) (e : Value) (s' : Shared), Inv X pins σ H s → CX X.stack H s E e s' → X.xe e s'

section
variable {X : Cx} {CX : CXT} {k : Nat} {f C : Addr} {fd : FuncData} {ps : List Str} {sp : Sp} {dvs : List V} {ds : List Value} {E : XK} {x m : Str} {p pos apos : Pos} {e o : Expr} {es : List Expr} {ta : TE} {t : TA}


theorem run_fn {pins : List (Addr × Obj)} {σ : St} {H : Hp} {s : Shared} {Q : VK} {us : List Value} {vs : List V} (F : FnOk X.prog X.w X.K X.mg X.base CX k f fd ps sp) (hr : Room k X.A) (hb : Binds X.K fd ps ds) (hd : Vals dvs ds) (hx : Passes CX X E)
    (I : Inv X pins σ H s) (r : Vals vs us) (h : sp (vs ++ dvs) H Q E) : wpAny (model X.prog X.w) X.A (call (.ref f) us) (EP X pins σ Q) X.xe s := by
  have r2 : Vals (vs ++ dvs) (us ++ ds) := r.append hd
  have hl : (us ++ ds).length = ps.length := by rw [← r2.length]; exact F.len _ _ _ _ h
  refine wpAny_call (codeAny_mono (F.run X.A X.stack s H ⟨us, []⟩ (us ++ ds) (vs ++ dvs) Q E hr I.env0 (hb s us I.kIn hl) r2 h) fun r s' hq => ?_)
  cases r with
  | error e => exact hx pins σ H s e s' I hq
  | ok fl =>
    cases fl with
    | ret u => exact I.after hq
    | next => exact False.elim hq
    | brk => exact False.elim hq
    | cont => exact False.elim hq

theorem pe_call (F : FnOk X.prog X.w X.K X.mg X.base CX k f fd ps sp) (hr : Room k X.A) (hg : Gl X x) (hm : X.mg x = some (.ref f)) (hk : PySem.W.keepIn X.K (.ref f) = true) (hb : Binds X.K fd ps ds) (hd : Vals dvs ds) (hx : Passes CX X E)
    (ha : PA X (e :: es) t) (hdb : (x == ("__debug__" : Str)) = false := by decide) (he : starEach (e :: es) X.env = (false, eval e X.env) :: starEach es X.env := by rfl) (hpl : (backTo pos (starEach es X.env)).any (·.1) = false := by rfl) :
    PE X (.Call (.Name x p) (e :: es) [] pos) (tCall sp dvs E t) := by
  intro pins s σ H Q I h
  refine wpAny_Call_Name_kw (ld_glob I hg hm ?_ hdb)
  refine PySem.W.callWith_K (h₀ := X.base) I.ok.mod.kin hk (thnA (ha pos pins s σ H _ I h) fun us s1 vs H1 I1 r q => ⟨I1.kIn, ?_⟩) he hpl
  exact run_fn F hr hb hd hx I1 r q
theorem pe_call0 (F : FnOk X.prog X.w X.K X.mg X.base CX k f fd ps sp) (hr : Room k X.A) (hg : Gl X x) (hm : X.mg x = some (.ref f)) (hk : PySem.W.keepIn X.K (.ref f) = true) (hb : Binds X.K fd ps ds) (hd : Vals dvs ds) (hx : Passes CX X E)
    (hdb : (x == ("__debug__" : Str)) = false := by decide) : PE X (.Call (.Name x p) [] [] pos) (tCall sp dvs E tNil) := by
  intro pins s σ H Q I h
  refine wpAny_Call_Name_kw (ld_glob I hg hm ?_ hdb)
  exact PySem.W.callWith_K0 I.kIn hk (run_fn (us := []) F hr hb hd hx I .nil h)



structure Mk (K : PySem.W.Frag) (C f : Addr) : Prop where
  makes : PySem.W.makesIn K C = true
  init : PySem.W.findIn K (.ref C) "__init__" = some (some (.ref f))
  fn : PySem.W.isFn K (.ref f) = true
  kp : PySem.W.keepIn K (.ref C) = true

end



section
variable {X : Cx} {CX : CXT} {k : Nat} {f C : Addr} {fd : FuncData} {ps ks : List Str} {sp : Sp} {E : XK} {x m : Str} {p pos apos kpos : Pos} {e o : Expr} {es : List Expr} {kws : List Keyword} {te ta : TE} {t tk : TA} {nm : Option Str}


structure KBinds (K : PySem.W.Frag) (fd : FuncData) (ps ks : List Str) (g : List Value → List Value → List Value) (gV : List V → List V → List V) : Prop where
  to : ∀ (s : Shared) (us ws : List Value), K.In s.heap → (g us ws).length = ps.length → BindsTo s fd ⟨us, ks.zip ws⟩ (ps.zip (g us ws))
  rel : ∀ {vs : List V} {us : List Value} {zs : List V} {ws : List Value}, Vals vs us → Vals zs ws → Vals (gV vs zs) (g us ws)
variable {g : List Value → List Value → List Value} {gV : List V → List V → List V}
end



structure FnScope (N P : List Str) (sc : Scope) : Prop where
  kind : sc.kind = .function
  co : sc.isCoroutine = false
  gen : sc.isGenerator = false
  nd : N.Nodup
  pre : N.take P.length = P
  par : ∀ x ∈ P, sc.names.lookup x = some .local ∨ sc.names.lookup x = some .cell
  nofree : ∀ y ∈ sc.names, y.2 ≠ .free

theorem bindL_out {kindOf : Str → Option NameKind} {x : Str} : ∀ {binds : List (Str × Value)} {m : Str → Option Value}, (∀ v, (x, v) ∉ binds) → bindL kindOf binds m x = m x
  | [], _, _ => rfl
  | (n, v) :: r, m, h => by
    unfold bindL
    rw [bindL_out fun w hw => h w (List.mem_cons_of_mem _ hw)]
    split
    · have : x ≠ n := by rintro rfl; exact h v List.mem_cons_self
      simp [this]
    · rfl
theorem bindC_out {kindOf : Str → Option NameKind} {x : Str} : ∀ {binds : List (Str × Value)} {m : Str → Option Value}, (∀ v, (x, v) ∉ binds) → bindC kindOf binds m x = m x
  | [], _, _ => rfl
  | (n, v) :: r, m, h => by
    unfold bindC
    rw [bindC_out fun w hw => h w (List.mem_cons_of_mem _ hw)]
    split
    · rfl
    · have : x ≠ n := by rintro rfl; exact h v List.mem_cons_self
      simp [this]
theorem bindL_get {kindOf : Str → Option NameKind} {x : Str} {v : Value} : ∀ {P : List Str} {vs : List Value} {i : Nat} {m : Str → Option Value}, P.Nodup → P[i]? = some x → vs[i]? = some v → kindOf x = some .local →
    bindL kindOf (P.zip vs) m x = some v
  | [], _, _, _, _, h, _, _ => by simp at h
  | _ :: _, [], _, _, _, _, h, _ => by simp at h
  | p :: P, w :: vs, 0, m, nd, h1, h2, hk => by
    simp at h1 h2; subst h1; subst h2
    show bindL kindOf ((p, w) :: P.zip vs) m p = _
    unfold bindL
    rw [bindL_out fun v hv => (List.nodup_cons.mp nd).1 (List.of_mem_zip hv).1, if_pos hk]
    simp
  | p :: P, w :: vs, i + 1, m, nd, h1, h2, hk => by
    show bindL kindOf ((p, w) :: P.zip vs) m x = _
    unfold bindL
    exact bindL_get (i := i) (List.nodup_cons.mp nd).2 (by simpa using h1) (by simpa using h2) hk
theorem bindC_get {kindOf : Str → Option NameKind} {x : Str} {v : Value} : ∀ {P : List Str} {vs : List Value} {i : Nat} {m : Str → Option Value}, P.Nodup → P[i]? = some x → vs[i]? = some v → kindOf x ≠ some .local →
    bindC kindOf (P.zip vs) m x = some v
  | [], _, _, _, _, h, _, _ => by simp at h
  | _ :: _, [], _, _, _, _, h, _ => by simp at h
  | p :: P, w :: vs, 0, m, nd, h1, h2, hk => by
    simp at h1 h2; subst h1; subst h2
    show bindC kindOf ((p, w) :: P.zip vs) m p = _
    unfold bindC
    rw [bindC_out fun v hv => (List.nodup_cons.mp nd).1 (List.of_mem_zip hv).1, if_neg hk]
    simp
  | p :: P, w :: vs, i + 1, m, nd, h1, h2, hk => by
    show bindC kindOf ((p, w) :: P.zip vs) m x = _
    unfold bindC
    exact bindC_get (i := i) (List.nodup_cons.mp nd).2 (by simpa using h1) (by simpa using h2) hk


noncomputable def start (N : List Str) (vs : List V) : St := vs.map some ++ List.replicate (N.length - vs.length) none


noncomputable def cxOf (CX : CXT) (P : Program) (w : World) (K : PySem.W.Frag) (mg : Str → Option Value) (base : Heap) (N : List Str) (qual : Str) (scope : Scope) (f : Addr) (cd : Value) (A : Around) (outer : List Env) (s : Shared) (H : Hp) (E : XK) : Cx where
  prog := P
  w := w
  K := K
  mg := mg
  base := base
  A := A.deeper (envOfC qual scope s.heap.objs.size f cd)
  N := N
  s₀ := s
  H₀ := H
  env := envOfC qual scope s.heap.objs.size f cd
  outer := outer
  stack := envOfC qual scope s.heap.objs.size f cd :: outer
  ex := []
  calm := true
  fn := fun _ => true
  pn := []
  xe := fun e s' => wpAny (model P w) (A.deeper (envOfC qual scope s.heap.objs.size f cd)) (leaving (envOfC qual scope s.heap.objs.size f cd) e) (fun _ s'' => CX outer H s E e s'') (fun e' s'' => CX outer H s E e' s'') s'

theorem cell_has {sc : Scope} {n : Nat} {x : Str} (h : sc.names.lookup x = some .cell) : ∃ c, (cellsFrom n sc.names []).lookup x = some c := by
  have q := PySem.W.cellsFrom_some sc.names n [] (.inl h)
  exact Option.isSome_iff_exists.mp q

theorem inv_start {CX : CXT} {P : Program} {w : World} {K : PySem.W.Frag} {mg : Str → Option Value} {base : Heap} {N ps : List Str} {qual : Str} {scope : Scope} {f : Addr} {cd : Value} {A : Around} {outer : List Env} {s s1 : Shared} {H : Hp} {E : XK} {us : List Value} {vs : List V}
    (S : FnScope N ps scope) (hd : A.handled = none) (e0 : Env0 P w K mg base A outer s H) (hl : vs.length = ps.length) (r : Vals vs us)
    (x : InCallC s s.heap.objs.size (bindL (envOfC qual scope s.heap.objs.size f cd).kindOf (ps.zip us) fun _ => none) (cellsFrom (s.heap.objs.size + 1) scope.names []) (bindC (envOfC qual scope s.heap.objs.size f cd).kindOf (ps.zip us) fun _ => none) s1) :
    Inv (cxOf CX P w K mg base N qual scope f cd A outer s H E) [] (start N vs) H s1 := by
  have hpl : ps.length ≤ N.length := by have := congrArg List.length S.pre; rw [List.length_take] at this; omega
  obtain ⟨h1, tk, rfl, hk⟩ := x.done
  have noA : ∀ b : Addr, b ∉ (cxOf CX P w K mg base N qual scope f cd A outer s H E).ex := fun b z => absurd (show b ∈ ([] : List Addr) from z) (by simp)
  refine ⟨⟨e0.mod, S.kind, rfl, rfl, Nat.le_refl _, fun y z c h1 h2 => ?_, fun y hy => ?_, fun y c _ h => ?_, fun _ => hd, Around.frames_deeper e0.frames, .inr ⟨rfl, rfl⟩, fun b z => absurd z (noA b), e0.bs, e0.bsz, fun b _ _ => noA b, fun b z => absurd z (noA b), e0.funs, e0.frf⟩,
    rfl, e0.bare, Un.kept hk, ⟨_, x.toInCall.ns, fun i y v h1 h2 h3 => ?_⟩, fun y c h => ⟨_, x.cell y c h⟩, e0.hok.fresh (Nat.le_refl _), fun y c h => ?_, fun p hp => absurd (show p ∈ ([] : List (Addr × Obj)) from hp) (by simp), e0.hok.kept hk, ?_⟩
  · exact name_of_addr x.apart (PySem.mem_of_lookup h1) (PySem.mem_of_lookup h2)
  · have hy : scope.names.lookup y = some .cell ∨ scope.names.lookup y = some .free := hy
    rcases hy with hy | hy
    · exact cell_has hy
    · exact absurd rfl (S.nofree _ (PySem.mem_of_lookup hy))
  · exact Nat.le_of_lt (x.above y c (PySem.mem_of_lookup h))
  · have hi : i < vs.length := by
      unfold start at h2
      by_cases hi : i < vs.length
      · exact hi
      · rw [List.getElem?_append_right (by simpa using hi)] at h2
        rw [List.getElem?_replicate] at h2
        split at h2 <;> cases h2
    have ha : vs[i]? = some v := by
      unfold start at h2
      rw [List.getElem?_append_left (by simpa using hi), List.getElem?_map] at h2
      cases e : vs[i]? with
      | none => rw [e] at h2; cases h2
      | some a => rw [e] at h2; cases h2; rfl
    obtain ⟨u, hu, rv⟩ := r.get ha
    have hp : ps[i]? = some y := by
      rw [← S.pre, List.getElem?_take_of_lt (by omega)]; exact h1
    have ndP : ps.Nodup := by rw [← S.pre]; exact S.nd.sublist (List.take_sublist _ _)
    refine ⟨u, rv, ?_⟩
    rcases S.par y (List.mem_of_getElem? hp) with k | k
    · exact .inl ⟨k, bindL_get ndP hp hu k⟩
    · obtain ⟨c, e⟩ := cell_has (n := s.heap.objs.size + 1) k
      refine .inr ⟨.inl k, c, e, ?_⟩
      have q := x.cell y c e
      rw [bindC_get ndP hp hu (by show scope.names.lookup y ≠ _; rw [k]; decide)] at q
      exact q
  · exact e0.hok.fresh (Nat.le_of_lt (x.above y c (PySem.mem_of_lookup h)))
  · unfold start
    show _ = N.length
    rw [List.length_append, List.length_map, List.length_replicate]
    omega


theorem fn_of {CX : CXT} {P : Program} {w : World} {K : PySem.W.Frag} {mg : Str → Option Value} {base : Heap} {k : Nat} {f : Addr} {name qual : Str} {params : Arguments} {body : List Stmt} {scope : Scope} {dV kV doc pm cdv ct oc : Value} {an od : Option Addr}
    {osl : Array (Option Value)} {N ps : List Str} {sp : Sp} (lk : K.lookup f = some ⟨oc, od, .func (PySem.W.fnOf name qual params body scope dV kV doc pm an cdv ct), osl⟩) (hcd : PySem.W.codeIn K cdv qual = true) (S : FnScope N ps scope)
    (len : ∀ vs H Q E, sp vs H Q E → vs.length = ps.length)
    (hbody : ∀ (A : Around) (outer : List Env) (s : Shared) (H : Hp) (vs : List V) (Q : VK) (E : XK), Room k (A.deeper (envOfC qual scope s.heap.objs.size f cdv)) → sp vs H Q E →
      ∃ t, PSs (cxOf CX P w K mg base N qual scope f cdv A outer s H E) body t ∧ t { nx := fun _ H' => Q .non H', rt := Q } (start N vs) H) :
    FnOk P w K mg base CX (k + 1) f (PySem.W.fnOf name qual params body scope dV kV doc pm an cdv ct) ps sp := by
  refine ⟨len, fun A outer s H args us vs Q E hr e0 hb r hsp => ?_⟩
  have hl := len _ _ _ _ hsp
  have KX : K.In s.heap := e0.mod.kin.keeps fun b o e => (e0.bs b o e).1
  have lim : s.heap.NoLimit := e0.mod.nolimit.keeps fun b o e => (e0.bs b o e).1
  have hkind : ∀ y ∈ ps.zip us, scope.names.lookup y.1 = some .local ∨ (scope.names.lookup y.1 = some .cell ∧ ((cellsFrom (s.heap.objs.size + 1) scope.names []).lookup y.1).isSome = true) := fun ⟨n, v⟩ hy => by
    rcases S.par n (List.of_mem_zip hy).1 with q | q
    · exact .inl q
    · exact .inr ⟨q, PySem.W.cellsFrom_some _ _ _ (.inl q)⟩
  refine codeAny_call_function hr.depth (KX _ _ lk) rfl S.co S.gen rfl (PySem.W.codeRec_of KX hcd) (hb _ _ _ _ ?_)
  refine wpAny_newFunctionEnv_cells S.kind hkind fun env he s1 x => ?_
  subst he
  refine ⟨lim.keeps x.toInCall.keep, codeAny_func ?_⟩
  obtain ⟨t, ht, hq⟩ := hbody A outer s H vs Q E (hr.deeper _) hsp
  have I : Inv (cxOf CX P w K mg base N qual scope f cdv A outer s H E) [] (start N vs) H s1 := inv_start S hr.hd e0 hl r x
  refine wpAny_mono (ht [] s1 (start N vs) H _ I hq) (fun fl s' hs => ?_) fun e s' hs => hs
  have fin : ∀ {σ' : St} {H' : Hp} {v : V} {u : Value}, Inv (cxOf CX P w K mg base N qual scope f cdv A outer s H E) [] σ' H' s' → RelV v u → Q v H' → CE outer P w H s Q u s' :=
    fun {σ' H' v u} J rv q => ⟨v, H', J.os, J.bare, J.base, J.hok, rv, q⟩
  cases fl with
  | ret u =>
    obtain ⟨v, σ', H', J, rv, q⟩ := hs
    exact fin J rv q
  | next =>
    obtain ⟨σ', H', J, q⟩ := hs
    exact fin (v := V.non) (u := Value.none) J rfl q
  | brk =>
    obtain ⟨_, _, _, q⟩ := hs
    exact False.elim q
  | cont =>
    obtain ⟨_, _, _, q⟩ := hs
    exact False.elim q
end L2

namespace L2
open PySem PySem.Spec PyProof.Rows
section
variable {X : Cx} {x : Str} {p pos : Pos} {e : Expr} {es : List Expr} {t : TA} {id T : String} {r : List V → Hp → VK → Prop}

noncomputable def tCB (r : List V → Hp → VK → Prop) (t : TA) : TE := fun σ H Q => t σ H fun vs H1 => r vs H1 Q

theorem pe_callB (hc : CallR X (.builtin id) r) (hg : Gl X x) (hm : X.mg x = none) (hv : bootBuiltins x = some (.builtin id)) (ha : PA X (e :: es) t) (hn : x ≠ "__name__" := by decide) (hdb : (x == ("__debug__" : Str)) = false := by decide)
    (he : starEach (e :: es) X.env = (false, eval e X.env) :: starEach es X.env := by rfl) (hpl : (backTo pos (starEach es X.env)).any (·.1) = false := by rfl) : PE X (.Call (.Name x p) (e :: es) [] pos) (tCB r t) := by
  intro pins s σ H Q I h
  refine wpAny_Call_Name_kw (ld_blt I hg hm hv ?_ hn hdb)
  exact PyProof.Rows.callWith_builtin1 (thnA (ha pos pins s σ H _ I h) fun us s1 vs H1 I1 r1 q1 => hc pins s1 σ H1 vs us Q I1 r1 q1) he hpl

theorem pe_callTy (hc : CallR X (.type T) r) (hg : Gl X x) (hm : X.mg x = none) (hv : bootBuiltins x = some (.type T)) (ha : PA X (e :: es) t) (hn : x ≠ "__name__" := by decide) (hdb : (x == ("__debug__" : Str)) = false := by decide)
    (he : starEach (e :: es) X.env = (false, eval e X.env) :: starEach es X.env := by rfl) (hpl : (backTo pos (starEach es X.env)).any (·.1) = false := by rfl) : PE X (.Call (.Name x p) (e :: es) [] pos) (tCB r t) := by
  intro pins s σ H Q I h
  refine wpAny_Call_Name_kw (ld_blt I hg hm hv ?_ hn hdb)
  exact PyProof.Rows.callWith_type1 (thnA (ha pos pins s σ H _ I h) fun us s1 vs H1 I1 r1 q1 => hc pins s1 σ H1 vs us Q I1 r1 q1) he hpl
end
end L2

namespace HT
open PySem PyProof.Rows




section
open PySem.SeqAt
open PySem.AutoSeq1 (wpAny_loadPart')
open PySem.MeetsSeq PySem.MeetsSeq2 PySem.MeetsSeq3

end

section
variable {prog : Program} {w : World} {A : Around} {E : Value → Shared → Prop} {s : Shared}





noncomputable def sIx (n d : Nat) : Option Int → Nat
  | none => d
  | some v => if v < 0 then (v + (n : Int)).toNat else min v.toNat n
theorem sIx_none (n d : Nat) : sIx n d none = d := rfl
theorem sIx_nat (n d k : Nat) : sIx n d (some (k : Int)) = min k n := by
  show (if (k : Int) < 0 then ((k : Int) + (n : Int)).toNat else min (k : Int).toNat n) = min k n
  rw [if_neg (by omega), Int.toNat_natCast]

end
end HT

namespace L2
open PySem PySem.Spec PyProof.Rows


noncomputable abbrev TO := St → Hp → (Option Int → Hp → Prop) → Prop

noncomputable def PO (X : Cx) (e : Option Expr) (t : TO) : Prop :=
  ∀ (pins : List (Addr × Obj)) (s : Shared) (σ : St) (H : Hp) (Q : Option Int → Hp → Prop), Inv X pins σ H s → t σ H Q →
    wpAny (model X.prog X.w) X.A (evalPart e X.env) (fun u s' => ∃ o H', Inv X pins σ H' s' ∧ IsPart u o ∧ Q o H') X.xe s
noncomputable def tNoPart : TO := fun _ H Q => Q none H
noncomputable def tPart (t : TE) : TO := fun σ H Q => t σ H fun x H1 => ∃ i, x = .int i ∧ Q (some i) H1


section
variable {X : Cx} {e : Expr} {te : TE} {lo hi : Option Expr} {tl th : TO} {pos p2 : Pos}

theorem po_none : PO X none tNoPart := by
  intro pins s σ H Q I h
  rw [evalPart_none]
  exact wpAny_pure ⟨none, H, I, .none, h⟩
theorem po_some (h : PE X e te) : PO X (some e) (tPart te) := by
  intro pins s σ H Q I hw
  rw [evalPart_some]
  refine thnE (h pins s σ H _ I hw) fun u s1 x H1 I1 r1 q1 => ?_
  obtain ⟨i, rfl, q⟩ := q1
  obtain ⟨t, rfl⟩ := r1
  exact ⟨some i, H1, I1, .int i t, q⟩


noncomputable def SlR (X : Cx) (r : V → Option Int → Option Int → Hp → VK → Prop) : Prop :=
  ∀ (pins : List (Addr × Obj)) (s : Shared) (σ : St) (H : Hp) (x : V) (v vl vu : Value) (lo hi : Option Int) (sl : Addr) (Q : VK), Inv X pins σ H s → RelV x v → s.heap.IsSliceOf sl vl vu .none → IsPart vl lo → IsPart vu hi → r x lo hi H Q →
    ∃ T id, typeLookup (.type T) "__getitem__" = pure (some (.builtin id)) ∧ s.TypeIs v T ∧ wpAny (model X.prog X.w) X.A (getItem v (.ref sl)) (EP X pins σ Q) X.xe s
noncomputable def tSl (r : V → Option Int → Option Int → Hp → VK → Prop) (te : TE) (tl th : TO) : TE := fun σ H Q => te σ H fun x H1 => tl σ H1 fun l H2 => th σ H2 fun u H3 => r x l u H3 Q

theorem pe_slice {r : V → Option Int → Option Int → Hp → VK → Prop} (hr : SlR X r) (he : PE X e te) (hl : PO X lo tl) (hu : PO X hi th) : PE X (.Subscript e (.Slice lo hi none p2) pos) (tSl r te tl th) := by
  intro pins s σ H Q I h
  refine Subscript_ (thnE (he pins s σ H _ I h) fun v s1 x H1 I1 r1 q1 => ?_)
  refine wpAny_Slice (thn (hl pins s1 σ H1 _ I1 q1) fun vl s2 ⟨l, H2, I2, pl, q2⟩ => thn (hu pins s2 σ H2 _ I2 q2) fun vu s3 ⟨u, H3, I3, pu, q3⟩ => ?_)
  rw [evalPart_none]
  refine wpAny_pure ?_
  have I4 : Inv X pins σ H3 { s3 with heap := s3.heap.push { cls := .type "slice", data := .fields #[vl, vu, .none] } } := I3.kept (t' := s3.toks) fun b ob q => Heap.get?_push_of_some _ q
  obtain ⟨T, id, hT, ht, hg⟩ := hr pins { s3 with heap := s3.heap.push { cls := .type "slice", data := .fields #[vl, vu, .none] } } σ H3 x v vl vu l u s3.heap.objs.size Q I4 r1 (Heap.IsSliceOf.new ..) pl pu q3
  show wpAny (model X.prog X.w) X.A (subscriptTail e (.Slice lo hi none p2) v (.ref s3.heap.objs.size)) (EP X pins σ Q) X.xe { s3 with heap := s3.heap.push { cls := .type "slice", data := .fields #[vl, vu, .none] } }
  exact tail_any (ops := [.ref s3.heap.objs.size, v]) ht hT hg (by with_unfolding_all rfl)


noncomputable def cutV (xs : List V) (lo hi : Option Int) : List V := (xs.drop (HT.sIx xs.length 0 lo)).take (HT.sIx xs.length xs.length hi - HT.sIx xs.length 0 lo)
theorem cutV_length (xs : List V) (lo hi : Option Int) : (cutV xs lo hi).length ≤ xs.length := by
  unfold cutV
  rw [List.length_take, List.length_drop]
  omega




end
end L2

namespace L2
open PySem PySem.Spec PyProof.Rows



noncomputable def ixN (n : Nat) (i : Int) : Option Nat := if 0 ≤ i then (if i < n then some i.toNat else none) else if -(n : Int) ≤ i then some (i + n).toNat else none
noncomputable def atI {α : Type} (xs : List α) (i : Int) : Option α := (ixN xs.length i).bind fun j => xs[j]?
theorem ixN_seq {n : Nat} {i : Int} {j : Nat} (h : ixN n i = some j) : seqIndex? i n = some j ∧ j < n ∧ -(n : Int) ≤ i ∧ i < n := by
  unfold ixN at h
  by_cases h0 : 0 ≤ i
  · rw [if_pos h0] at h
    by_cases h1 : i < n
    · rw [if_pos h1] at h
      have e : i.toNat = j := Option.some.inj h
      exact ⟨by rw [seqIndex_of h0 h1, e], by omega, by omega, h1⟩
    · rw [if_neg h1] at h; cases h
  · rw [if_neg h0] at h
    by_cases h1 : -(n : Int) ≤ i
    · rw [if_pos h1] at h
      have e : (i + n).toNat = j := Option.some.inj h
      exact ⟨by rw [seqIndex_neg (by omega) h1, e], by omega, h1, by omega⟩
    · rw [if_neg h1] at h; cases h
theorem atI_get {α : Type} {xs : List α} {i : Int} {v : α} (h : atI xs i = some v) : ∃ j, seqIndex? i xs.length = some j ∧ xs[j]? = some v ∧ j < xs.length ∧ -(xs.length : Int) ≤ i ∧ i < xs.length := by
  unfold atI at h
  cases e : ixN xs.length i with
  | none => rw [e] at h; cases h
  | some j =>
    rw [e] at h
    obtain ⟨h1, h2, h3, h4⟩ := ixN_seq e
    exact ⟨j, h1, h, h2, h3, h4⟩
theorem atI_nat {α : Type} {xs : List α} {j : Nat} {v : α} (h : xs[j]? = some v) : atI xs (j : Int) = some v := by
  have hj : j < xs.length := (List.getElem?_eq_some_iff.mp h).1
  have e : ixN xs.length (j : Int) = some j := by
    unfold ixN
    rw [if_pos (by omega), if_pos (by omega)]; simp
  unfold atI; rw [e]; exact h



noncomputable def PlainIx (b : Expr) : Prop := ∀ o i, subscripted b false o i = operate [o, i] (getItem o i)

noncomputable def IxR (X : Cx) (r : R2) : Prop :=
  ∀ (value slice : Expr) (pins : List (Addr × Obj)) (s : Shared) (σ : St) (H : Hp) (x y : V) (v u : Value) (Q : VK), Inv X pins σ H s → RelV x v → RelV y u → r x y H Q →
    subscripted slice false v u = operate [v, u] (getItem v u) → wpAny (model X.prog X.w) X.A (subscriptTail value slice v u) (EP X pins σ Q) X.xe s

noncomputable def MtR (X : Cx) (id : String) (r : V → List V → Hp → VK → Prop) : Prop :=
  ∀ (pins : List (Addr × Obj)) (s : Shared) (σ : St) (H : Hp) (x : V) (xs : List V) (v : Value) (us : List Value) (Q : VK), Inv X pins σ H s → RelV x v → Vals xs us → r x xs H Q →
    wpAny (model X.prog X.w) X.A (call (.builtin id) (v :: us)) (EP X pins σ Q) X.xe s
section
variable {X : Cx} {a b : Expr} {ta tb : TE} {pos : Pos}

theorem pe_ix {r : R2} (hr : IxR X r) (ha : PE X a ta) (hb : PE X b tb) (hs : PlainIx b) : PE X (.Subscript a b pos) (tOp r ta tb) := by
  intro pins s σ H Q I h
  exact Subscript_ (binT ha hb I h fun v u s2 x y H2 I2 rx ry q => hr a b pins s2 σ H2 x y v u Q I2 rx ry q (hs _ _))

noncomputable def rIxL (K : PySem.W.Frag) : R2 := fun x y H Q => ∃ p xs i v, x = .ref p ∧ y = .int i ∧ SqL K H p xs ∧ atI xs i = some v ∧ Q v H
noncomputable def rIxT (K : PySem.W.Frag) : R2 := fun x y H Q => ∃ p xs i v, x = .ref p ∧ y = .int i ∧ SqT K H p xs ∧ atI xs i = some v ∧ Q v H
noncomputable def rIxS : R2 := fun x y H Q => ∃ z i c, x = .str z ∧ y = .int i ∧ z.length ≤ sizeLine ∧ atI z.cps.toList i = some c ∧ Q (.str ⟨#[c]⟩) H
theorem ix_list : IxR X (rIxL X.K) := by
  intro value slice pins s σ H x y v u Q I rx ry h hs
  obtain ⟨p, xs, i, z, rfl, rfl, hq, he, q⟩ := h
  cases rx
  obtain ⟨t, rfl⟩ := ry
  obtain ⟨its, r, pl, hz⟩ := I.list hq
  obtain ⟨j, h1, h2, h3, h4, h5⟩ := atI_get he
  obtain ⟨w, ew, rw'⟩ := r.get h2
  have hl := r.length
  have hn := line63
  have fin : EP X pins σ Q w s := ⟨z, H, I, rw', q⟩
  by_cases h0 : 0 ≤ i
  · have hj : i.toNat = j := by
      rw [seqIndex_of h0 h5] at h1
      exact Option.some.inj h1
    exact item_listR pl.isList h0 (by omega) (by rw [hj]; simpa using ew) fin hs
  · have hj : (i + (its.toArray.size : Int)).toNat = j := by
      rw [seqIndex_neg (by omega) h4] at h1
      rw [List.size_toArray, ← hl]
      exact Option.some.inj h1
    exact subscriptTail_builtinR (x := w) pl.isList.typeIs slot_list_getitem.lookup
      (wpAny_getItem_list_neg (Q := fun r s' => r = w ∧ EP X pins σ Q r s') pl.isList (by omega) (by rw [List.size_toArray] <;> omega) (by omega) (by rw [hj]; simpa using ew) ⟨rfl, fin⟩) hs
theorem ix_tup : IxR X (rIxT X.K) := by
  intro value slice pins s σ H x y v u Q I rx ry h hs
  obtain ⟨p, xs, i, z, rfl, rfl, hq, he, q⟩ := h
  cases rx
  obtain ⟨t, rfl⟩ := ry
  obtain ⟨its, r, pl, hz⟩ := I.tuple hq
  obtain ⟨j, h1, h2, h3, h4, h5⟩ := atI_get he
  obtain ⟨w, ew, rw'⟩ := r.get h2
  have hl := r.length
  have hn := line63
  have fin : EP X pins σ Q w s := ⟨z, H, I, rw', q⟩
  exact subscriptTail_builtinR (x := w) pl.typeIs slot_tuple_getitem.lookup
    (getItem_tuple (j := j) (Q := fun r s' => r = w ∧ EP X pins σ Q r s') pl (by omega) (by omega) (by rw [List.size_toArray, ← hl]; exact h1) (by simpa using ew) ⟨rfl, fin⟩) hs
theorem ix_str : IxR X rIxS := by
  intro value slice pins s σ H x y v u Q I rx ry h hs
  obtain ⟨z, i, c, rfl, rfl, hz, he, q⟩ := h
  obtain ⟨t, rfl⟩ := rx
  obtain ⟨t', rfl⟩ := ry
  obtain ⟨j, h1, h2, h3, h4, h5⟩ := atI_get he
  have hl : z.cps.toList.length = z.length := by simp [Str.length]
  rw [hl] at h1 h4 h5
  have hn := line63
  exact tail_any (typeIs_str s z t) slot_str_getitem.lookup (getItem_str (c := c) (by
    have e1 : decide (i < -(2 ^ 63 : Int)) = false := decide_eq_false (by omega)
    have e2 : decide (i ≥ 2 ^ 63) = false := decide_eq_false (by omega)
    rw [e1, e2, Bool.or_false]) (by rw [h1]; simpa using h2) ⟨.str ⟨#[c]⟩, H, I.tok _, ⟨_, rfl⟩, q⟩) hs




theorem mapSeq_set (its : List Value) (n j : Nat) (u : Value) : Obj.mapSeq (·.setIfInBounds j u) { cls := .type "list", data := .seq its.toArray n } = { cls := .type "list", data := .seq (its.set j u).toArray n } := by
  simp [Obj.mapSeq]
theorem Inv.lst {pins : List (Addr × Obj)} {σ : St} {H : Hp} {s : Shared} {p : Addr} {xs : List V} (I : Inv X pins σ H s) (h : H p = some (.lst xs)) :
    ∃ (its : List Value) (n : Nat), Vals xs its ∧ s.heap.get? p = some { cls := .type "list", data := .seq its.toArray n } ∧ xs.length ≤ sizeLine := by
  obtain ⟨z, its, n, r, e⟩ := I.hok p _ h
  exact ⟨its, n, r, e, z⟩

theorem Inv.lstUpd {pins : List (Addr × Obj)} {σ : St} {H : Hp} {s : Shared} {p : Addr} {xs ys : List V} {its its' : List Value} {n n' : Nat} {f : Obj → Obj} (I : Inv X pins σ H s) (h : H p = some (.lst xs))
    (ho : s.heap.get? p = some { cls := .type "list", data := .seq its.toArray n }) (hf : f { cls := .type "list", data := .seq its.toArray n } = { cls := .type "list", data := .seq its'.toArray n' }) (r : Vals ys its') (hz : ys.length ≤ sizeLine) (t : Nat) :
    Inv X pins σ (upd H p (.lst ys)) { s with heap := s.heap.update p f, toks := t } := by
  have e : (s.heap.update p f).get? p = some { cls := .type "list", data := .seq its'.toArray n' } := by
    rw [Heap.get?_update_self f ho (by rw [hf] <;> rfl), hf]
  refine I.write (x := p) (e := p) (by rw [h]; trivial) (.inl rfl) (fun b u hb q => (Heap.get?_update_other _ _ (Ne.symm hb)).trans q) ⟨_, e⟩ ?_
  exact ⟨hz, its', n', r, e⟩
noncomputable def rSetL : V → V → V → Hp → (Hp → Prop) → Prop := fun o i v H Q => ∃ p xs k j, o = .ref p ∧ i = .int k ∧ H p = some (.lst xs) ∧ ixN xs.length k = some j ∧ Q (upd H p (.lst (xs.set j v)))
theorem set_list : PSet X rSetL := by
  intro pins s σ H o i v ov iv u Q I ro ri rv h
  obtain ⟨p, xs, k, j, rfl, rfl, hp, hj, q⟩ := h
  cases ro
  obtain ⟨t, rfl⟩ := ri
  obtain ⟨its, n, r, ho, hz⟩ := I.lst hp
  obtain ⟨h1, h2, h3, h4⟩ := ixN_seq hj
  have hl := r.length
  have hn := line63
  have I' : Inv X pins σ (upd H p (.lst (xs.set j v))) { s with heap := s.heap.update p (Obj.mapSeq (·.setIfInBounds j u)) } :=
    I.lstUpd hp ho (mapSeq_set its n j u) (r.set rv j) (by rw [List.length_set]; exact hz) s.toks
  by_cases h0 : 0 ≤ k
  · have hk : k.toNat = j := by
      rw [seqIndex_of h0 h4] at h1
      exact Option.some.inj h1
    exact PySem.W.ki_setAt ho h0 (by omega) (by rw [List.size_toArray, ← hl]; exact h4) (by rw [hk]; exact ⟨_, I', q⟩)
  · have hk : (k + (its.toArray.size : Int)).toNat = j := by
      rw [seqIndex_neg (by omega) h3] at h1
      rw [List.size_toArray, ← hl]
      exact Option.some.inj h1
    exact PySem.W.ki_setBack ho (by omega) (by rw [List.size_toArray, ← hl]; exact h3) (by omega) (by rw [hk]; exact ⟨_, I', q⟩)


theorem slice_bounds (lo hi : Option Int) (n : Nat) : (sliceBounds lo hi none n).1 = ((HT.sIx n 0 lo : Nat) : Int) ∧ (sliceBounds lo hi none n).2.1 = ((HT.sIx n n hi : Nat) : Int) ∧ (sliceBounds lo hi none n).2.2 = 1 := by
  refine ⟨?_, ?_, rfl⟩
  · cases lo with
    | none => simp [sliceBounds, HT.sIx]
    | some i =>
      simp only [sliceBounds, HT.sIx, Option.getD_none, show (1 : Int) > 0 by decide, if_true]
      by_cases h : i < 0
      · simp only [h, if_true] <;> omega
      · simp only [h, if_false] <;> omega
  · cases hi with
    | none => simp [sliceBounds, HT.sIx]
    | some i =>
      simp only [sliceBounds, HT.sIx, Option.getD_none, show (1 : Int) > 0 by decide, if_true]
      by_cases h : i < 0
      · simp only [h, if_true] <;> omega
      · simp only [h, if_false] <;> omega
theorem slicePick_cut (its : List Value) (lo hi : Option Int) : slicePick its.toArray lo hi none = ((its.drop (HT.sIx its.length 0 lo)).take (HT.sIx its.length its.length hi - HT.sIx its.length 0 lo)).toArray := by
  obtain ⟨h1, h2, h3⟩ := slice_bounds lo hi its.toArray.size
  unfold slicePick
  rw [h1, h2, h3]
  simp only [sliceRange_one, pick_run, List.size_toArray] <;> rfl

noncomputable def rSlL (K : PySem.W.Frag) : V → Option Int → Option Int → Hp → VK → Prop := fun x lo hi H Q => ∃ a xs, x = .ref a ∧ SqL K H a xs ∧ ∀ p, H p = none → Q (.ref p) (upd H p (.lst (cutV xs lo hi)))
theorem sl_list : SlR X (rSlL X.K) := by
  intro pins s σ H x v vl vu lo hi sl Q I rx hs pl pu h
  obtain ⟨a, xs, rfl, hx, q⟩ := h
  cases rx
  obtain ⟨its, r, ht, hz⟩ := I.list hx
  have hlen := r.length
  refine ⟨"list", _, slot_list_getitem.lookup, ht.isList.typeIs, ?_⟩
  refine wpAny_getItem_list_slice ht.isList hs pl pu .none (by simp) ?_ (by rw [List.size_toArray] <;> omega)
  rw [slicePick_cut, ← hlen]
  refine ⟨.ref s.heap.objs.size, _, I.laid (t' := s.toks) (o := .lst (cutV xs lo hi)) (fun b ob q => Heap.get?_push_of_some _ q) (Nat.le_refl _) ?_, rfl, q _ (I.hok.fresh (Nat.le_refl _))⟩
  exact ⟨Nat.le_trans (cutV_length xs lo hi) hz, _, 0, (r.drop (HT.sIx xs.length 0 lo)).take (HT.sIx xs.length xs.length hi - HT.sIx xs.length 0 lo), Heap.get?_push_size _ rfl⟩


noncomputable def flatV : V → Bool
  | .non => true
  | .bl _ => true
  | .int _ => true
  | .str _ => true
  | _ => false

noncomputable def eqV : V → V → Bool
  | .non, .non => true
  | .bl a, .bl b => a == b
  | .bl a, .int b => (if a then 1 else 0) == b
  | .int a, .bl b => a == (if b then 1 else 0)
  | .int a, .int b => a == b
  | .str a, .str b => a == b
  | _, _ => false
theorem eqAt_V {A : Around} {s : Shared} {y x : V} {u v : Value} (ry : RelV y u) (rx : RelV x v) (fy : flatV y = true) (fx : flatV x = true) : SeqAt.EqAt A s u v (eqV y x) := by
  cases y with
  | non =>
    cases ry
    cases x with
    | non => cases rx; exact SeqAt.EqAt.same _
    | bl b => cases rx; exact SeqAt.EqAt.none_bool b
    | int b => obtain ⟨t, rfl⟩ := rx; exact SeqAt.EqAt.none_int b t
    | str b => obtain ⟨t, rfl⟩ := rx; exact SeqAt.EqAt.none_str b t
    | _ => exact absurd (show false = true from fx) Bool.false_ne_true
  | bl a =>
    cases ry
    cases x with
    | non => cases rx; exact SeqAt.EqAt.bool_none a
    | bl b => cases rx; exact SeqAt.EqAt.bool_bool a b
    | int b => obtain ⟨t, rfl⟩ := rx; exact SeqAt.EqAt.bool_int a b t
    | str b => obtain ⟨t, rfl⟩ := rx; exact SeqAt.EqAt.bool_str a b t
    | _ => exact absurd (show false = true from fx) Bool.false_ne_true
  | int a =>
    obtain ⟨t', rfl⟩ := ry
    cases x with
    | non => cases rx; exact SeqAt.EqAt.int_none a t'
    | bl b => cases rx; exact SeqAt.EqAt.int_bool a t' b
    | int b => obtain ⟨t, rfl⟩ := rx; exact SeqAt.EqAt.int_int a t' b t
    | str b => obtain ⟨t, rfl⟩ := rx; exact SeqAt.EqAt.int_str a t' b t
    | _ => exact absurd (show false = true from fx) Bool.false_ne_true
  | str a =>
    obtain ⟨t', rfl⟩ := ry
    cases x with
    | non => cases rx; exact SeqAt.EqAt.str_none a t'
    | bl b => cases rx; exact SeqAt.EqAt.str_bool a t' b
    | int b => obtain ⟨t, rfl⟩ := rx; exact SeqAt.EqAt.str_int a t' b t
    | str b => obtain ⟨t, rfl⟩ := rx; exact SeqAt.EqAt.str_str a t' b t
    | _ => exact absurd (show false = true from fx) Bool.false_ne_true
  | _ => exact absurd (show false = true from fy) Bool.false_ne_true

noncomputable def eqU (x : V) (u : Value) : Bool := match u with
  | .none => eqV .non x
  | .bool b => eqV (.bl b) x
  | .int i _ => eqV (.int i) x
  | .str z _ => eqV (.str z) x
  | _ => false
theorem eqU_of {x y : V} {u : Value} (r : RelV y u) (f : flatV y = true) : eqU x u = eqV y x := by
  cases y with
  | non => cases r; rfl
  | bl b => cases r; rfl
  | int i => obtain ⟨t, rfl⟩ := r; rfl
  | str z => obtain ⟨t, rfl⟩ := r; rfl
  | _ => exact absurd (show false = true from f) Bool.false_ne_true
theorem mem_eqAt {A : Around} {s : Shared} {x : V} {v : Value} (rx : RelV x v) (fx : flatV x = true) : ∀ {xs : List V} {us : List Value}, Vals xs us → xs.all flatV = true → ∀ u ∈ us, SeqAt.EqAt A s u v (eqU x u)
  | _, _, .nil, _ => fun u hu => by cases hu
  | y :: xs, u :: us, .cons r t, f => fun u' hu => by
    rw [List.all_cons, Bool.and_eq_true] at f
    rcases List.mem_cons.mp hu with rfl | hu
    · rw [eqU_of r f.1]; exact eqAt_V r rx f.1 fx
    · exact mem_eqAt rx fx t f.2 u' hu

theorem op_notIn_str : OpR X (compareOp .NotIn) (fun x y H Q => ∃ i j, x = .str i ∧ y = .str j ∧ Q (.bl (!(!(Builtin.Str.occurrences j i 0 j.length 1).isEmpty))) H) := by
  intro pins s σ H x y v u Q I rx ry h
  obtain ⟨i, j, rfl, rfl, q⟩ := h
  obtain ⟨t, rfl⟩ := rx
  obtain ⟨t', rfl⟩ := ry
  exact notIn_str ⟨.bl _, H, I, rfl, q⟩


theorem call_len_seq : CallR X (.builtin "len") (fun xs H Q => ∃ p ys, xs = [.ref p] ∧ (SqL X.K H p ys ∨ SqT X.K H p ys) ∧ Q (.int ys.length) H) := by
  intro pins s σ H xs us Q I r h
  obtain ⟨p, ys, rfl, hq, q⟩ := h
  obtain ⟨u, rfl, rx⟩ := vals1 r
  cases rx
  have hn := line63
  rcases hq with hq | hq
  · obtain ⟨its, r', pl, hz⟩ := I.list hq
    have hlen := r'.length
    exact Calls.call_len_list pl.isList (by simp only [List.size_toArray] <;> omega) ⟨.int ys.length, H, I.tok _, ⟨s.toks + 1, by rw [List.size_toArray, hlen]⟩, q⟩
  · obtain ⟨its, r', pl, hz⟩ := I.tuple hq
    have hlen := r'.length
    exact len_tuple pl (by simp only [List.size_toArray] <;> omega) ⟨.int ys.length, H, I.tok _, ⟨s.toks + 1, by rw [List.size_toArray, hlen]⟩, q⟩
theorem call_len_str : CallR X (.builtin "len") (fun xs H Q => ∃ z, xs = [.str z] ∧ z.length ≤ sizeLine ∧ Q (.int z.length) H) := by
  intro pins s σ H xs us Q I r h
  obtain ⟨z, rfl, hz, q⟩ := h
  obtain ⟨u, rfl, t, rfl⟩ := vals1 r
  have hn := line63
  exact len_str (by omega) ⟨.int z.length, H, I.tok _, ⟨_, rfl⟩, q⟩
theorem call_tuple_of : CallR X (.type "tuple") (fun xs H Q => ∃ p ys, xs = [.ref p] ∧ ((SqL X.K H p ys ∧ ∀ l, H l = none → Q (.ref l) (upd H l (.tup ys))) ∨ (SqT X.K H p ys ∧ Q (.ref p) H))) := by
  intro pins s σ H xs us Q I r h
  obtain ⟨p, ys, rfl, h⟩ := h
  obtain ⟨u, rfl, rx⟩ := vals1 r
  cases rx
  rcases h with ⟨hq, q⟩ | ⟨hq, q⟩
  · obtain ⟨its, r', pl, hz⟩ := I.list hq
    have hlen := r'.length
    refine call_tuple_list pl.isList (fun h' kp => ?_) (by simp only [List.size_toArray] <;> omega)
    have I1 : Inv X pins σ H { s with heap := h' } := I.kept (t' := s.toks) kp
    have I2 : Inv X pins σ (upd H h'.objs.size (.tup ys)) { s with heap := h'.push { cls := .type "tuple", data := .seq its.toArray } } :=
      I1.laid (t' := s.toks) (fun b o e => Heap.get?_push_of_some _ e) (Nat.le_refl _) (show ObjOk X.prog X.w _ _ _ (.tup ys) from ⟨hz, its, r', TupP.new _ _⟩)
    exact ⟨.ref h'.objs.size, _, I2, rfl, q _ (I1.hok.fresh (Nat.le_refl _))⟩
  · obtain ⟨its, r', pl, hz⟩ := I.tuple hq
    exact call_tuple_same pl ⟨.ref p, H, I, rfl, q⟩



noncomputable def tyV (K : PySem.W.Frag) (T : String) (x : V) (H : Hp) : Prop := match x with
  | .str _ => T = "str"
  | .int _ => T = "int"
  | .ref p => (T = "list" ∧ ∃ xs, SqL K H p xs) ∨ (T = "tuple" ∧ ∃ o, K.lookup p = some o ∧ o.cls = .type "tuple" ∧ o.dict = none) ∨
      (T = "dict" ∧ ((∃ kvs, H p = some (.dK kvs)) ∨ ∃ kvs, H p = some (.dT kvs))) ∨ (T = "set" ∧ ∃ S n, H p = some (.set S n))
  | _ => False
theorem tyV_is {pins : List (Addr × Obj)} {σ : St} {H : Hp} {s : Shared} {T : String} {x : V} {v : Value} (I : Inv X pins σ H s) (r : RelV x v) (ty : tyV X.K T x H) :
    s.TypeIs v T ∧ ∀ a, v = .ref a → ∃ ob, s.heap.get? a = some ob ∧ ob.dict = none := by
  cases x with
  | str z =>
    obtain ⟨t, rfl⟩ := r
    cases (show T = "str" from ty)
    exact ⟨typeIs_str s z t, fun _ e => nomatch e⟩
  | int i =>
    obtain ⟨t, rfl⟩ := r
    cases (show T = "int" from ty)
    exact ⟨typeIs_int s i t, fun _ e => nomatch e⟩
  | ref p =>
    cases r
    rcases ty with ⟨rfl, xs, hq⟩ | ⟨rfl, o, hk, hc, hd⟩ | ⟨rfl, hk⟩ | ⟨rfl, S, n, hk⟩
    · obtain ⟨its, _, pl, _⟩ := I.list hq
      refine ⟨pl.isList.typeIs, fun a e => ?_⟩
      cases e
      obtain ⟨o, n, e, c, hd, _⟩ := pl
      exact ⟨o, e, hd⟩
    · refine ⟨⟨o, I.kIn p o hk, hc⟩, fun a e => ?_⟩
      cases e
      exact ⟨o, I.kIn _ o hk, hd⟩
    · have z : ∃ o, s.heap.get? p = some o ∧ o.ExactDict := by
        rcases hk with ⟨kvs, hk⟩ | ⟨kvs, hk⟩
        · obtain ⟨_, _, _, _, o, _, _, e, ex, _⟩ := I.hok p _ hk
          exact ⟨o, e, ex⟩
        · obtain ⟨_, _, _, _, o, _, _, e, ex, _⟩ := I.hok p _ hk
          exact ⟨o, e, ex⟩
      obtain ⟨o, e, ex⟩ := z
      refine ⟨⟨o, e, ex.1⟩, fun a e2 => ?_⟩
      cases e2
      exact ⟨o, e, ex.2.1⟩
    · obtain ⟨o, _, _, _, e, ex, _⟩ := I.hok p _ hk
      refine ⟨⟨o, e, ex.1⟩, fun a e2 => ?_⟩
      cases e2
      exact ⟨o, e, ex.2.1⟩
  | _ => exact False.elim ty
noncomputable def tBM (K : PySem.W.Frag) (T : String) (r : V → List V → Hp → VK → Prop) (to : TE) (t : TA) : TE := fun σ H Q => to σ H fun x H1 => tyV K T x H1 ∧ t σ H1 fun xs H2 => r x xs H2 Q
variable {o e : Expr} {es : List Expr} {to : TE} {t : TA} {name : Str} {apos cpos : Pos} {T id : String} {r : V → List V → Hp → VK → Prop}
theorem pe_bm (pa : PlainAttrs T) (slot : Slot T name id) (hty : typeOf (.builtin id) = pure (.type "method_descriptor")) (hm : MtR X id r) (ho : PE X o to) (ha : PA X (e :: es) t)
    (hbase : attributeBase o name X.env (eval o X.env) = eval o X.env := by rfl)
    (hfew : ((backTo cpos (starEach (e :: es) X.env)).all (fun x => !x.1) && (backToKw cpos (keywordEach [] X.env)).all (fun x => x.1.isSome)
      && decide ((e :: es).length + ([] : List Keyword).length + (if ([] : List Keyword).isEmpty then 0 else 1) < 30)) = true := by rfl)
    (hline : (apos.endLine == cpos.line) = true := by rfl) (hs : starEach (e :: es) X.env = (false, eval e X.env) :: starEach es X.env := by rfl) (hplain : (backTo cpos (starEach es X.env)).any (·.1) = false := by rfl) :
    PE X (.Call (.Attribute o name apos) (e :: es) [] cpos) (tBM X.K T r to t) := by
  intro pins s σ H Q I h
  refine wpAny_Call_method_late hbase hfew hline rfl (thnE (ho pins s σ H _ I h) fun v s1 x H1 I1 r1 zz3 => ?_)
  obtain ⟨ty, q1⟩ := zz3
  obtain ⟨h1, h2⟩ := tyV_is I1 r1 ty
  refine ⟨T, id, pa, slot, hty, h1, h2, ?_⟩
  have hA := ha cpos pins s1 σ H1 _ I1 q1
  rw [hs] at hA ⊢
  refine Calls.callWith_builtin (by show (false || (backTo cpos (starEach es X.env)).any (·.1)) = false; rw [hplain] <;> rfl) (Calls.evalArgs_plain ?_)
  exact thn hA fun us s2 ⟨vs, H2, I2, r2, q2⟩ => hm pins s2 σ H2 x vs v us Q I2 r1 r2 q2
/- xs.append(e), list.index on a module's tuple .. are MtR facts of 06m -/
end
end L2

namespace L2
open PySem PySem.Spec PyProof.Rows

noncomputable def MtM (X : Cx) (id : String) (r : V → List V → Hp → VK → Prop) : Prop :=
  ∀ (pins : List (Addr × Obj)) (s : Shared) (σ : St) (H : Hp) (x : V) (xs : List V) (v : Value) (us : List Value) (Q : VK), Inv X pins σ H s → RelV x v → Vals xs us → r x xs H Q →
    wpAny (model X.prog X.w) X.A (call (.builtin id) (v :: us)) (EP X pins σ Q) X.xe s


theorem Vals.one : ∀ {x : V} {us : List Value}, Vals [x] us → ∃ u, us = [u] ∧ RelV x u
  | _, _, .cons r .nil => ⟨_, rfl, r⟩
theorem Vals.eraseIdx : ∀ {xs : List V} {us : List Value} (i : Nat), Vals xs us → Vals (xs.eraseIdx i) (us.eraseIdx i)
  | _, _, _, .nil => .nil
  | _, _, 0, .cons _ t => t
  | _, _, i + 1, .cons r t => .cons r (Vals.eraseIdx i t)
theorem len_erase {α : Type} : ∀ (l : List α) (i : Nat), (l.eraseIdx i).length ≤ l.length
  | [], _ => Nat.le_refl _
  | _ :: _, 0 => Nat.le_succ _
  | _ :: r, i + 1 => Nat.succ_le_succ (len_erase r i)

section
variable {X : Cx} {pins : List (Addr × Obj)} {σ : St} {H : Hp} {s : Shared} {l b : Addr} {xs ys zs : List V}


theorem Inv.lset {its its' : List Value} {n : Nat} {f : Array Value → Array Value} {t' : Nat} (I : Inv X pins σ H s) (hH : H l = some (.lst xs))
    (e : s.heap.get? l = some { cls := .type "list", data := .seq its.toArray n }) (hf : f its.toArray = its'.toArray) (hv : Vals ys its') (hz : ys.length ≤ sizeLine) :
    Inv X pins σ (upd H l (.lst ys)) { s with heap := s.heap.update l (Obj.mapSeq f), toks := t' } := by
  have q := PySem.IsL.update e f
  rw [hf] at q
  refine I.write (x := l) (e := l) (by rw [hH]; exact trivial) (.inl rfl) (fun b' u hb hu => (Heap.get?_update_other s.heap (Obj.mapSeq f) (Ne.symm hb)).trans hu) ⟨_, q⟩ ?_
  exact ⟨hz, its', _, hv, q⟩
theorem Inv.lnew {its : List Value} {t' : Nat} (I : Inv X pins σ H s) (hv : Vals ys its) (hz : ys.length ≤ sizeLine) :
    Inv X pins σ (upd H s.heap.objs.size (.lst ys)) { s with heap := s.heap.push { cls := .type "list", data := .seq its.toArray }, toks := t' } :=
  I.laid (fun _ _ q => Heap.get?_push_of_some _ q) (Nat.le_refl _) ⟨hz, its, 0, hv, Heap.get?_push_size _ rfl⟩
theorem Inv.fresh (I : Inv X pins σ H s) : H s.heap.objs.size = none := I.hok.fresh (Nat.le_refl _)
theorem Inv.lstM (I : Inv X pins σ H s) (hH : H l = some (.lst xs)) : xs.length ≤ sizeLine ∧ ∃ (its : List Value) (n : Nat), Vals xs its ∧ xs.length = its.length ∧ s.heap.get? l = some { cls := .type "list", data := .seq its.toArray n } := by
  obtain ⟨z, its, n, r, e⟩ := I.hok l _ hH
  exact ⟨z, its, n, r, r.length, e⟩

end

section
variable {X : Cx}


noncomputable def rAppend : V → List V → Hp → VK → Prop := fun x vs H Q => ∃ l xs y, x = .ref l ∧ vs = [y] ∧ H l = some (.lst xs) ∧ xs.length < sizeLine ∧ Q .non (upd H l (.lst (xs ++ [y])))
theorem mt_append : MtM X "list.append" rAppend := by
  intro pins s σ H x vs v us Q I rx rv h
  obtain ⟨l, xs, y, rfl, rfl, hH, hz, q⟩ := h
  cases rx
  obtain ⟨u, rfl, ru⟩ := rv.one
  obtain ⟨z, its, n, r, hl, e⟩ := I.lstM hH
  refine call_meets F.slot_list_append ⟨_, e, rfl⟩ F.entry_list_append (F.args_list_append_2 _ _) (PySem.list_append l its.toArray n u (by rw [List.size_toArray]; omega)) ⟨e, ?_⟩
  refine ⟨.non, _, I.lset (its' := its ++ [u]) hH e (by simp) (r.append (.cons ru .nil)) ?_, rfl, q⟩
  rw [List.length_append, List.length_singleton]
  omega



noncomputable def rPopAt : V → List V → Hp → VK → Prop := fun x vs H Q => ∃ l xs i k y, x = .ref l ∧ vs = [.int i] ∧ H l = some (.lst xs) ∧ -(2 ^ 63) ≤ i ∧ i < 2 ^ 63 ∧ seqIndex? i xs.length = some k ∧ xs[k]? = some y ∧ Q y (upd H l (.lst (xs.eraseIdx k)))
theorem mt_popAt : MtM X "list.pop" rPopAt := by
  intro pins s σ H x vs v us Q I rx rv h
  obtain ⟨l, xs, i, k, y, rfl, rfl, hH, h1, h2, hk, hy, q⟩ := h
  cases rx
  obtain ⟨u, rfl, ru⟩ := rv.one
  obtain ⟨t, rfl⟩ := ru
  obtain ⟨z, its, n, r, hl, e⟩ := I.lstM hH
  obtain ⟨w, hw, rw'⟩ := r.get hy
  refine call_meets F.slot_list_pop ⟨_, e, rfl⟩ F.entry_list_pop (F.args_list_pop_2 _ _)
    (MeetsSeq.list_pop_at l its.toArray n i t k w (fitsIndex_both h1 h2) (by rw [List.size_toArray, ← hl]; exact hk) (by rw [← Array.getElem?_toList]; exact hw) (by rw [List.size_toArray]; omega)) ⟨e, ?_⟩
  refine ⟨y, _, I.lset (its' := its.eraseIdx k) hH e ?_ (r.eraseIdx k) ?_, rw', q⟩
  · show its.toArray.eraseIdxIfInBounds k = (its.eraseIdx k).toArray
    rw [List.eraseIdxIfInBounds_toArray]
  · have := len_erase xs k
    omega




noncomputable def rCat : R2 := fun x y H Q => ∃ l b xs zs, x = .ref l ∧ y = .ref b ∧ H l = some (.lst xs) ∧ H b = some (.lst zs) ∧ xs.length + zs.length ≤ sizeLine ∧ ∀ p, H p = none → Q (.ref p) (upd H p (.lst (xs ++ zs)))
theorem op_cat : OpR X (binaryOp .Add) rCat := by
  intro pins s σ H x y v u Q I rx ry h
  obtain ⟨l, b, xs, zs, rfl, rfl, hH, hB, hz, q⟩ := h
  cases rx
  cases ry
  obtain ⟨z, its, n, r, hl, e⟩ := I.lstM hH
  obtain ⟨z2, its2, n2, r2, hl2, e2⟩ := I.lstM hB
  refine PySem.P.add_list e e2 ?_ (by rw [List.size_toArray, List.size_toArray]; omega)
  have ea : its.toArray ++ its2.toArray = (its ++ its2).toArray := by simp
  rw [ea]
  exact ⟨.ref _, _, I.lnew (t' := s.toks) (r.append r2) (by rw [List.length_append]; omega), rfl, q _ I.fresh⟩



end


section
variable {prog : Program} {w : World} {A : Around} {E : Value → Shared → Prop} {s : Shared}
set_option maxRecDepth 100000 in
end

section
variable {X : Cx}
end
end L2

namespace Att
open PySem PySem.W PySem.Calls PyProof.Rows


theorem ints_of_wellAll {P : Params} {h : Heap} : ∀ (ns : List Int) (vs : List Value), WellAll P h vs (ns.map WData.int) → IntsAre vs ns := by
  intro ns
  induction ns with
  | nil =>
    intro vs w
    rw [List.map_nil] at w
    cases w
    exact .nil
  | cons n ns ih =>
    intro vs w
    rw [List.map_cons] at w
    cases w with
    | cons a b =>
      cases a
      exact .cons _ _ (ih _ b)

theorem script_of {l : OpenLaw} {n : Nat} (hn : l.most = some n) {P : Params} {h : Heap} {args : List WData} {vals : List Value}
    (hpre : l.row.toRowW.claim.pre args = true) (hwl : WellAll P h vals args) :
    ∃ a vs ns, vals = [Value.ref a] ∧ args = [WData.list (ns.map WData.int)] ∧ h.get? a = some { cls := .type "list", data := .seq vs.toArray } ∧ IntsAre vs ns ∧ ns.length ≤ n := by
  have hsh : WShape.hasAll [] args [.list .int] = true := (pre_splitW hpre).1
  have hc : l.pre.holds [] { args := args } = true := (pre_splitW hpre).2
  obtain ⟨d, r, rfl, h1, h2⟩ := hasAllW_cons hsh
  obtain rfl := hasAllW_nil h2
  obtain ⟨xs, rfl, h3⟩ := hasW_list h1
  obtain ⟨ns, rfl⟩ := items_int h3
  have hlen : ns.length ≤ n := by
    unfold OpenLaw.pre at hc
    have h4 : (WTm.not (.lt (.lit (.int (n : Int))) (.len (.arg 0)))).holds [] { args := [.list (ns.map .int)] } = true := by
      have h4 := (holds_andW hc).1
      rw [hn] at h4
      exact h4
    have h5 := condW_of h4 (w_not (w_lt w_lit (w_len_list (w_arg rfl))))
    rw [List.length_map] at h5
    refine Nat.le_of_not_lt fun q => ?_
    have q' : (n : Int) < ((ns.length : Nat) : Int) := by omega
    first
      | (rw [decide_eq_true q'] at h5; exact absurd h5 (by decide))
      | (simp at h5; omega)
  cases hwl with
  | cons w1 w2 =>
    cases w2
    cases w1 with
    | list ho hall => exact ⟨_, _, ns, rfl, rfl, ho, ints_of_wellAll ns _ hall, hlen⟩

theorem post_true (l : OpenLaw) (args : List WData) : l.row.toRowW.claim.post args (.bool true) args = true :=
  postW_of (r := l.row.toRowW) (X := (true == true))
    (show WShape.has [] (.bool true) .bool = true by first | rfl | decide | simp [WShape.has, WShape.arms, WShape.armsAll])
    (show (WTm.eq .res (.lit (.bool true))).value [] { args := args, res := some (.bool true), after := args } = some (.bool (true == true)) from w_eq_bool (w_res rfl) w_lit) rfl




theorem attach_call {l : OpenLaw} {n : Nat} {q : Program} {loose : List Str} {XP : (Str → Option Value) → Heap → Prop} {YP : World → Heap → Prop} {d : DefRec}
    (hn : l.most = some n) (hdf : d.params.defaults = [])
    (call : ∀ (w : World) (s₀ s₁ : Shared) (mg mb : Str → Option Value) (fa : Addr) (o : Obj) (pm cd doc : Value) (a : Addr) (vs : List Value) (ns : List Int),
      Ground q loose [] XP w s₀ mg mb s₁.heap → YP w s₁.heap →
      s₁.heap.get? fa = some o → o.data = .func (docDef d.name d.params d.body d.scope pm cd doc) → s₁.heap.CodeRec cd d.name → mg d.name = some (.ref fa) →
      s₁.heap.get? a = some { cls := .type "list", data := .seq vs.toArray } → IntsAre vs ns → ns.length ≤ n → s₁.gens = #[] →
      codeAny (model l.prog w) callerA (.call (.ref fa) ⟨[.ref a], []⟩) (fun r s' => r = .ok (.ret (.bool true)) ∧ OldK s₁.heap s'.heap ∧ s'.os = s₁.os ∧ AllBare s'.gens) s₁) :
    WalkO q loose XP YP l.row.toRowW d [] (fun f vs => PySem.call f vs) := by
  intro w s₀ s₁ mg mb G Y fa o pm cd doc dV kV ho hd hcd hD hmg hg args vals as hpre hlay hrd hwl hlo
  obtain rfl : dV = .none := Dflts.none hD hdf
  obtain rfl : kV = .none := Dflts.noKw hD
  obtain ⟨a, vs, ns, rfl, rfl, hobj, hints, hlen⟩ := script_of hn hpre hwl
  refine enter_call (codeAny_mono (call w s₀ s₁ mg mb fa o pm cd doc a vs ns G Y ho (fd_plain hd) hcd hmg hobj hints hlen hg) fun r s' hq => ?_)
  obtain ⟨rfl, h2, h3, h4⟩ := hq
  exact ⟨.inl ⟨.bool true, .bool true, [], rfl, fun _ => rfl, .bool true, post_true l _, fun _ => ⟨List.Pairwise.nil, fun _ hm => (nomatch hm)⟩⟩, h2, h3, h4⟩



section
variable {prog : Program} {w : World} {A : Around} {E : Value → Shared → Prop} {s : Shared} {K : Frag}







end
end Att

namespace L2
open PySem PySem.Spec PyProof.Rows

theorem vals_ints : ∀ {vs : List Value} {ns : List Int}, IntsAre vs ns → Vals (ns.map V.int) vs
  | _, _, .nil => .nil
  | _, _, .cons n t h => .cons ⟨t, rfl⟩ (vals_ints h)


noncomputable def Only (H : Hp) : Prop := ∀ b, H b = none ∨ ∃ o xs, H b = some (.frz o (.lst xs))


theorem law_call {P : Program} {w : World} {K : PySem.W.Frag} {mg mb : Str → Option Value} {CX : CXT} {k : Nat} {fa a : Addr} {fd : FuncData} {x : Str} {sp : Sp} {s₁ : Shared} {vs : List Value} {ns : List Int}
    (KX : K.In s₁.heap) (hns : s₁.heap.Ns mainGlobals mg) (hb : s₁.heap.Ns builtinsNs mb) (hbb : ∀ x : Str, x ≠ "__name__" → mb x = bootBuiltins x) (hlim : s₁.heap.NoLimit) (hg : s₁.gens = #[])
    (ha : s₁.heap.get? a = some { cls := .type "list", data := .seq vs.toArray }) (hi : IntsAre vs ns) (hl : ns.length ≤ sizeLine) (hr : Room k callerA)
    (F : ∀ base : Heap, K.In base → base.Ns mainGlobals mg → FnOk P w K mg base CX k fa fd [x] sp) (hbind : ∀ (s : Shared) (u : Value), BindsTo s fd ⟨[u], []⟩ [(x, u)])
    (hsp : ∀ H : Hp, Only H → SqL K H a (ns.map V.int) → sp [.ref a] H (fun v _ => v = .bl true) fun _ _ _ => False)
    (hCX : ∀ H e s', CX [] H s₁ (fun _ _ _ => False) e s' → False) :
    codeAny (model P w) callerA (.call (.ref fa) ⟨[.ref a], []⟩) (fun r s' => r = .ok (.ret (.bool true)) ∧ OldK s₁.heap s'.heap ∧ s'.os = s₁.os ∧ AllBare s'.gens) s₁ := by
  have rv := vals_ints hi
  have lenV := hi.length
  -- from an abstract heap in which nothing but the script may be tracked
  have core : ∀ H : Hp, Only H → SqL K H a (ns.map V.int) → HOk P w H s₁.heap → (∀ b, H b ≠ none → b = a) → (H a ≠ none → K.lookup a = none) →
      codeAny (model P w) callerA (.call (.ref fa) ⟨[.ref a], []⟩) (fun r s' => r = .ok (.ret (.bool true)) ∧ OldK s₁.heap s'.heap ∧ s'.os = s₁.os ∧ AllBare s'.gens) s₁ := by
    intro H hO hS hok hA hK
    have base_of : ∀ {b : Addr} {o : Obj}, s₁.heap.get? b = some o → H b = none → (hidT s₁.heap H).get? b = some o := fun e n => hidT_get e n
    have noA : ∀ {b : Addr} {o : Obj} {es : Array DictEntry} {ep : Nat}, s₁.heap.get? b = some o → o.data = .dict es ep → H b = none := fun {b o es ep} e d => by
      cases q : H b with
      | none => rfl
      | some u =>
        have e' : b = a := hA b (by rw [q]; simp)
        subst e'
        rw [ha] at e; cases e
        have d' : Data.seq vs.toArray _ = Data.dict es ep := d
        cases d'
    have nsK : ∀ {b : Addr} {m : Str → Option Value}, s₁.heap.Ns b m → (hidT s₁.heap H).Ns b m := fun {b m} ⟨o, es, ep, e, d, r⟩ => ⟨o, es, ep, base_of e (noA e d), d, r⟩
    have hKb : K.In (hidT s₁.heap H) := fun b o e => base_of (KX b o e) (by
      cases q : H b with
      | none => rfl
      | some u =>
        have e' : b = a := hA b (by rw [q]; simp)
        subst e'
        rw [hK (by rw [q]; simp)] at e; cases e)
    have hM : Mod K mg (hidT s₁.heap H) := ⟨hKb, nsK hns, ⟨mb, nsK hb, hbb⟩, let ⟨mc, h1, h2⟩ := hlim; ⟨mc, nsK h1, h2⟩⟩
    have e0 : Env0 P w K mg (hidT s₁.heap H) callerA [] s₁ H := ⟨rfl, hM, fun b o e => of_hidT e, Nat.le_of_eq (hidT_size _ _), trivial, fun b hb => absurd (show b ∈ ([] : List Addr) from hb) (by simp), hok, .of_eq hg⟩
    refine codeAny_mono ((F _ hKb (nsK hns)).run callerA [] s₁ H ⟨[.ref a], []⟩ [.ref a] [.ref a] _ _ hr e0 (hbind s₁ (.ref a)) (.cons rfl .nil) (hsp H hO hS)) fun r s' h => ?_
    cases r with
    | error e => exact (hCX H e s' h).elim
    | ok fl =>
      cases fl with
      | next => exact False.elim h
      | brk => exact False.elim h
      | cont => exact False.elim h
      | ret u =>
        obtain ⟨v, H', os, bare, un, hok', r', q⟩ := h
        have q' : v = .bl true := q
        subst q'
        obtain rfl : u = Value.bool true := r'
        refine ⟨rfl, OldK.of_keep fun b o e => ?_, os, bare⟩
        cases q : H b with
        | none => exact un.keep b o e q (by intro z; exact absurd (show b ∈ ([] : List Addr) from z) (by simp)) (by simp)
        | some u =>
          rcases hO b with z | ⟨ob, xs, z⟩
          · rw [q] at z; cases z
          · have z2 := un.frzs b ob _ z
            obtain ⟨e1, _⟩ := hok b _ z
            obtain ⟨e2, _⟩ := hok' b _ z2
            rw [e] at e1; cases e1
            exact e2
  cases hk : K.lookup a with
  | some o =>
    -- the script is one of the module's own objects
    have e := KX a o hk
    rw [ha] at e
    cases e
    refine core (fun _ => none) (fun _ => .inl rfl) (.inr ⟨_, vs.toArray, _, hk, rfl, rfl, rfl, by rw [List.size_toArray, lenV]; exact hl, by simpa using rv⟩) (fun b u z => by have z' : (none : Option HO) = some u := z; cases z') (fun b z => absurd rfl z) fun z => absurd rfl z
  | none =>
    refine core (fun b => if b = a then some (.frz { cls := .type "list", data := .seq vs.toArray } (.lst (ns.map V.int))) else none) (fun b => ?_) (.inl (.inr ⟨{ cls := .type "list", data := .seq vs.toArray }, if_pos rfl⟩)) (fun b u z => ?_) (fun b z => ?_) fun _ => hk
    · by_cases hb : b = a
      · exact .inr ⟨_, _, if_pos hb⟩
      · exact .inl (if_neg hb)
    · by_cases hb : b = a
      · have z' := (if_pos hb).symm.trans z
        cases z'
        subst hb
        exact ⟨ha, by rw [List.length_map]; exact hl, vs, _, rv, ha⟩
      · have z' := (if_neg hb).symm.trans z
        cases z'
    · by_cases hb : b = a
      · exact hb
      · exact absurd (if_neg hb) z
end L2

namespace L2
open PySem PySem.Spec PyProof.Rows



theorem walk_of {l : PySem.W.OpenLaw} {n k : Nat} {q : Program} {loose : List Str} {XP : (Str → Option Value) → Heap → Prop} {YP : World → Heap → Prop} {d : DefRec} {K : Params → PySem.W.Frag} {CX : World → CXT} {sp : World → Sp} {x : Str}
    (hn : l.most = some n) (hn2 : n ≤ sizeLine) (hdf : d.params.defaults = []) (hr : Room k callerA)
    (hY : ∀ (w : World) (h : Heap), YP w h → (K w.params).In h)
    (F : ∀ (w : World) (mg : Str → Option Value) (fa : Addr) (h : Heap), (K w.params).In h → h.Ns mainGlobals mg → mg d.name = some (.ref fa) →
      ∃ fd : FuncData, (∀ (s : Shared) (u : Value), BindsTo s fd ⟨[u], []⟩ [(x, u)]) ∧
        ∀ base : Heap, (K w.params).In base → base.Ns mainGlobals mg → FnOk l.prog w (K w.params) mg base (CX w) k fa fd [x] (sp w))
    (hsp : ∀ (w : World) (H : Hp) (a : Addr) (ns : List Int), ns.length ≤ n → Only H → SqL (K w.params) H a (ns.map V.int) → sp w [.ref a] H (fun v _ => v = .bl true) fun _ _ _ => False)
    (hCX : ∀ (w : World) (H : Hp) (s : Shared) (e : Value) (s' : Shared), CX w [] H s (fun _ _ _ => False) e s' → False) :
    PySem.W.WalkO q loose XP YP l.row.toRowW d [] (fun f vs => PySem.call f vs) := by
  refine Att.attach_call hn hdf fun w s₀ s₁ mg mb fa o pm cd doc a vs ns G Y ho hd hcd hmg hobj hints hlen hg => ?_
  have KX := hY w _ Y
  obtain ⟨fd, hb, hF⟩ := F w mg fa _ KX G.T.g hmg
  exact law_call KX G.T.g G.T.b G.T.builtins G.T.nolimit hg hobj hints (Nat.le_trans hlen hn2) hr hF hb (fun H hO hS => hsp w H a ns hlen hO hS) fun H e s' => hCX w H s₁ e s'
end L2

/- THE LAST THEOREM (shape; LID, My.* are yours):
   My.Adr: a structure of the addresses that your layer names (classes, functions); My.Txt K t: a structure (Prop) of the equations over K;
   My.txt_mk : {K} {implicit addresses ..} (e1 : nsIn K mainGlobals "law" = some (some (.ref f))) (e2 : K.lookup f = some ⟨oc, od, .func (fnOf "law" "law" params body scope dV kV doc pm an cdv ct), sl⟩) (e3 : codeIn K cdv "law" = true) .. : ∃ t, My.Txt K t

set_option maxRecDepth 100000 in
set_option maxHeartbeats 0 in
(the tactic k_is has no namespace: write k_is) -/


namespace L2
open PySem PySem.Spec PyProof.Rows



noncomputable def defArgs (s : Stmt) : Arguments := match s with
  | .FunctionDef _ a _ _ _ _ _ _ _ _ => a
  | _ => { posonlyargs := [], args := [], vararg := none, kwonlyargs := [], kw_defaults := [], kwarg := none, defaults := [] }
noncomputable def defBody (s : Stmt) : List Stmt := match s with
  | .FunctionDef _ _ b _ _ _ _ _ _ _ => b
  | _ => []
noncomputable def defScope (s : Stmt) : Scope := match s with
  | .FunctionDef _ _ _ _ _ _ sc _ _ _ => sc
  | _ => { kind := .function, names := [], isGenerator := false, isCoroutine := false }


noncomputable abbrev CX0 : CXT := fun _ _ _ _ _ _ => False
noncomputable abbrev E0 : XK := fun _ _ _ => False
theorem pass0 {X : Cx} : Passes CX0 X E0 := fun _ _ _ _ _ _ _ h => h.elim


structure Fun (K : PySem.W.Frag) (x qual : Str) (st : Stmt) (f : Addr) (fd : FuncData) : Prop where
  ex : ∃ (oc : Value) (od : Option Addr) (kV doc pm : Value) (an : Option Addr) (cdv ct : Value) (osl : Array (Option Value)),
    fd = PySem.W.fnOf x qual (defArgs st) (defBody st) (defScope st) .none kV doc pm an cdv ct ∧ K.lookup f = some ⟨oc, od, .func fd, osl⟩ ∧ PySem.W.codeIn K cdv qual = true
  kp : PySem.W.keepIn K (.ref f) = true
section
variable {P : Program} {w : World} {K : PySem.W.Frag} {mg : Str → Option Value} {base : Heap}

theorem Fun.ok {x qual : Str} {st : Stmt} {f : Addr} {fd : FuncData} {N ps : List Str} {k : Nat} {sp : Sp} (F : Fun K x qual st f fd) (S : FnScope N ps (defScope st)) (len : ∀ vs H Q E, sp vs H Q E → vs.length = ps.length)
    (hbody : ∀ (cdv : Value) (A : Around) (outer : List Env) (s : Shared) (H : Hp) (vs : List V) (Q : VK) (E : XK), Room k (A.deeper (envOfC qual (defScope st) s.heap.objs.size f cdv)) → sp vs H Q E →
      ∃ t, PSs (cxOf CX0 P w K mg base N qual (defScope st) f cdv A outer s H E).nox (defBody st) t ∧ t { nx := fun _ H' => Q .non H', rt := Q } (start N vs) H) : FnOk P w K mg base CX0 (k + 1) f fd ps sp := by
  obtain ⟨oc, od, kV, doc, pm, an, cdv, ct, osl, rfl, lk, hcd⟩ := F.ex
  refine fn_of lk hcd S len fun A outer s H vs Q E hr hsp => ?_
  obtain ⟨t, h, q⟩ := hbody cdv A outer s H vs Q E hr hsp
  exact ⟨t, h.nox, q⟩

theorem Fun.binds {x qual : Str} {st : Stmt} {f : Addr} {fd : FuncData} {ps : List Str} (F : Fun K x qual st f fd)
    (h : ∀ (kV doc pm : Value) (an : Option Addr) (cdv ct : Value) (us : List Value), us.length = ps.length → bindArgs (PySem.W.fnOf x qual (defArgs st) (defBody st) (defScope st) .none kV doc pm an cdv ct) ⟨us, []⟩ = pure (ps.zip us)) : Binds K fd ps [] := by
  obtain ⟨oc, od, kV, doc, pm, an, cdv, ct, osl, rfl, lk, hcd⟩ := F.ex
  exact .all (h kV doc pm an cdv ct)
theorem fun_mk {x qual : Str} {st : Stmt} {f : Addr} {oc : Value} {od an : Option Addr} {osl : Array (Option Value)} {kV doc pm cdv ct : Value} (l : K.lookup f = some ⟨oc, od, .func (PySem.W.fnOf x qual (defArgs st) (defBody st) (defScope st) .none kV doc pm an cdv ct), osl⟩)
    (c : PySem.W.codeIn K cdv qual = true) (k : PySem.W.keepIn K (.ref f) = true) : Fun K x qual st f (PySem.W.fnOf x qual (defArgs st) (defBody st) (defScope st) .none kV doc pm an cdv ct) := ⟨⟨oc, od, kV, doc, pm, an, cdv, ct, osl, rfl, l, c⟩, k⟩
end
theorem small1000 {n : Nat} (h : n ≤ 1000) : n < sizeLine := Nat.lt_of_le_of_lt h (by decide)


section
variable {X : Cx}
theorem pv (i : Nat) {x : Str} {pos : Pos} (hN : X.N[i]? = some x := by rfl) (hv : Vis X.env.scope x := by first | exact Or.inl rfl | exact Or.inr (Or.inl rfl) | exact Or.inr (Or.inr rfl)) (hd : (x == ("__debug__" : Str)) = false := by decide)
    (hcd : (x == ("__classdict__" : Str)) = false := by decide) : PE X (.Name x pos) (tVar i) := pe_var hN hv hd hcd
end


theorem iteF {A B : Prop} (h : B) : if false = true then A else B := by
  rw [if_neg Bool.false_ne_true]
  exact h
theorem iteT {A B : Prop} (h : A) : if true = true then A else B := by
  rw [if_pos rfl]
  exact h
theorem ite2 {c A B : Prop} [Decidable c] (h1 : c → A) (h2 : ¬ c → B) : if c then A else B := by
  by_cases h : c
  · rw [if_pos h]
    exact h1 h
  · rw [if_neg h]
    exact h2 h



noncomputable def Same (H H' : Hp) : Prop := ∀ b o, H b = some o → H' b = some o
theorem Same.refl (H : Hp) : Same H H := fun _ _ h => h
theorem Same.trans {H H1 H2 : Hp} (a : Same H H1) (b : Same H1 H2) : Same H H2 := fun c o h => b c o (a c o h)
theorem Same.free {H H' : Hp} (e : Same H H') {l : Addr} (h : H' l = Option.none) : H l = Option.none := by
  cases q : H l with
  | none => rfl
  | some o =>
    rw [e l o q] at h
    cases h
theorem Same.seq {K : PySem.W.Frag} {H H' : Hp} {a : Addr} {xs : List V} (e : Same H H') (h : SqL K H a xs) : SqL K H' a xs := by
  rcases h with (h | ⟨o, h⟩) | h
  · exact .inl (.inl (e _ _ h))
  · exact .inl (.inr ⟨o, e _ _ h⟩)
  · exact .inr h

end L2


namespace L2
open PySem PySem.Spec PyProof.Rows


noncomputable def closOf (cells : List (Str × Addr)) : List (Str × NameKind) → List (Str × Addr) → List (Str × Addr)
  | [], cs => cs
  | (n, k) :: r, cs => closOf cells r (if (k == .free) = true then (match cells.lookup n with | some a => (n, a) :: cs | none => cs) else cs)
theorem closOf_good {cells : List (Str × Addr)} : ∀ (names : List (Str × NameKind)) (cs : List (Str × Addr)), (∀ x c, cs.lookup x = some c → cells.lookup x = some c) →
    ∀ x c, (closOf cells names cs).lookup x = some c → cells.lookup x = some c
  | [], _, h => h
  | (n, k) :: r, cs, h => by
    refine closOf_good r _ fun x c e => ?_
    split at e
    · split at e
      · rename_i a ha
        rw [List.lookup_cons] at e
        split at e
        · rename_i hx
          have hx' : x = n := by simpa using hx
          subst hx'
          cases e
          exact ha
        · exact h x c e
      · exact h x c e
    · exact h x c e
theorem closOf_keep {cells : List (Str × Addr)} : ∀ (names : List (Str × NameKind)) (cs : List (Str × Addr)) (x : Str), (cs.lookup x).isSome = true → ((closOf cells names cs).lookup x).isSome = true
  | [], _, _, h => h
  | (n, k) :: r, cs, x, h => by
    refine closOf_keep r _ x ?_
    split
    · split
      · rw [List.lookup_cons]
        split
        · rfl
        · exact h
      · exact h
    · exact h
theorem closOf_has {cells : List (Str × Addr)} : ∀ (names : List (Str × NameKind)) (cs : List (Str × Addr)) (x : Str), (x, NameKind.free) ∈ names → (cells.lookup x).isSome = true → ((closOf cells names cs).lookup x).isSome = true
  | [], _, _, h, _ => by cases h
  | (n, k) :: r, cs, x, h, hc => by
    rcases List.mem_cons.mp h with e | h
    · cases e
      refine closOf_keep r _ _ ?_
      obtain ⟨a, ha⟩ := Option.isSome_iff_exists.mp hc
      rw [if_pos (by rfl), ha]
      simp
    · exact closOf_has r _ x h hc
theorem closureFor_eq {scope : Scope} {env : Env} (h : ∀ x ∈ scope.names, x.2 = .free → ∃ c, env.cells.lookup x.1 = some c) : closureFor scope env = pure (closOf env.cells scope.names []) := by
  have key : ∀ (l : List (Str × NameKind)) (cs : List (Str × Addr)), (∀ x ∈ l, x.2 = .free → ∃ c, env.cells.lookup x.1 = some c) →
      (forIn l cs fun (x : Str × NameKind) (r : List (Str × Addr)) => (match x with | (name, kind) => if (kind == NameKind.free) = true then (do let a ← cellOf env name; pure (ForInStep.yield ((name, a) :: r)) : Sem (ForInStep (List (Str × Addr)))) else pure (ForInStep.yield r))) = (pure (closOf env.cells l cs) : Sem (List (Str × Addr))) := by
    intro l
    induction l with
    | nil => intro cs _; rfl
    | cons x r ih =>
      intro cs hx
      obtain ⟨n, k⟩ := x
      have ih' := fun cs => ih cs fun y hy => hx y (List.mem_cons_of_mem _ hy)
      rw [List.forIn_cons]
      unfold closOf
      by_cases hk : (k == NameKind.free) = true
      · obtain ⟨c, hc⟩ := hx (n, k) List.mem_cons_self (by simpa using hk)
        dsimp only at hc
        simp only [hk, if_true, cellOf, hc]
        exact ih' _
      · simp only [hk, Bool.false_eq_true, if_false]
        exact ih' _
  have e := key scope.names [] h
  show (do let r ← forIn scope.names [] _; pure r) = _
  refine Eq.trans (congrArg (fun m : Sem (List (Str × Addr)) => m >>= fun r => pure r) e) ?_
  rfl

theorem lookup_relabel {env : Env} : ∀ {names : List (Str × NameKind)} {x : Str}, (∀ y ∈ names, y.2 ≠ NameKind.cell) →
    (names.map fun (n, k) => if (k == NameKind.free && env.scope.kind == .function && env.kindOf n == some .cell) then (n, NameKind.cell) else (n, k)).lookup x = some .cell ∨
    (names.map fun (n, k) => if (k == NameKind.free && env.scope.kind == .function && env.kindOf n == some .cell) then (n, NameKind.cell) else (n, k)).lookup x = some .free → names.lookup x = some .free
  | [], _, _, h => by simp at h
  | (n, k) :: r, x, hn, h => by
    have ih := @lookup_relabel env r x fun y hy => hn y (List.mem_cons_of_mem _ hy)
    have hk : k ≠ NameKind.cell := hn (n, k) List.mem_cons_self
    by_cases hx : (x == n) = true
    · simp only [List.map_cons, List.lookup_cons] at h ⊢
      simp only [hx]
      by_cases hc : (k == NameKind.free && env.scope.kind == .function && env.kindOf n == some .cell) = true
      · have : k = NameKind.free := by
          simp only [Bool.and_eq_true] at hc
          simpa using hc.1.1
        rw [this]
      · simp only [hc, List.lookup_cons, Bool.false_eq_true, if_false, hx] at h
        rcases h with h | h
        · exact absurd (Option.some.inj h) hk
        · exact h
    · have hx' : (x == n) = false := by simpa using hx
      simp only [List.map_cons, List.lookup_cons] at h ⊢
      simp only [hx']
      refine ih ?_
      by_cases hc : (k == NameKind.free && env.scope.kind == .function && env.kindOf n == some .cell) = true
      · simpa only [hc, List.lookup_cons, if_true, hx'] using h
      · simpa only [hc, List.lookup_cons, Bool.false_eq_true, if_false, hx'] using h
theorem lookup_relabel_free {env : Env} : ∀ {names : List (Str × NameKind)} {x : Str}, names.lookup x = some .free →
    (names.map fun (n, k) => if (k == NameKind.free && env.scope.kind == .function && env.kindOf n == some .cell) then (n, NameKind.cell) else (n, k)).lookup x = some .cell ∨
    (names.map fun (n, k) => if (k == NameKind.free && env.scope.kind == .function && env.kindOf n == some .cell) then (n, NameKind.cell) else (n, k)).lookup x = some .free
  | [], _, h => by simp at h
  | (n, k) :: r, x, h => by
    have ih := @lookup_relabel_free env r x
    by_cases hx : (x == n) = true
    · simp only [List.lookup_cons, hx] at h
      simp only [List.map_cons, List.lookup_cons]
      by_cases hc : (k == NameKind.free && env.scope.kind == .function && env.kindOf n == some .cell) = true
      · simp only [hc, List.lookup_cons, if_true, hx]
        exact .inl trivial
      · simp only [hc, List.lookup_cons, Bool.false_eq_true, if_false, hx]
        exact .inr h
    · have hx' : (x == n) = false := by simpa using hx
      simp only [List.lookup_cons, hx'] at h
      simp only [List.map_cons, List.lookup_cons]
      by_cases hc : (k == NameKind.free && env.scope.kind == .function && env.kindOf n == some .cell) = true
      · simp only [hc, List.lookup_cons, if_true, hx']
        exact ih h
      · simp only [hc, List.lookup_cons, Bool.false_eq_true, if_false, hx']
        exact ih h


noncomputable abbrev compCx (X : Cx) (scope : Scope) (N : List Str) (C : Addr) (s₃ : Shared) (H₃ : Hp) (fp : List Addr) : Cx where
  prog := X.prog
  w := X.w
  K := X.K
  mg := X.mg
  base := X.base
  A := X.A
  N := N
  s₀ := s₃
  H₀ := H₃
  env := compEnvC scope (closOf X.env.cells scope.names []) C X.env
  outer := X.stack
  stack := X.stack
  ex := fp
  fn := fun _ => false
  calm := X.calm
  pn := []
  xe := fun _ _ => False

noncomputable def cst (js : List (Option Nat)) (σ : St) : St := js.map fun j => match j with
  | none => none
  | some k => σ.getD k none
noncomputable def jsOk (M : List Str) (names : List (Str × NameKind)) : List Str → List (Option Nat) → Bool
  | [], [] => true
  | x :: N, j :: js => (match j with
    | none => true
    | some k => M[k]? == some x && names.lookup x == some .free) && jsOk M names N js
  | _, _ => false
theorem jsOk_length {M : List Str} {names : List (Str × NameKind)} : ∀ {N : List Str} {js : List (Option Nat)}, jsOk M names N js = true → js.length = N.length
  | [], [], _ => rfl
  | x :: N, j :: js, h => by
    unfold jsOk at h
    rw [Bool.and_eq_true] at h
    simp [jsOk_length h.2]
  | [], _ :: _, h => by cases h
  | _ :: _, [], h => by cases h
theorem jsOk_get {M : List Str} {names : List (Str × NameKind)} : ∀ {N : List Str} {js : List (Option Nat)}, jsOk M names N js = true → ∀ (i : Nat) (k : Nat) (x : Str), js[i]? = some (some k) → N[i]? = some x → M[k]? = some x ∧ names.lookup x = some .free
  | [], [], _ => fun i k x e _ => by simp at e
  | y :: N, j :: js, h => fun i k x e1 e2 => by
    unfold jsOk at h
    rw [Bool.and_eq_true] at h
    cases i with
    | zero =>
      simp at e1 e2
      subst e1
      subst e2
      have h1 := h.1
      simp only [Bool.and_eq_true] at h1
      exact ⟨by simpa using h1.1, by simpa using h1.2⟩
    | succ i => exact jsOk_get h.2 i k x (by simpa using e1) (by simpa using e2)
  | [], _ :: _, h => by cases h
  | _ :: _, [], h => by cases h
noncomputable def compOk (M : List Str) (around scope : Scope) (N : List Str) (js : List (Option Nat)) : Bool :=
  (scope.kind == .function) && (scope.names.all fun x => !(x.2 == .cell)) && (scope.names.all fun x => !(x.2 == .local) || scope.names.lookup x.1 == some .local) &&
  (scope.names.all fun x => !(x.2 == .free) || (around.names.lookup x.1 == some .cell || around.names.lookup x.1 == some .free)) && jsOk M scope.names N js
structure CompOk (M : List Str) (around scope : Scope) (N : List Str) (js : List (Option Nat)) : Prop where
  kind : scope.kind = .function
  nocell : ∀ x ∈ scope.names, x.2 ≠ .cell
  locs : ∀ x ∈ scope.names, x.2 = .local → scope.names.lookup x.1 = some .local
  frees : ∀ x ∈ scope.names, x.2 = .free → around.names.lookup x.1 = some .cell ∨ around.names.lookup x.1 = some .free
  js : jsOk M scope.names N js = true
theorem CompOk.of {M : List Str} {around scope : Scope} {N : List Str} {js : List (Option Nat)} (h : compOk M around scope N js = true) : CompOk M around scope N js := by
  unfold compOk at h
  simp only [Bool.and_eq_true, List.all_eq_true] at h
  obtain ⟨⟨⟨⟨h1, h2⟩, h3⟩, h4⟩, h5⟩ := h
  refine ⟨by simpa using h1, fun x hx e => ?_, fun x hx e => ?_, fun x hx e => ?_, h5⟩
  · have := h2 x hx
    rw [e] at this
    cases this
  · have := h3 x hx
    rw [e] at this
    simpa using this
  · have := h4 x hx
    rw [e] at this
    simpa using this

noncomputable def Ext (σ σ' : St) : Prop := σ.length = σ'.length ∧ ∀ (i : Nat) v, σ[i]? = some (some v) → σ'[i]? = some (some v)
theorem Ext.set {σ : St} {i : Nat} {v : V} (h : σ[i]? = some none) : Ext σ (σ.set i (some v)) := by
  refine ⟨by simp, fun j w e => ?_⟩
  by_cases hj : i = j
  · subst hj
    rw [h] at e
    cases e
  · rw [List.getElem?_set_ne hj]
    exact e

noncomputable def PTs (X : Cx) (ifs : List Expr) (t : TT) : Prop :=
  ∀ (pins : List (Addr × Obj)) (s : Shared) (σ : St) (H : Hp) (Q : Bool → Hp → Prop), Inv X pins σ H s → t σ H Q →
    wpAny (model X.prog X.w) X.A (forIn ifs true fun c r => if r = true then do let ok ← isTrue c X.env (eval c X.env); pure (ForInStep.yield ok) else pure (ForInStep.yield r)) (TP X pins σ Q) X.xe s
noncomputable def tYes : TT := fun _ H Q => Q true H
theorem pts_nil {X : Cx} : PTs X [] tYes := fun _ _ _ H _ I h => wpAny_pure ⟨H, I, h⟩

noncomputable def tBlock (js : List (Option Nat)) (g : TG) (tc : TT) (te : TE) (σ : St) (R : VK) (J : It) (H1 : Hp) : Prop := ∀ D, H1 D = none → ∃ W : Nat → Nat → List V → Hp → Prop, (∃ m, W 0 m [] (upd H1 D (.lst []))) ∧
  ∀ i m ys H2, W i m ys H2 → H2 D = some (.lst ys) → (J.stop i H2 ∧ R (.ref D) H2) ∨ (J.go i H2 ∧ ∀ x H3, J.yld i H2 x H3 → g x (cst js σ) H3 fun σ2 H4 => Ext (cst js σ) σ2 ∧ tc σ2 H4 fun c H5 =>
    if c = true then te σ2 H5 fun y H6 => H6 D = some (.lst ys) ∧ ys.length < sizeLine ∧ ∃ m', m' < m ∧ W (i + 1) m' (ys ++ [y]) (upd H6 D (.lst (ys ++ [y]))) else H5 D = some (.lst ys) ∧ ∃ m', m' < m ∧ W (i + 1) m' ys H5)
noncomputable def tComp (js : List (Option Nat)) (wi : TI) (g : TG) (tc : TT) (te : TE) : TE := fun σ H Q => wi σ H fun J H1 => tBlock js g tc te σ Q J H1

section
variable {prog : Program} {w : World} {A : Around} {R : Result → Shared → Prop} {s : Shared}
theorem codeAny_compLoop_go {elt target iter : Expr} {ifs : List Expr} {scope : Scope} {pos : Pos} {it acc : Value} {env : Env} (I : Nat → Shared → Prop)
    (turn : ∀ n s, I n s → wpAny (model prog w) A (pyNext it) (fun r s₁ => match r with
      | none => R (.ok .next) s₁
      | some v => wpAny (model prog w) A (letOwnedTupleGo target it v) (fun _ s₁' => wpAny (model prog w) A (assign target env v) (fun _ s₂ =>
          wpAny (model prog w) A (forIn ifs true fun c r => if r = true then do let ok ← isTrue c env (eval c env); pure (ForInStep.yield ok) else pure (ForInStep.yield r)) (fun ok s₃ =>
            if ok = true then wpAny (model prog w) A (eval elt env) (fun x s₄ =>
              wpAny (model prog w) A (call (.builtin "list.append") [acc, x]) (fun _ s₅ => ∃ m, m < n ∧ I m s₅) (fun _ _ => False) s₄) (fun _ _ => False) s₃
            else ∃ m, m < n ∧ I m s₃) (fun _ _ => False) s₂) (fun _ _ => False) s₁') (fun _ _ => False) s₁) (fun _ _ => False) s)
    (n : Nat) (h : I n s) :
    codeAny (model prog w) A (.compLoop (.ListComp elt [⟨target, iter, ifs, 0⟩] scope pos) 0 it acc env) R s := by
  refine codeAny_loop rfl I (fun n s hI => ?_) n h
  show wpAny _ A ((compTurn (.ListComp elt [⟨target, iter, ifs, 0⟩] scope pos) 0 it acc env).onRaise (fun x => do noteFrame x env; theTreesLotGoes x)) _ _ s
  refine wpAny_noted ?_
  rw [compTurn_list]
  have up : ∀ {α : Type} {t : Sem α} {Q : α → Shared → Prop} {s : Shared}, wpAny (model prog w) A t Q (fun _ _ => False) s →
      wpAny (model prog w) A t Q (notedBy (model prog w) A env fun e s' => R (.error e) s') s := fun h => wpAny_mono h (fun _ _ x => x) fun _ _ z => False.elim z
  refine wpAny_bind (wpAny_standAt (wpAny_bind (wpAny_mono (up (turn n s hI)) (fun r s₁ h₁ => ?_) fun _ _ h' => h')))
  cases r with
  | none => exact wpAny_pure h₁
  | some v =>
    refine wpAny_bind (wpAny_mono (up h₁) (fun _ s₁' h₁' => ?_) fun _ _ h' => h')
    refine wpAny_bind (wpAny_mono (up h₁') (fun _ s₂ h₂ => wpAny_bind (wpAny_mono (up h₂) (fun ok s₃ h₃ => ?_) fun _ _ h' => h')) fun _ _ h' => h')
    cases ok with
    | false => exact wpAny_pure ⟨rfl, h₃⟩
    | true =>
      exact wpAny_bind (wpAny_bind (wpAny_mono (up h₃) (fun x s₄ h₄ => wpAny_bind (wpAny_mono (up h₄) (fun _ s₅ h₅ => wpAny_pure (wpAny_pure ⟨rfl, h₅⟩)) fun _ _ h' => h')) fun _ _ h' => h'))
end

section
variable {X : Cx} {elt iter tg : Expr} {ifs : List Expr} {scope : Scope} {pos cpos : Pos} {N : List Str} {js : List (Option Nat)} {wi : TI} {g : TG} {tc : TT} {te : TE}
theorem comp_run {use : Option (Value → Sem Unit)} (hok : CompOk X.N X.env.scope scope N js) (hc : X.calm = true) (hi : PI X tg iter wi)
    (hg : ∀ C s₃ H₃ fp, PG (compCx X scope N C s₃ H₃ fp) tg g) (ht : ∀ C s₃ H₃ fp, PTs (compCx X scope N C s₃ H₃ fp) ifs tc) (he : ∀ C s₃ H₃ fp, PE (compCx X scope N C s₃ H₃ fp) elt te)
    {pins : List (Addr × Obj)} {s : Shared} {σ : St} {H : Hp} {R : VK} {Q : Value → Shared → Prop} (I : Inv X pins σ H s) (h : tComp js wi g tc te σ H R)
    (hend : ∀ C D s' H', Inv X pins σ H' s' → R (.ref D) H' → (∃ m, s'.heap.Ns C m) → FpOk X pins H' C → compPost (model X.prog X.w) X.A X.xe use Q (.ref D) C (.ok .next) s')
    (hs : ∀ x, foldedSetIterable iter X.env x = pure x := by intro _; rfl) :
    wpAny (model X.prog X.w) X.A (comprehension (.ListComp elt [⟨tg, iter, ifs, 0⟩] scope pos) scope X.env cpos (newList []) false (eval iter X.env) use) Q X.xe s := by
  have hcells : ∀ x ∈ scope.names, x.2 = .free → ∃ c, X.env.cells.lookup x.1 = some c := fun x hx e => I.ok.has x.1 (hok.frees x hx e)
  refine wpAny_comprehension_free (use := use) rfl hs (closureFor_eq hcells) hok.kind hok.locs ?_
  refine thn (hi pins s σ H _ I h) fun xv s1 h1 => thn h1 fun itv s2 h2 => ?_
  obtain ⟨it, fp, tn, J, H2, e, I2, T, st2, f2, hR⟩ := h2
  subst e
  refine wpAny_newObj_type ?_
  obtain ⟨W, ⟨m0, w0⟩, turn⟩ := hR s2.heap.objs.size I2.fresh
  have I3 : Inv X pins σ (upd H2 s2.heap.objs.size (.lst [])) { s2 with heap := s2.heap.push { cls := .type "list", dict := none, data := .seq ([] : List Value).toArray } } := I2.lnew (t' := s2.toks) .nil (Nat.zero_le _)
  have lt2 : ∀ b ∈ fp, b < s2.heap.objs.size := fun b hb => by
    obtain ⟨o, ho, _⟩ := T.obj _ _ st2 b hb
    exact Heap.lt_size ho
  have st3 : tn 0 (s2.heap.push { cls := .type "list", dict := none, data := .seq ([] : List Value).toArray }) := T.keep _ _ _ st2 fun b _ o e => Heap.get?_push_of_some _ e
  have lt3 : ∀ b ∈ fp, b < (s2.heap.push { cls := .type "list", dict := none, data := .seq ([] : List Value).toArray }).objs.size := fun b hb => by
    rw [Heap.size_push]
    exact Nat.lt_succ_of_lt (lt2 b hb)
  have fr3 : ∀ b ∈ fp, upd H2 s2.heap.objs.size (.lst []) b = none := fun b hb => by
    rw [upd_ne (Nat.ne_of_lt (lt2 b hb))]
    exact (f2 b hb).1
  have hD3 : upd H2 s2.heap.objs.size (.lst []) s2.heap.objs.size = some (.lst []) := upd_same
  generalize hs3 : ({ s2 with heap := s2.heap.push { cls := .type "list", dict := none, data := .seq ([] : List Value).toArray } } : Shared) = s3 at I3 ⊢
  have eh3 : s3.heap = s2.heap.push { cls := .type "list", dict := none, data := .seq ([] : List Value).toArray } := by rw [← hs3]
  rw [← eh3] at st3 lt3
  generalize upd H2 s2.heap.objs.size (.lst []) = H3 at I3 w0 fr3 hD3
  generalize s2.heap.objs.size = D at turn hD3 ⊢
  refine wpAny_newFunctionEnv hok.nocell (by intro y hy; simp at hy) (fun h4 ns4 sb4 => ?_) hok.kind
  have old : ∀ b o, s3.heap.get? b = some o → h4.get? b = some o := fun b o e => sb4.extBut b o (Nat.ne_of_lt (Heap.lt_size e)) (Heap.get?_push_of_some _ e)
  have good := closOf_good (cells := X.env.cells) scope.names [] (fun x c e => by simp at e)
  have hasc : ∀ x, scope.names.lookup x = some .free → ∃ c, (closOf X.env.cells scope.names []).lookup x = some c := fun x e => by
    have hm := PySem.mem_of_lookup e
    obtain ⟨c, hc⟩ := hcells _ hm rfl
    exact Option.isSome_iff_exists.mp (closOf_has scope.names [] x hm (by rw [hc]; rfl))
  have I4 : Inv (compCx X scope N s3.heap.objs.size s3 H3 fp) [] (cst js σ) H3 { s3 with heap := h4, toks := s3.toks + ([] : List (Str × Value)).length } := by
    refine ⟨⟨I3.mod, hok.kind, I3.ok.glob, I3.ok.blt, Nat.le_refl _, fun x y c e1 e2 => I3.ok.inj x y c (good x c e1) (good y c e2), fun x hx => hasc x (lookup_relabel hok.nocell hx), (fun x c e => by cases e), I3.ok.hd, I3.ok.frames, .inl rfl, fun b hb => ⟨Nat.ne_of_lt (lt3 b hb), fun x c e => (f2 b hb).2.2.2.2.1 x c (good x c e)⟩,
        fun b o e => I3.bs b o e, Nat.le_trans I3.ok.bsz I3.sz, fun b o e hb => ?_, fun b hb z => ?_, I3.stack, I3.stkFree⟩,
      rfl, I3.bare, Un.kept old, ⟨_, ns4, fun i x v e1 e2 e3 => ?_⟩, fun x c e => ?_, I3.fresh, fun x c e => I3.freeC x c (good x c e), (fun p hp => by cases hp), I3.hok.kept old, ?_⟩
    · rcases (f2 b hb).2.2.2.1 with z | z
      · exact I3.ok.noex b o e z
      · exact absurd (Nat.lt_of_lt_of_le (Heap.lt_size e) (Nat.le_trans I3.ok.bsz z)) (Nat.lt_irrefl _)
    · rcases List.mem_cons.mp (I3.stkSub b z) with z | z
      · exact (f2 b hb).2.1 z
      · exact (f2 b hb).2.2.1 z
    · have e2' : (js.map fun j => match j with | none => (none : Option V) | some k => σ.getD k none)[i]? = some (some v) := e2
      rw [List.getElem?_map] at e2'
      cases ej : js[i]? with
      | none => rw [ej] at e2'; cases e2'
      | some j =>
        rw [ej] at e2'
        cases j with
        | none => cases e2'
        | some k =>
          have eσ : σ.getD k none = some v := Option.some.inj e2'
          obtain ⟨hk, hfr⟩ := jsOk_get hok.js i k x ej e1
          have eσ' : σ[k]? = some (some v) := by
            rw [List.getD_eq_getElem?_getD] at eσ
            cases ek : σ[k]? with
            | none => rw [ek] at eσ; cases eσ
            | some o => rw [ek] at eσ; simp at eσ; rw [eσ]
          have hvis := hok.frees _ (PySem.mem_of_lookup hfr) rfl
          obtain ⟨m, hn, hl⟩ := I3.loc
          obtain ⟨u, r, l⟩ := hl k x v hk eσ' (.inr hvis)
          refine ⟨u, r, .inr ⟨lookup_relabel_free hfr, ?_⟩⟩
          rcases l with ⟨l, _⟩ | ⟨_, c, ec, z⟩
          · rcases hvis with q | q
            · exact absurd (l.symm.trans q) (by decide)
            · exact absurd (l.symm.trans q) (by decide)
          · obtain ⟨c', ec'⟩ := hasc x hfr
            have := good x c' ec'
            rw [ec] at this
            cases this
            exact ⟨c, ec', z.keeps old⟩
    · obtain ⟨v, z⟩ := I3.cell x c (good x c e)
      exact ⟨v, z.keeps old⟩
    · show (js.map _).length = N.length
      rw [List.length_map]
      exact jsOk_length hok.js
  have st4 : tn 0 h4 := T.keep _ _ _ st3 fun b _ o e => old b o e
  have stat : ∀ {H' : Hp}, (∀ b ∈ fp, H' b = none) → ∀ b ∈ fp, FpOk (compCx X scope N s3.heap.objs.size s3 H3 fp) [] H' b := fun hn b hb =>
    ⟨hn b hb, Nat.ne_of_lt (lt3 b hb), fun z => (List.mem_cons.mp (I3.stkSub b z)).elim (f2 b hb).2.1 (f2 b hb).2.2.1, .inl hb, fun x c e => (f2 b hb).2.2.2.2.1 x c (good x c e), (fun p hp => by cases hp)⟩
  have fin : ∀ {i m : Nat} {ys : List V} {H5 : Hp} {s6 : Shared}, Inv (compCx X scope N s3.heap.objs.size s3 H3 fp) [] (cst js σ) H5 s6 → R (.ref D) H5 → compPost (model X.prog X.w) X.A X.xe use Q (.ref D) s3.heap.objs.size (.ok .next) s6 := fun {i m ys H5 s6} I6 q => by
    obtain ⟨m6, hn6, _⟩ := I6.loc
    refine hend _ _ _ H5 (I3.call' I6.os I6.base I6.hok I6.bare fun b hb => ⟨(f2 b hb).2.2.2.1, (f2 b hb).2.1, (f2 b hb).2.2.2.2.1, (f2 b hb).2.2.2.2.2⟩) q ⟨m6, hn6⟩ (I3.fpOk (Nat.le_refl _) I6.free)
  have loop : codeAny (model X.prog X.w) X.A (.compLoop (.ListComp elt [⟨tg, iter, ifs, 0⟩] scope pos) 0 (.ref it) (.ref D) (compCx X scope N s3.heap.objs.size s3 H3 fp).env)
      (compPost (model X.prog X.w) X.A X.xe use Q (.ref D) s3.heap.objs.size) { s3 with heap := h4, toks := s3.toks + ([] : List (Str × Value)).length } := by
    refine codeAny_compLoop_go (fun n s' => ∃ i ys H', Inv (compCx X scope N s3.heap.objs.size s3 H3 fp) [] (cst js σ) H' s' ∧ tn i s'.heap ∧ (∀ b ∈ fp, H' b = none) ∧ H' D = some (.lst ys) ∧ W i n ys H') ?_ m0 ⟨0, [], H3, I4, st4, fr3, hD3, w0⟩
    rintro n s5 ⟨i, ys, H5, I5, st5, fr5, hD5, w5⟩
    rcases turn i n ys H5 w5 hD5 with ⟨stop, q⟩ | ⟨go, step⟩
    · refine thn (T.done (compCx X scope N s3.heap.objs.size s3 H3 fp) rfl rfl rfl hc i [] s5 (cst js σ) H5 _ I5 (stat fr5) st5 stop) fun r s6 ⟨hr, I6⟩ => ?_
      subst hr
      exact fin (i := i) (m := n) (ys := ys) I6 q
    · refine thn (T.item (compCx X scope N s3.heap.objs.size s3 H3 fp) rfl rfl rfl hc i [] s5 (cst js σ) H5 _ I5 (stat fr5) st5 go) fun r s6 ⟨u, hr, h6⟩ => ?_
      subst hr
      refine thn h6 fun _ s7 ⟨x, H7, I7, r7, y7, st7, fr7⟩ => ?_
      have I7' := I7.pinned (stat fr7) (T.obj _ _ st7)
      have again : ∀ {σ8 : St} {H8 : Hp} {s8 : Shared} {zs : List V}, Ext (cst js σ) σ8 → Inv (compCx X scope N s3.heap.objs.size s3 H3 fp) ([] ++ pinsAt fp s7.heap) σ8 H8 s8 → H8 D = some (.lst zs) → (∃ m', m' < n ∧ W (i + 1) m' zs H8) →
          ∃ m, m < n ∧ ∃ i ys H', Inv (compCx X scope N s3.heap.objs.size s3 H3 fp) [] (cst js σ) H' s8 ∧ tn i s8.heap ∧ (∀ b ∈ fp, H' b = none) ∧ H' D = some (.lst ys) ∧ W i m ys H' := fun {σ8 H8 s8 zs} ex I8 hD8 w8 => by
        obtain ⟨m', hm, w8⟩ := w8
        refine ⟨m', hm, i + 1, zs, H8, I8.unpinned.weak ex.1 ex.2, T.keep _ _ _ st7 fun b hb o e => (I8.pin (b, o) (List.mem_append_right _ (List.mem_append_right _ (mem_pinsAt hb e)))).1, fun b hb => ?_, hD8, w8⟩
        obtain ⟨o, e, d⟩ := T.obj _ _ st7 b hb
        exact (I8.pin (b, o) (List.mem_append_right _ (List.mem_append_right _ (mem_pinsAt hb e)))).2.1
      refine thn (hg _ _ _ _ _ s7 (cst js σ) H7 x u _ I7' r7 (step x H7 y7)) fun _ s8 ⟨σ8, H8, I8, ex8, q8⟩ => ?_
      refine thn (ht _ _ _ _ _ s8 σ8 H8 _ I8 q8) fun c s9 ⟨H9, I9, q9⟩ => ?_
      cases c with
      | false =>
        rw [if_neg (by decide)] at q9 ⊢
        exact again ex8 I9 q9.1 q9.2
      | true =>
        rw [if_pos rfl] at q9 ⊢
        refine thnE (he _ _ _ _ _ s9 σ8 H9 _ I9 q9) fun y s10 v10 H10 I10 r10 zz4 => ?_
        obtain ⟨hD10, hz10, w10⟩ := zz4
        refine thn (mt_append _ s10 σ8 H10 (.ref D) [v10] (.ref D) [y] (fun _ H11 => H11 = upd H10 D (.lst (ys ++ [v10]))) I10 rfl (.cons r10 .nil) ⟨D, ys, v10, rfl, rfl, hD10, hz10, rfl⟩) fun _ s11 ⟨_, H11, I11, _, e11⟩ => ?_
        subst e11
        exact again ex8 I11 upd_same w10
  exact codeAny_compStart_list loop (T.self _ _ _ _ _ st4 loop)

theorem pe_comp (hok : compOk X.N X.env.scope scope N js = true) (hc : X.calm = true) (hi : PI X tg iter wi)
    (hg : ∀ C s₃ H₃ fp, PG (compCx X scope N C s₃ H₃ fp) tg g) (ht : ∀ C s₃ H₃ fp, PTs (compCx X scope N C s₃ H₃ fp) ifs tc) (he : ∀ C s₃ H₃ fp, PE (compCx X scope N C s₃ H₃ fp) elt te)
    (hs : ∀ x, foldedSetIterable iter X.env x = pure x := by intro _; rfl) : PE X (.ListComp elt [⟨tg, iter, ifs, 0⟩] scope pos) (tComp js wi g tc te) := by
  intro pins s σ H Q I h
  rw [eval_ListComp]
  refine comp_run (use := none) (R := Q) (CompOk.of hok) hc hi hg ht he I h (fun C D s' H' I' q hn hf => ?_) hs
  obtain ⟨m, hn⟩ := hn
  refine ⟨m, hn, fun h' hs' => ⟨.ref D, H', ?_, rfl, q⟩⟩
  exact I'.turned (t' := s'.toks) (it := C) (fun b o hb e => (hs'.2 b hb).trans e) hf.1 hf.2.1 hf.2.2.2.1 hf.2.2.2.2.1 hf.2.2.2.2.2

theorem ps_setC {i : Nat} {x : Str} {pos' spos : Pos} (hN : X.N.Nodup) (hx : X.N[i]? = some x) (hl : X.env.scope.names.lookup x = some .local) (hok : compOk X.N X.env.scope scope N js = true) (hc : X.calm = true) (hi : PI X tg iter wi)
    (hg : ∀ C s₃ H₃ fp, PG (compCx X scope N C s₃ H₃ fp) tg g) (ht : ∀ C s₃ H₃ fp, PTs (compCx X scope N C s₃ H₃ fp) ifs tc) (he : ∀ C s₃ H₃ fp, PE (compCx X scope N C s₃ H₃ fp) elt te)
    (hsw : swapsWith (.ListComp elt [⟨tg, iter, ifs, 0⟩] scope pos) (some (.Name x pos')) spos.line X.env = pure true := by rfl) (hs : ∀ x, foldedSetIterable iter X.env x = pure x := by intro _; rfl) :
    PS X (.Assign [.Name x pos'] (.ListComp elt [⟨tg, iter, ifs, 0⟩] scope pos) spos) (tAsg (tComp js wi g tc te) (gName i)) := by
  intro pins s σ H D I h
  rw [exec_Assign_Name_used _ _ _ _ hsw]
  refine wpAny_bind (wpAny_standAt (wpAny_bind ?_))
  have run := comp_run (pos := pos) (cpos := firstIterPos [⟨tg, iter, ifs, 0⟩] pos) (use := some (assign (.Name x pos') X.env)) (R := fun v H1 => D.nx (σ.set i (some v)) H1) (Q := fun _ s' => SP X pins D .next s') (CompOk.of hok) hc hi hg ht he I h (fun C L s' H' I' q hn hf => ?_) hs
  · show wpAny _ X.A (do let _ ← comprehension (.ListComp elt [⟨tg, iter, ifs, 0⟩] scope pos) scope X.env _ (newList []) false (eval iter X.env) (some (assign (.Name x pos') X.env))) _ _ s
    exact wpAny_bind (wpAny_mono run (fun _ s' hq => wpAny_pure (wpAny_pure hq)) fun _ _ e => e)
  · obtain ⟨m, o, es, ep, ho, hd, hr⟩ := hn
    have I2 : Inv X (pins ++ pinsAt [C] s'.heap) σ H' s' := I'.pinned (fp := [C]) (fun b hb => by rw [List.mem_singleton.mp hb]; exact hf) (fun b hb => by rw [List.mem_singleton.mp hb]; exact ⟨o, ho, fun v z => by rw [hd] at z; cases z⟩)
    refine wpAny_assign_Name (store_ok (v := .ref L) I2 hN hx (.inl hl) rfl (fun s2 I3 => ?_) (.inr hl))
    have hC : s2.heap.get? C = some o := (I3.pin (C, o) (List.mem_append_right _ (List.mem_append_right _ (mem_pinsAt (List.mem_singleton.mpr rfl) ho)))).1
    refine ⟨m, ⟨o, es, ep, hC, hd, hr⟩, fun h' hs' => ⟨_, H', ?_, q⟩⟩
    exact I3.unpinned.turned (t' := s2.toks) (it := C) (fun b o hb e => (hs'.2 b hb).trans e) hf.1 hf.2.1 hf.2.2.2.1 hf.2.2.2.2.1 hf.2.2.2.2.2
end
end L2

namespace L2
open PySem PySem.Spec PyProof.Rows
section
variable {X : Cx}

theorem call_all (hc : X.calm = true) : CallR X (.builtin "all") (fun xs H Q => ∃ (p : Addr) (bs : List Bool), xs = [.ref p] ∧ SqL X.K H p (bs.map V.bl) ∧ Q (.bl (bs.all id)) H) := by
  intro pins s σ H xs us Q I r h
  obtain ⟨p, bs, rfl, hq, q⟩ := h
  obtain ⟨u, rfl, rx⟩ := vals1 r
  cases rx
  obtain ⟨its, rv, pl, hz⟩ := I.list hq
  have hl := pl.isList
  have hb : LSm.BoolsAre its bs := by
    clear hz hq q hl pl I
    induction bs generalizing its with
    | nil => cases rv; exact .nil
    | cons b bs ih =>
      cases rv with
      | cons r1 r2 => cases r1; exact .cons b (ih _ r2)
  have hlt : p < s.heap.objs.size := by obtain ⟨_, e, _⟩ := hl; exact Heap.lt_size e
  refine call_all_walk (wpAny_pyIter_list hl ?_)
  refine ⟨s.heap.objs.size, [s.heap.objs.size, p], [s.heap.objs.size], its.toArray.size, _, _, fun i => (bs[i]?).getD true, rfl, Walks.list (A := X.A.in1) (I.ok.hd hc) _ p (Nat.ne_of_lt hlt) its.toArray,
    ⟨⟨_, Heap.get?_push_size _ rfl, rfl, rfl⟩, hl.push _⟩, fun i v s' Q' E' hP hQ => ?_, fun h' tk hk => ?_⟩
  · obtain ⟨b, e, rfl⟩ := hb.get i v (by simpa using hP)
    simp only [e, Option.getD_some] at hQ
    exact wpAny_truthy_bool hQ
  · have e : ((List.range its.toArray.size).all fun i => (bs[i]?).getD true) = bs.all id := by
      rw [List.size_toArray, hb.length]; exact LSm.range_all bs
    rw [e]
    exact ⟨.bl _, H, I.kept (t' := tk) (LSm.kept_iter hk), rfl, q⟩

theorem call_isinst : CallR X (.builtin "isinstance") (fun xs H Q => ∃ x T t b, xs = [x, .ty T] ∧ TyOf X.K H x t ∧ PySem.W.kitOne X.K t (.type T) = some b ∧ Q (.bl b) H) := by
  intro pins s σ H xs us Q I r h
  obtain ⟨x, T, t, b, rfl, ty, hk, q⟩ := h
  obtain ⟨u, w', rfl, rx, ry⟩ := vals2 r
  obtain rfl : w' = Value.type T := ry
  exact isinst_ok I rx ty hk fun tk => ⟨.bl b, H, I.tok tk, rfl, q⟩
end

mutual
inductive Rep (K : PySem.W.Frag) (H : Hp) : V → PyData → Prop
  | int (i : Int) : Rep K H (.int i) (.int i)
  | bl (b : Bool) : Rep K H (.bl b) (.bool b)
  | non : Rep K H .non .none
  | lst {a : Addr} {xs : List V} {ds : List PyData} : SqL K H a xs → RepAll K H xs ds → Rep K H (.ref a) (.list ds)
  | tup {a : Addr} {xs : List V} {ds : List PyData} : SqT K H a xs → RepAll K H xs ds → Rep K H (.ref a) (.tuple ds)
inductive RepAll (K : PySem.W.Frag) (H : Hp) : List V → List PyData → Prop
  | nil : RepAll K H [] []
  | cons {x : V} {xs : List V} {d : PyData} {ds : List PyData} : Rep K H x d → RepAll K H xs ds → RepAll K H (x :: xs) (d :: ds)
end
mutual
theorem Rep.reads {X : Cx} {pins : List (Addr × Obj)} {σ : St} {H : Hp} {s : Shared} (I : Inv X pins σ H s) : ∀ {x : V} {d : PyData}, Rep X.K H x d → ∀ {u : Value}, RelV x u → ∃ as, Reads s.heap u d as
  | _, _, .int i, u, r => by obtain ⟨t, rfl⟩ := r; exact ⟨_, .int i t⟩
  | _, _, .bl b, u, r => by cases r; exact ⟨_, .bool b⟩
  | _, _, .non, u, r => by cases r; exact ⟨_, .none⟩
  | _, _, .lst h hs, u, r => by
    cases r
    obtain ⟨its, rv, ⟨o, n, e, hc, _, hd⟩, _⟩ := I.list h
    obtain ⟨as, q⟩ := RepAll.reads I hs rv
    exact ⟨_, .list e hc hd (by simpa using q)⟩
  | _, _, .tup h hs, u, r => by
    cases r
    obtain ⟨its, rv, ⟨o, e, hc, n, hd⟩, _⟩ := I.tuple h
    obtain ⟨as, q⟩ := RepAll.reads I hs rv
    exact ⟨_, .tuple e hc hd (by simpa using q)⟩
theorem RepAll.reads {X : Cx} {pins : List (Addr × Obj)} {σ : St} {H : Hp} {s : Shared} (I : Inv X pins σ H s) : ∀ {xs : List V} {ds : List PyData}, RepAll X.K H xs ds → ∀ {us : List Value}, Vals xs us → ∃ as, ReadsAll s.heap us ds as
  | _, _, .nil, us, r => by cases r; exact ⟨_, .nil⟩
  | _, _, .cons h hs, us, r => by
    cases r with
    | cons r1 r2 =>
      obtain ⟨as, q⟩ := Rep.reads I h r1
      obtain ⟨bs, q'⟩ := RepAll.reads I hs r2
      exact ⟨_, .cons q q'⟩
end

structure Plain (d : PyData) : Prop where
  lay : d.canLay0 = true
  deep : d.depth ≤ 60
section
variable {X : Cx}
noncomputable def rEqD (K : PySem.W.Frag) : R2 := fun x y H Q => ∃ d e, Rep K H x d ∧ Rep K H y e ∧ Plain d ∧ Plain e ∧ Q (.bl (PyData.eqv d e)) H
theorem op_eqD (hu : X.A.units + 64 < cLine) : OpR X (compareOp .Eq) (rEqD X.K) := by
  intro pins s σ H x y v u Q I rx ry h
  obtain ⟨d, e, hd, he, pd, pe, q⟩ := h
  obtain ⟨as, r1⟩ := Rep.reads I hd rx
  obtain ⟨bs, r2⟩ := Rep.reads I he ry
  refine SeqAt.compareEq_reads r1 r2 pd.lay pe.lay ?_ ⟨.bl _, H, I, rfl, q⟩
  have h1 := pd.deep
  have h2 : min d.depth e.depth ≤ d.depth := Nat.min_le_left _ _
  omega
end
theorem RepAll.ints {K : PySem.W.Frag} {H : Hp} : ∀ ns : List Int, RepAll K H (ns.map V.int) (ns.map PyData.int)
  | [] => .nil
  | n :: ns => .cons (.int n) (RepAll.ints ns)
theorem canLay_ints : ∀ ns : List Int, PyData.canLayAll0 (ns.map PyData.int) = true
  | [] => by simp [PyData.canLayAll0]
  | n :: ns => by simp [PyData.canLayAll0, PyData.canLay0, canLay_ints ns]
theorem depthAll_ints : ∀ ns : List Int, PyData.depthAll (ns.map PyData.int) = 0
  | [] => by simp [PyData.depthAll]
  | n :: ns => by simp [PyData.depthAll, PyData.depth, depthAll_ints ns]
theorem eqv_ints : ∀ xs ys : List Int, PyData.eqvAll (xs.map PyData.int) (ys.map PyData.int) = decide (xs = ys)
  | [], [] => by simp [PyData.eqvAll]
  | [], y :: ys => by simp [PyData.eqvAll]
  | x :: xs, [] => by simp [PyData.eqvAll]
  | x :: xs, y :: ys => by
    have ih := eqv_ints xs ys
    simp only [List.map_cons, PyData.eqvAll, PyData.eqv, ih]
    by_cases h1 : x = y
    · by_cases h2 : xs = ys <;> simp [h1, h2]
    · simp [h1]
end L2

namespace L2
open PySem PySem.Spec PyProof.Rows

theorem Same.seqT {K : PySem.W.Frag} {H H' : Hp} {a : Addr} {xs : List V} (e : Same H H') (h : SqT K H a xs) : SqT K H' a xs := by
  rcases h with (h | ⟨o, h⟩) | h
  · exact .inl (.inl (e _ _ h))
  · exact .inl (.inr ⟨o, e _ _ h⟩)
  · exact .inr h
theorem Same.put {H H' : Hp} {l : Addr} {o : HO} (s : Same H H') (h : H l = none) : Same H (upd H' l o) := fun b u e => by
  rw [upd_ne (ne_of_none e h)]
  exact s b u e
theorem Same.new {H : Hp} {a : Addr} {o : HO} (h : H a = none) : Same H (upd H a o) := (Same.refl H).put h

structure Walk (J : It) (H1 : Hp) (n : Nat) (Is : Nat → V → Hp → Prop) : Prop where
  go : ∀ k H2, Same H1 H2 → k < n → J.go k H2
  yld : ∀ k H2 x H3, Same H1 H2 → k < n → J.yld k H2 x H3 → Same H2 H3 ∧ Is k x H3
  stop : ∀ H2, Same H1 H2 → J.stop n H2
theorem getD_some {α : Type} {xs : List α} {k : Nat} {d : α} (h : k < xs.length) : xs[k]? = some (xs.getD k d) := by
  rw [List.getD_eq_getElem?_getD, List.getElem?_eq_getElem h]
  rfl
theorem Walk.tup {K : PySem.W.Frag} {H1 : Hp} {a : Addr} {xs : List V} (h : SqT K H1 a xs) : Walk (Itt K a) H1 xs.length (fun k x _ => x = xs.getD k .non) where
  go := fun k H2 s hk => ⟨xs, _, s.seqT h, getD_some (d := V.non) hk⟩
  yld := fun k H2 x H3 s hk y => ⟨by rw [y.1]; exact Same.refl _, by
    have := y.2 xs (s.seqT h)
    rw [getD_some (d := V.non) hk] at this
    exact (Option.some.inj this).symm⟩
  stop := fun H2 s => ⟨xs, s.seqT h, Nat.le_refl _⟩
theorem Walk.lst {K : PySem.W.Frag} {H1 : Hp} {a : Addr} {xs : List V} (h : SqL K H1 a xs) : Walk (Itl K a) H1 xs.length (fun k x _ => x = xs.getD k .non) where
  go := fun k H2 s hk => ⟨xs, _, s.seq h, getD_some (d := V.non) hk⟩
  yld := fun k H2 x H3 s hk y => ⟨by rw [y.1]; exact Same.refl _, by
    have := y.2 xs (s.seq h)
    rw [getD_some (d := V.non) hk] at this
    exact (Option.some.inj this).symm⟩
  stop := fun H2 s => ⟨xs, s.seq h, Nat.le_refl _⟩
theorem Walk.rng {H1 : Hp} (lo : Int) (n : Nat) : Walk (Itr lo n) H1 n (fun k x _ => x = .int (lo + k)) where
  go := fun k H2 _ hk => hk
  yld := fun k H2 x H3 _ _ y => ⟨by rw [y.1]; exact Same.refl _, y.2⟩
  stop := fun _ _ => Nat.le_refl n

theorem block_gen {J : It} {H1 : Hp} {n : Nat} {Is : Nat → V → Hp → Prop} {js : List (Option Nat)} {g : TG} {tc : TT} {te : TE} {σ : St} {R : VK} (Wk : Walk J H1 n Is) (Pv : Addr → Nat → List V → Hp → Prop)
    (h0 : ∀ D, H1 D = none → Pv D 0 [] (upd H1 D (.lst [])))
    (step : ∀ D k x ys H2 H3 (Keep : VK) (Drop : Hp → Prop), H1 D = none → k < n → Same H1 H2 → Same H2 H3 → H3 D = some (.lst ys) → Pv D k ys H2 → Is k x H3 →
      (∀ y H6, Same H3 H6 → ys.length < sizeLine → Pv D (k + 1) (ys ++ [y]) (upd H6 D (.lst (ys ++ [y]))) → Keep y H6) → (∀ H5, Same H3 H5 → Pv D (k + 1) ys H5 → Drop H5) →
      g x (cst js σ) H3 fun σ2 H4 => Ext (cst js σ) σ2 ∧ tc σ2 H4 fun c H5 => if c = true then te σ2 H5 Keep else Drop H5)
    (fin : ∀ D ys H2, H1 D = none → Same H1 H2 → H2 D = some (.lst ys) → Pv D n ys H2 → R (.ref D) H2) : tBlock js g tc te σ R J H1 := by
  intro D hD
  refine ⟨fun i m ys H2 => m = n - i ∧ i ≤ n ∧ Same H1 H2 ∧ Pv D i ys H2, ⟨n, rfl, Nat.zero_le _, Same.new hD, h0 D hD⟩, ?_⟩
  rintro i m ys H2 ⟨rfl, hi, s, p⟩ hys
  by_cases hlt : i < n
  · refine .inr ⟨Wk.go i H2 s hlt, fun x H3 y => ?_⟩
    obtain ⟨s3, ix⟩ := Wk.yld i H2 x H3 s hlt y
    exact step D i x ys H2 H3 _ _ hD hlt s s3 (s3 _ _ hys) p ix (fun z H6 s6 hl p6 => ⟨s6 _ _ (s3 _ _ hys), hl, n - (i + 1), by omega, rfl, hlt, ((s.trans s3).trans s6).put hD, p6⟩)
      (fun H5 s5 p5 => ⟨s5 _ _ (s3 _ _ hys), n - (i + 1), by omega, rfl, hlt, (s.trans s3).trans s5, p5⟩)
  · have e : i = n := by omega
    subst e
    exact .inl ⟨Wk.stop H2 s, fin D ys H2 hD s hys p⟩

theorem block_fm {J : It} {H1 : Hp} {n : Nat} {item : Nat → V} {js : List (Option Nat)} {i : Nat} {tc : TT} {te : TE} {σ : St} {R : VK} (Wk : Walk J H1 n (fun k x _ => x = item k)) (hn : n ≤ 1000) (hi : (cst js σ)[i]? = some none)
    (p : Nat → Bool) (y : Nat → V)
    (test : ∀ k H2 (Q : Bool → Hp → Prop), k < n → Same H1 H2 → (∀ H3, Same H2 H3 → Q (p k) H3) → tc ((cst js σ).set i (some (item k))) H2 Q)
    (step : ∀ k H2 (Q : VK), k < n → p k = true → Same H1 H2 → (∀ H3, Same H2 H3 → Q (y k) H3) → te ((cst js σ).set i (some (item k))) H2 Q)
    (fin : ∀ D H2, H1 D = none → Same H1 H2 → H2 D = some (.lst (((List.range n).filter p).map y)) → R (.ref D) H2) : tBlock js (gName i) tc te σ R J H1 := by
  refine block_gen Wk (fun D k ys H2 => ys = ((List.range k).filter p).map y) (fun D hD => rfl) (fun D k x ys H1' H2 Keep Drop hD hk s1 s2 hys e ex keep drop => ?_) (fun D ys H2 hD s hys e => fin D H2 hD s (e ▸ hys))
  subst ex
  have s := s1.trans s2
  have hl : ys.length < sizeLine := by
    have h1 : (((List.range k).filter p).map y).length ≤ k := by
      rw [List.length_map]
      exact Nat.le_trans (List.length_filter_le _ _) (by simp)
    rw [e]
    exact Nat.lt_of_le_of_lt h1 (small1000 (by omega))
  have e1 : List.range (k + 1) = List.range k ++ [k] := List.range_succ
  refine ⟨Ext.set hi, test k H2 _ hk s fun H3 s3 => ?_⟩
  cases hp : p k with
  | true =>
    rw [if_pos rfl]
    refine step k H3 _ hk hp (s.trans s3) fun H4 s4 => keep _ _ (s3.trans s4) hl ?_
    rw [e1, List.filter_append, List.map_append, e]
    simp [hp]
  | false =>
    rw [if_neg (by decide)]
    refine drop _ s3 ?_
    rw [e1, List.filter_append, List.map_append, e]
    simp [hp]

theorem block_map {J : It} {H1 : Hp} {n : Nat} {item : Nat → V} {js : List (Option Nat)} {i : Nat} {te : TE} {σ : St} {R : VK} (Wk : Walk J H1 n (fun k x _ => x = item k)) (hn : n ≤ 1000) (hi : (cst js σ)[i]? = some none) (y : Nat → V)
    (step : ∀ k H2 (Q : VK), k < n → Same H1 H2 → (∀ H3, Same H2 H3 → Q (y k) H3) → te ((cst js σ).set i (some (item k))) H2 Q)
    (fin : ∀ D H2, H1 D = none → Same H1 H2 → H2 D = some (.lst ((List.range n).map y)) → R (.ref D) H2) : tBlock js (gName i) tYes te σ R J H1 :=
  block_fm Wk hn hi (fun _ => true) y (fun k H2 Q _ _ q => q H2 (Same.refl _)) (fun k H2 Q hk _ => step k H2 Q hk) fun D H2 hD s e => fin D H2 hD s (by
    rw [e, List.filter_eq_self.mpr (fun _ _ => rfl)])
theorem range_map_getD {α β : Type} (xs : List α) (d : α) (f : α → β) : ((List.range xs.length).map fun k => f (xs.getD k d)) = xs.map f := by
  apply List.ext_getElem?
  intro k
  rw [List.getElem?_map, List.getElem?_map]
  by_cases h : k < xs.length
  · rw [List.getElem?_range h, getD_some (d := d) h]
    rfl
  · rw [List.getElem?_eq_none (by simpa using h), List.getElem?_eq_none (by omega)]
    rfl

noncomputable def Has (P : Program) (w : World) (K : PySem.W.Frag) (mg : Str → Option Value) (base : Heap) (x : Str) (k : Nat) (ps : List Str) (sp : Sp) : Prop :=
  ∃ f fd, mg x = some (.ref f) ∧ PySem.W.keepIn K (.ref f) = true ∧ Binds K fd ps [] ∧ FnOk P w K mg base CX0 k f fd ps sp
section
variable {X : Cx} {x : Str} {k : Nat} {ps : List Str} {sp : Sp} {e : Expr} {es : List Expr} {t : TA} {p pos : Pos}
theorem pe_fn (h : Has X.prog X.w X.K X.mg X.base x k ps sp) (hr : Room k X.A) (ha : PA X (e :: es) t) (hg : Gl X x := by rfl) (hdb : (x == ("__debug__" : Str)) = false := by decide)
    (he : starEach (e :: es) X.env = (false, eval e X.env) :: starEach es X.env := by rfl) (hpl : (backTo pos (starEach es X.env)).any (·.1) = false := by rfl) : PE X (.Call (.Name x p) (e :: es) [] pos) (tCall sp [] E0 t) := by
  obtain ⟨f, fd, hm, hk, hb, F⟩ := h
  exact pe_call F hr hg hm hk hb .nil pass0 ha hdb he hpl
end
theorem pe_ty {X : Cx} {x : Str} {T : String} {pos : Pos} (hm : X.mg x = none) (hv : bootBuiltins x = some (.type T)) (hg : Gl X x := by rfl) (hn : x ≠ "__name__" := by decide) (hd : (x == ("__debug__" : Str)) = false := by decide) : PE X (.Name x pos) (tC (.ty T)) :=
  pe_bltn (v := .ty T) hg hm hv rfl hn hd
theorem ndOf {N : List Str} (h : N.Nodup) : N.Nodup := h

structure Def (K : PySem.W.Frag) (x : Str) (st : Stmt) (f : Addr) (fd : FuncData) : Prop where
  a : PySem.W.nsIn K mainGlobals x = some (some (.ref f))
  F : Fun K x x st f fd
theorem def_mk {K : PySem.W.Frag} {x : Str} {st : Stmt} {f : Addr} {oc : Value} {od an : Option Addr} {osl : Array (Option Value)} {kV doc pm cdv ct : Value} (a : PySem.W.nsIn K mainGlobals x = some (some (.ref f)))
    (l : K.lookup f = some ⟨oc, od, .func (PySem.W.fnOf x x (defArgs st) (defBody st) (defScope st) .none kV doc pm an cdv ct), osl⟩) (c : PySem.W.codeIn K cdv x = true) (k : PySem.W.keepIn K (.ref f) = true) : ∃ f fd, Def K x st f fd :=
  ⟨f, _, a, fun_mk l c k⟩

structure Blt (mg : Str → Option Value) : Prop where
  len : mg "len" = none
  isi : mg "isinstance" = none
  tInt : mg "int" = none
  tBool : mg "bool" = none
  tTuple : mg "tuple" = none
  tList : mg "list" = none
  all : mg "all" = none
  range : mg "range" = none
  enum : mg "enumerate" = none
  sum : mg "sum" = none
theorem kit_int_bool {K : PySem.W.Frag} : PySem.W.kitOne K (.type "int") (.type "bool") = some false := by with_unfolding_all rfl
theorem kit_int_int {K : PySem.W.Frag} : PySem.W.kitOne K (.type "int") (.type "int") = some true := by with_unfolding_all rfl
theorem kit_tup_tup {K : PySem.W.Frag} : PySem.W.kitOne K (.type "tuple") (.type "tuple") = some true := by with_unfolding_all rfl
end L2

namespace L2
open PySem PySem.Spec PyProof.Rows

noncomputable def tabD (D : List (Str × Int)) : List (PyData × PyData) := D.map fun p => (PyData.str p.1, PyData.int p.2)
noncomputable def TabK (P : Program) (w : World) (K : PySem.W.Frag) (d : Addr) (D : List (Str × Int)) : Prop := ∀ h : Heap, K.In h → StrTab P w h d (tabD D)
section
variable {X : Cx}


noncomputable def rIndex (K : PySem.W.Frag) : V → List V → Hp → VK → Prop := fun x vs H Q => ∃ (l : Addr) (xs : List V) (y : V) (j : Nat) (z : V), x = .ref l ∧ vs = [y] ∧ SqL K H l xs ∧ flatV y = true ∧ xs.all flatV = true ∧ xs[j]? = some z ∧ eqV z y = true ∧ (∀ (i : Nat) (z : V), i < j → xs[i]? = some z → eqV z y = false) ∧ Q (.int (j : Int)) H
theorem mt_index : MtM X "list.index" (rIndex X.K) := by
  intro pins s σ H x vs v us Q I rx rv h
  obtain ⟨l, xs, y, j, z, rfl, rfl, hx, fy, fx, ej, ez, hno, q⟩ := h
  cases rx
  obtain ⟨u, rfl, ru⟩ := rv.one
  obtain ⟨its, r, ht, hz⟩ := I.list hx
  obtain ⟨⟨cls, dd, data, sl⟩, ho, hc, n, hd⟩ := id ht.isList
  simp only at hc hd
  subst hc hd
  have hlen := r.length
  obtain ⟨uz, euz, rz⟩ := r.get ej
  have hj : j < its.length := (List.getElem?_eq_some_iff.mp euz).1
  have hline : (sizeLine : Nat) < 2 ^ 62 := by rw [sizeLine_eq]; decide
  have fl : ∀ {i : Nat} {z : V}, xs[i]? = some z → flatV z = true := fun {i z} e => List.all_eq_true.mp fx _ (List.mem_of_getElem? e)
  refine call_meets PySem.F.slot_list_index ⟨_, ho, rfl⟩ PySem.F.entry_list_index (PySem.F.args_list_index_2 _ _)
    (SeqAt.list_indexAt l its.toArray n dd sl u (eqU y) j (by simpa using hj) (by omega) ?_ ?_) ⟨ho, fun w hw => mem_eqAt ru fy r fx w (by simpa using hw), ?_⟩
  · have : its.toArray[j] = uz := by
      have := List.getElem?_eq_getElem hj
      rw [euz] at this
      simpa using (Option.some.inj this).symm
    rw [this, eqU_of rz (fl ej), ez]
  · intro m hm hlt
    have hm' : m < xs.length := by simp at hm; omega
    obtain ⟨um, eum, rm⟩ := r.get (List.getElem?_eq_getElem hm')
    have : its.toArray[m] = um := by
      have h2 : m < its.length := by omega
      have := List.getElem?_eq_getElem h2
      rw [eum] at this
      simpa using (Option.some.inj this).symm
    rw [this, eqU_of rm (fl (List.getElem?_eq_getElem hm'))]
    exact hno m _ hlt (List.getElem?_eq_getElem hm')
  · exact ⟨.int j, H, I.tok _, ⟨_, rfl⟩, q⟩
end
end L2


namespace L2
open PySem PySem.Spec PyProof.Rows
theorem countP_eqU {x : V} : ∀ {xs : List V} {us : List Value}, Vals xs us → xs.all flatV = true → us.countP (eqU x) = xs.countP fun y => eqV y x
  | _, _, .nil, _ => rfl
  | y :: xs, u :: us, .cons r t, f => by
    rw [List.all_cons, Bool.and_eq_true] at f
    rw [List.countP_cons, List.countP_cons, eqU_of r f.1, countP_eqU t f.2]
section
variable {X : Cx}
noncomputable def rCountL (K : PySem.W.Frag) : V → List V → Hp → VK → Prop := fun x vs H Q => ∃ (l : Addr) (xs : List V) (y : V), x = .ref l ∧ vs = [y] ∧ SqL K H l xs ∧ flatV y = true ∧ xs.all flatV = true ∧ Q (.int ((xs.countP fun z => eqV z y : Nat) : Int)) H
theorem mt_count : MtM X "list.count" (rCountL X.K) := by
  intro pins s σ H x vs v us Q I rx rv h
  obtain ⟨l, xs, y, rfl, rfl, hx, fy, fx, q⟩ := h
  cases rx
  obtain ⟨u, rfl, ru⟩ := rv.one
  obtain ⟨its, r, ht, hz⟩ := I.list hx
  obtain ⟨⟨cls, dd, data, sl⟩, ho, hc, n, hd⟩ := id ht.isList
  simp only at hc hd
  subst hc hd
  refine call_meets PySem.F.slot_list_count ⟨_, ho, rfl⟩ PySem.F.entry_list_count (PySem.F.args_list_count_2 _ _)
    (SeqAt.list_countAt l its.toArray n dd sl u (eqU y)) ⟨ho, fun w hw => mem_eqAt ru fy r fx w (by simpa using hw), ?_⟩
  refine ⟨.int _, H, I.tok _, ⟨_, rfl⟩, ?_⟩
  rw [countP_eqU r fx]
  exact q

end
end L2


namespace My
open PySem L2

theorem paired_get {α β : Type} {F : α → β → Prop} : ∀ {l₁ : List α} {l₂ : List β}, Paired F l₁ l₂ → ∀ (i : Nat) (b : β), l₂[i]? = some b → ∃ a, l₁[i]? = some a ∧ F a b
  | _, _, .nil, i, b, e => by simp at e
  | _, _, .cons h t, 0, b, e => by simp at e; subst e; exact ⟨_, rfl, h⟩
  | _, _, .cons h t, i + 1, b, e => by
    obtain ⟨a, h1, h2⟩ := paired_get t i b (by simpa using e)
    exact ⟨a, by simpa using h1, h2⟩
theorem paired_getL {α β : Type} {F : α → β → Prop} : ∀ {l₁ : List α} {l₂ : List β}, Paired F l₁ l₂ → ∀ (i : Nat) (a : α), l₁[i]? = some a → ∃ b, l₂[i]? = some b ∧ F a b
  | _, _, .nil, i, a, e => by simp at e
  | _, _, .cons h t, 0, a, e => by simp at e; subst e; exact ⟨_, rfl, h⟩
  | _, _, .cons h t, i + 1, a, e => by
    obtain ⟨b, h1, h2⟩ := paired_getL t i a (by simpa using e)
    exact ⟨b, by simpa using h1, h2⟩
theorem paired_length {α β : Type} {F : α → β → Prop} : ∀ {l₁ : List α} {l₂ : List β}, Paired F l₁ l₂ → l₁.length = l₂.length
  | _, _, .nil => rfl
  | _, _, .cons _ t => by simp [paired_length t]
theorem paired_imp {α β : Type} {F G : α → β → Prop} (f : ∀ a b, F a b → G a b) : ∀ {l₁ : List α} {l₂ : List β}, Paired F l₁ l₂ → Paired G l₁ l₂
  | _, _, .nil => .nil
  | _, _, .cons h t => .cons (f _ _ h) (paired_imp f t)
theorem paired_snoc {α β : Type} {F : α → β → Prop} {a : α} {b : β} : ∀ {l₁ : List α} {l₂ : List β}, Paired F l₁ l₂ → F a b → Paired F (l₁ ++ [a]) (l₂ ++ [b])
  | _, _, .nil, h => .cons h .nil
  | _, _, .cons h₁ t, h => .cons h₁ (paired_snoc t h)


noncomputable abbrev Tab := List (List Int)
noncomputable def RowAt (H : Hp) (v : V) (r : List Int) : Prop := ∃ a, v = .ref a ∧ H a = some (.tup (r.map V.int))
noncomputable def TabAt (H : Hp) (v : V) (t : Tab) : Prop := ∃ a vs, v = .ref a ∧ H a = some (.tup vs) ∧ Paired (RowAt H) vs t
noncomputable def TabsAt (H : Hp) (v : V) (ts : List Tab) : Prop := ∃ a vs, v = .ref a ∧ H a = some (.tup vs) ∧ Paired (TabAt H) vs ts
noncomputable def SchAt (H : Hp) (v : V) (b : Int) (ts : List Tab) : Prop := ∃ a w, v = .ref a ∧ H a = some (.tup [.int b, w]) ∧ TabsAt H w ts
theorem RowAt.same {H H' : Hp} {v : V} {r : List Int} (s : Same H H') (h : RowAt H v r) : RowAt H' v r := by
  obtain ⟨a, e, h⟩ := h
  exact ⟨a, e, s _ _ h⟩
theorem TabAt.same {H H' : Hp} {v : V} {t : Tab} (s : Same H H') (h : TabAt H v t) : TabAt H' v t := by
  obtain ⟨a, vs, e, h, p⟩ := h
  exact ⟨a, vs, e, s _ _ h, paired_imp (fun _ _ => RowAt.same s) p⟩
theorem TabsAt.same {H H' : Hp} {v : V} {ts : List Tab} (s : Same H H') (h : TabsAt H v ts) : TabsAt H' v ts := by
  obtain ⟨a, vs, e, h, p⟩ := h
  exact ⟨a, vs, e, s _ _ h, paired_imp (fun _ _ => TabAt.same s) p⟩
theorem SchAt.same {H H' : Hp} {v : V} {b : Int} {ts : List Tab} (s : Same H H') (h : SchAt H v b ts) : SchAt H' v b ts := by
  obtain ⟨a, w, e, h, p⟩ := h
  exact ⟨a, w, e, s _ _ h, p.same s⟩


noncomputable def wholeB (v l m : Int) : Bool := decide (l ≤ v) && decide (v ≤ m)
noncomputable def lenB {α : Type} (xs : List α) (l m : Int) : Bool := decide (l ≤ (xs.length : Int)) && decide ((xs.length : Int) ≤ m)
noncomputable def rowB (b n : Int) (r : List Int) : Bool := lenB r b b && (r.map fun e => wholeB e 0 (n - 1)).all id
noncomputable def tabB (b n : Int) (t : Tab) : Bool := lenB t n n && (t.map fun r => rowB b n r).all id
noncomputable def tabsB (b : Int) (ts : List Tab) : Bool := lenB ts 1 6 && lenB (ts.headD []) 1 12 && (ts.map fun t => tabB b ((ts.headD []).length : Int) t).all id
noncomputable def schB (b : Int) (ts : List Tab) : Bool := wholeB b 2 10 && tabsB b ts
theorem wholeB_iff {v l m : Int} : wholeB v l m = true ↔ l ≤ v ∧ v ≤ m := by simp [wholeB]
theorem lenB_iff {α : Type} {xs : List α} {l m : Int} : lenB xs l m = true ↔ l ≤ (xs.length : Int) ∧ (xs.length : Int) ≤ m := by simp [lenB]

noncomputable def nst (ts : List Tab) : Nat := (ts.headD []).length
structure Ok (b : Int) (ts : List Tab) : Prop where
  b1 : 2 ≤ b
  b2 : b ≤ 10
  t1 : 1 ≤ ts.length
  t2 : ts.length ≤ 6
  n1 : 1 ≤ nst ts
  n2 : nst ts ≤ 12
  rows : ∀ t ∈ ts, t.length = nst ts
  figs : ∀ t ∈ ts, ∀ r ∈ t, (r.length : Int) = b
  ents : ∀ t ∈ ts, ∀ r ∈ t, ∀ e ∈ r, 0 ≤ e ∧ e < (nst ts : Int)
theorem schB_iff {b : Int} {ts : List Tab} : schB b ts = true ↔ Ok b ts := by
  unfold schB tabsB tabB rowB
  simp only [Bool.and_eq_true, wholeB_iff, lenB_iff, List.all_eq_true, List.mem_map, id_eq, forall_exists_index, and_imp, forall_apply_eq_imp_iff₂]
  constructor
  · rintro ⟨⟨h1, h2⟩, ⟨⟨h3, h4⟩, h5, h6⟩, h7⟩
    refine ⟨h1, h2, by omega, by omega, by unfold nst; omega, by unfold nst; omega, fun t ht => ?_, fun t ht r hr => ?_, fun t ht r hr e he => ?_⟩
    · have := (h7 t ht).1
      unfold nst
      omega
    · have := ((h7 t ht).2 r hr).1
      omega
    · have := ((h7 t ht).2 r hr).2 e he
      unfold nst
      omega
  · intro h
    have := h.b1
    have := h.b2
    have := h.t1
    have := h.t2
    have h1 := h.n1
    have h2 := h.n2
    unfold nst at h1 h2
    refine ⟨⟨h.b1, h.b2⟩, ⟨⟨by omega, by omega⟩, by omega, by omega⟩, fun t ht => ⟨?_, fun r hr => ⟨?_, fun e he => ?_⟩⟩⟩
    · have := h.rows t ht
      unfold nst at this
      omega
    · have := h.figs t ht r hr
      omega
    · have := h.ents t ht r hr e he
      unfold nst at this
      omega


theorem take_succ_get {α : Type} {xs : List α} {i : Nat} {x : α} (h : xs[i]? = some x) : xs.take (i + 1) = xs.take i ++ [x] := by
  rw [List.take_add_one, h]
  rfl
theorem atI_int {α : Type} {xs : List α} {i : Int} {v : α} (h0 : 0 ≤ i) (h : xs[i.toNat]? = some v) : atI xs i = some v := by
  have e := atI_nat h
  rwa [Int.toNat_of_nonneg h0] at e
end My


set_option maxHeartbeats 2000000
namespace L2
open PySem PySem.Spec PyProof.Rows
theorem ObjOk.there {P : Program} {w : World} {H : Hp} {h : Heap} {a : Addr} {o : HO} (x : ObjOk P w H h a o) : ∃ u, h.get? a = some u := by
  cases o with
  | lst xs => obtain ⟨_, _, _, _, e⟩ := x; exact ⟨_, e⟩
  | tup xs => obtain ⟨_, _, _, u, e, _⟩ := x; exact ⟨_, e⟩
  | dK kvs => obtain ⟨_, _, _, _, o, _, _, e, _⟩ := x; exact ⟨_, e⟩
  | dT kvs => obtain ⟨_, _, _, _, o, _, _, e, _⟩ := x; exact ⟨_, e⟩
  | set S n => obtain ⟨o, _, _, _, e, _⟩ := x; exact ⟨_, e⟩
  | ins C dx fs => obtain ⟨_, _, _, e, _⟩ := x; exact ⟨_, e⟩
  | own y => obtain ⟨_, e⟩ := x; exact ⟨_, e⟩
  | xd fs => obtain ⟨_, ⟨_, _, _, e, _⟩, _⟩ := x; exact ⟨_, e⟩
  | rng lo hi => obtain ⟨_, _, _, e⟩ := x; exact ⟨_, e⟩
  | frz ob u => obtain ⟨e, _⟩ := x; exact ⟨_, e⟩
  | tbl ps => exact ⟨_, (show h.get? a = some _ from x)⟩
  | met f y => exact ⟨_, (show h.get? a = some _ from x)⟩
  | ext φ => obtain ⟨_, ⟨_, e⟩, _⟩ := x; exact ⟨_, e⟩

structure Fly (outer : List Env) (H : Hp) (h0 : Heap) (a C : Addr) (H' : Hp) (h : Heap) : Prop where
  ex : ∃ B t, Heap.FlyingW B outer a (.ref C) (.ref t) h ∧ (∀ b o, h0.get? b = some o → b ∉ frs outer → ∃ o', B.get? b = some o' ∧ (H b = none → o' = o)) ∧ ∀ b ob, H' b = some ob → ∃ o, B.get? b = some o

noncomputable def CXR (P : Program) (w : World) : CXT := fun outer H s E e s' => ∃ (a C : Addr) (H' : Hp), e = .ref a ∧ s'.os = s.os ∧ AllBare s'.gens ∧ Un (frs outer) [] H H' s.heap s'.heap ∧ HOk P w H' s'.heap ∧ H' a = none ∧ s.heap.get? a = none ∧ Fly outer H s.heap a C H' s'.heap ∧ E (.ref C) none H'
theorem frs_cons {env : Env} {l : List Env} {L : Addr} (h : env.frame = some L) : frs (env :: l) = L :: frs l := by
  unfold frs
  rw [List.filterMap_cons, h]

theorem hok_stays {P : Program} {w : World} {H : Hp} {B h h' : Heap} (ok : HOk P w H h) (c : ∀ b ob, H b = some ob → ∃ o, B.get? b = some o) (s1 : B.StaysIn h) (s2 : B.StaysIn h') : HOk P w H h' := fun b ob e => by
  refine (ok b ob e).stay (fun d v hd q => ?_) (fun _ q => q) fun _ _ q => q
  have hd' : ∃ o, B.get? d = some o := by
    rcases hd with rfl | hd
    · exact c _ _ e
    · exact c _ _ hd
  obtain ⟨o, ho⟩ := hd'
  have := s1 _ _ ho
  rw [q] at this
  cases this
  exact s2 _ _ ho
section
variable {X : Cx} {pins : List (Addr × Obj)} {σ : St} {H : Hp} {s : Shared}
theorem Inv.old (I : Inv X pins σ H s) {b : Addr} {o : Obj} (e : X.s₀.heap.get? b = some o) : b ≠ X.env.locals := Nat.ne_of_lt (Nat.lt_of_lt_of_le (Heap.lt_size e) I.ok.above)

theorem Inv.flown {H' : Hp} {B h h' : Heap} (I : Inv X pins σ H' { s with heap := h }) (hex : X.ex = []) (cov : ∀ b o, X.s₀.heap.get? b = some o → b ∉ X.fs → ∃ o', B.get? b = some o' ∧ (X.H₀ b = none → o' = o)) (st : B.StaysIn h') (up : ∀ b o, b ∈ X.fs → h.get? b = some o → (∀ vs, o.data ≠ .fields vs) → ∃ sl, h'.get? b = some { o with slots := sl }) :
    Un X.fs [] X.H₀ H' X.s₀.heap h' := by
  have nx : ∀ b : Addr, b ∉ X.ex := fun b => by rw [hex]; simp
  have slot : ∀ b o, X.s₀.heap.get? b = some o → b ∈ X.fs → ∃ sl, h'.get? b = some { o with slots := sl } := fun b o e hb => by
    obtain ⟨sl, e1⟩ := I.base.slot b o e (I.ok.frf b hb) hb (nx b)
    obtain ⟨_, o', ho', hd⟩ := I.ok.funs.mem hb
    rw [e] at ho'
    cases ho'
    obtain ⟨sl', e2⟩ := up b _ hb e1 hd
    exact ⟨sl', e2⟩
  refine ⟨fun b o e n hb _ => ?_, fun b o e n hb _ => slot b o e hb, fun b o e n _ => I.base.free b o e n (nx b), fun b o e _ => ?_, I.base.tups, I.base.frzs, I.base.tbls⟩
  · obtain ⟨o', e1, e2⟩ := cov b o e hb
    rw [e2 n] at e1
    exact st _ _ e1
  · by_cases hb : b ∈ X.fs
    · obtain ⟨sl, e1⟩ := slot b o e hb
      exact ⟨_, e1⟩
    · obtain ⟨o', e1, _⟩ := cov b o e hb
      exact ⟨_, st _ _ e1⟩

theorem made_leaves {h' : Heap} {e C : Addr} {vs : List Value} {E : XK} {E' : Value → Shared → Prop} (I : Inv X pins σ H s) (hs : X.stack = X.env :: X.outer) (hf : X.env.frame = some X.env.locals) (hex : X.ex = []) (hx : Heap.MadeExcOf s.heap h' e (.ref C) vs) (q : E (.ref C) none H) :
    wpAny (model X.prog X.w) X.A (leaving X.env (.ref e)) (fun _ s'' => CXR X.prog X.w X.outer X.H₀ X.s₀ E (.ref e) s'') E' { s with heap := h' } := by
  obtain ⟨B, hB⟩ : ∃ B, B = PySem.W.hideAll s.heap (frs X.stack) := ⟨_, rfl⟩
  have hkb : B.StaysIn s.heap := fun b o z => PySem.W.of_hideAll _ (by rw [hB] at z; exact z)
  have inB : ∀ b o, s.heap.get? b = some o → b ∉ frs X.stack → B.get? b = some o := fun b o z n => by rw [hB]; exact PySem.W.hideAll_get _ z n
  have hl : s.heap.FunFrames B (X.env :: X.outer) := by
    have := PySem.W.funFrames_hide (as := frs X.stack) I.stack fun env he a ha => List.mem_filterMap.mpr ⟨env, he, ha⟩
    rw [← hB, hs] at this
    exact this
  have fst : frs X.stack = X.env.locals :: X.fs := by rw [hs]; exact frs_cons hf
  refine wpAny_leaves_madeW (base := B) (outer := X.outer) (L := X.env.locals) (by rw [I.ok.frames, hs]) hf hkb hl hx fun h2 t fl _ _ up => ?_
  have st : B.StaysIn h2 := fl.1
  have nx : ∀ b : Addr, b ∉ X.ex := fun b => by rw [hex]; simp
  have cov : ∀ b o, X.s₀.heap.get? b = some o → b ∉ X.fs → ∃ o', B.get? b = some o' ∧ (X.H₀ b = none → o' = o) := fun b o z n => by
    have nb : b ∉ frs X.stack := by
      rw [fst, List.mem_cons, not_or]
      exact ⟨I.old z, n⟩
    obtain ⟨o1, e1⟩ := I.base.there b o z (nx b)
    refine ⟨o1, inB _ _ e1 nb, fun n0 => ?_⟩
    have := I.base.keep b o z n0 n (nx b)
    rw [e1] at this
    exact Option.some.inj this
  have cov2 : ∀ b ob, H b = some ob → ∃ o, B.get? b = some o := fun b ob z => by
    obtain ⟨u, hu⟩ := (I.hok b ob z).there
    refine ⟨u, inB _ _ hu fun n => ?_⟩
    rw [I.stkFree b n] at z
    cases z
  refine ⟨e, C, H, rfl, I.os, I.bare, ?_, hok_stays I.hok cov2 hkb st, ?_, ?_, ⟨B, t, fl, cov, cov2⟩, q⟩
  · refine Inv.flown (s := s) (h := s.heap) I hex cov st fun b o hb z hd => ?_
    exact up b o (hx.keeps _ _ z) hd
  · cases z : H e with
    | none => rfl
    | some ob =>
      obtain ⟨u, hu⟩ := (I.hok e ob z).there
      rw [hx.new] at hu
      cases hu
  · cases z : X.s₀.heap.get? e with
    | none => rfl
    | some o =>
      obtain ⟨u, hu⟩ := I.base.there e o z (nx e)
      rw [hx.new] at hu
      cases hu

theorem flown_leaves {s' : Shared} {e : Value} {E : XK} {E' : Value → Shared → Prop} (I : Inv X pins σ H s) (hs : X.stack = X.env :: X.outer) (hf : X.env.frame = some X.env.locals) (hex : X.ex = []) (hx : CXR X.prog X.w X.stack H s E e s') :
    wpAny (model X.prog X.w) X.A (leaving X.env e) (fun _ s'' => CXR X.prog X.w X.outer X.H₀ X.s₀ E e s'') E' s' := by
  obtain ⟨a, C, H', rfl, ho, hb, un, hok, na, sa, ⟨B, t, fl, cov, cov2⟩, q⟩ := hx
  have I2 : Inv X pins σ H' s' := I.call' (ch := []) ho un hok hb fun _ z => by cases z
  have fst : frs X.stack = X.env.locals :: X.fs := by rw [hs]; exact frs_cons hf
  have nx : ∀ b : Addr, b ∉ X.ex := fun b => by rw [hex]; simp
  rw [hs] at fl
  refine wpAny_leaves_onW (L := X.env.locals) (by rw [I.ok.frames, hs]) hf fl fun h2 fl2 up => ?_
  have st : B.StaysIn h2 := fl2.1
  have cov' : ∀ b o, X.s₀.heap.get? b = some o → b ∉ X.fs → ∃ o', B.get? b = some o' ∧ (X.H₀ b = none → o' = o) := fun b o z n => by
    have nb : b ∉ frs X.stack := by
      rw [fst, List.mem_cons, not_or]
      exact ⟨I.old z, n⟩
    obtain ⟨o1, e1⟩ := I.base.there b o z (nx b)
    obtain ⟨o2, e2, e3⟩ := cov b o1 e1 nb
    refine ⟨o2, e2, fun n0 => ?_⟩
    have h1 := I.base.keep b o z n0 n (nx b)
    rw [e1] at h1
    cases h1
    exact e3 (I.base.free b o z n0 (nx b))
  refine ⟨a, C, H', rfl, ho.trans I.os, hb, ?_, hok_stays hok cov2 fl.1 st, na, ?_, ⟨B, t, fl2, cov', cov2⟩, q⟩
  · refine Inv.flown (s := s') (h := s'.heap) I2 hex cov' st fun b o hb z hd => ?_
    exact up b o z hd
  · cases z : X.s₀.heap.get? a with
    | none => rfl
    | some o =>
      obtain ⟨u, hu⟩ := I.base.there a o z (nx a)
      rw [sa] at hu
      cases hu
end

structure Lets (X : Cx) (E : XK) : Prop where
  made : ∀ (pins : List (Addr × Obj)) (σ : St) (H : Hp) (s : Shared) (h' : Heap) (e C : Addr) (vs : List Value), Inv X pins σ H s → Heap.MadeExcOf s.heap h' e (.ref C) vs → E (.ref C) none H → X.xe (.ref e) { s with heap := h' }
  pass : Passes (CXR X.prog X.w) X E
theorem lets_of {P : Program} {w : World} {K : PySem.W.Frag} {mg : Str → Option Value} {base : Heap} {N : List Str} {qual : Str} {scope : Scope} {f : Addr} {cd : Value} {A : Around} {outer : List Env} {s0 : Shared} {H0 : Hp} {E : XK} : Lets (cxOf (CXR P w) P w K mg base N qual scope f cd A outer s0 H0 E) E where
  made := fun pins σ H s h' e C vs I hx q => made_leaves I rfl rfl rfl hx q
  pass := fun pins σ H s e s' I hx => flown_leaves I rfl rfl rfl hx
end L2


set_option maxHeartbeats 2000000
namespace L2
open PySem PySem.Spec PyProof.Rows
noncomputable abbrev bmVE : List Value := [.type "ValueError", .type "Exception", .type "BaseException", .type "object"]

noncomputable def mroT (K : PySem.W.Frag) (C : Addr) : List Value := match K.lookup C with
  | some ⟨_, _, .cls cd, _⟩ => cd.mro.tail
  | _ => []

structure ExcAt (K : PySem.W.Frag) (C : Addr) (tl : List Value) : Prop where
  exc : PySem.W.excIn K C bmVE "ValueError.__new__" = true
  mro : mroT K C = tl
theorem ExcAt.obj {K : PySem.W.Frag} {C : Addr} {tl : List Value} {h : Heap} (X : K.In h) (x : ExcAt K C tl) :
    ∃ N nm q bs hdct sn sub ab col dd k0 k1 k2 k3 k5 mN, h.get? C = some (excClassObj nm q C N bs tl hdct sn sub ab col dd k0 k1 k2 k3 k5 "ValueError.__new__") ∧ h.Ns N mN ∧ mN "__init__" = none ∧ OwnTail h bmVE tl ∧ ∀ h2, K.In h2 → h2.get? C = h.get? C ∧ h2.get? N = h.get? N := by
  obtain ⟨q, m⟩ := x
  unfold PySem.W.excIn at q
  unfold mroT at m
  split at q
  · rename_i dd cd sl ho
    rw [ho] at m
    split at q
    · rename_i C' bm k0 k1 k2 k3 n k5 hm hs
      simp only [Bool.and_eq_true, beq_iff_eq, Bool.not_eq_true'] at q
      obtain ⟨⟨⟨⟨⟨rfl, rfl⟩, hdel⟩, ht⟩, hok⟩, hni⟩ := q
      obtain ⟨nm, bs, mro, ns, qn, hd, sn, sub, ab, col, del⟩ := cd
      dsimp only at hm hdel hok hni m
      subst hm hdel
      have hsl : sl = #[k0, k1, k2, k3, some (.builtin "ValueError.__new__"), k5] := by
        obtain ⟨l⟩ := sl
        simp only at hs
        rw [hs]
      subst hsl
      have m' : bm = tl := m
      subst m'
      refine ⟨ns, nm, qn, bs, hd, sn, sub, ab, col, dd, k0, k1, k2, k3, k5, _, X _ _ ho, .of_isNs (PySem.W.isNs_of_in X hok), PySem.W.nsMap_none_of_in X hok hni, PySem.W.tail_of_in X ht, fun h2 X2 => ⟨(X2 _ _ ho).trans (X _ _ ho).symm, ?_⟩⟩
      unfold PySem.W.nsOkIn at hok
      split at hok
      · rename_i hN
        exact (X2 _ _ hN).trans (X _ _ hN).symm
      · cases hok
    · cases q
  · cases q
theorem ExcAt.tail {K : PySem.W.Frag} {C : Addr} {tl : List Value} (x : ExcAt K C tl) : PySem.W.tailIn K bmVE tl = true := by
  obtain ⟨q, m⟩ := x
  unfold PySem.W.excIn at q
  unfold mroT at m
  split at q
  · rename_i dd cd sl ho
    rw [ho] at m
    split at q
    · rename_i C' bm k0 k1 k2 k3 n k5 hm hs
      simp only [Bool.and_eq_true, beq_iff_eq, Bool.not_eq_true'] at q
      have m' : bm = tl := by
        rw [← m]
        show bm = cd.mro.tail
        rw [hm]
        rfl
      rw [← m']
      exact q.1.1.2
    · cases q
  · cases q
section
variable {X : Cx} {x : Str} {e : Expr} {es : List Expr} {t : TA} {p pos np cpos : Pos} {C : Addr} {tl : List Value} {E : XK}

noncomputable def sRaise (C : Addr) (E : XK) (t : TA) : TS := fun _ σ H => t σ H fun vs H1 => vs.length ≤ sizeLine ∧ E (.ref C) none H1
theorem ps_raise (L : Lets X E) (hc : X.calm = true) (hg : Gl X x) (hm : X.mg x = some (.ref C)) (ex : ExcAt X.K C tl) (ha : PA X (e :: es) t) (hdb : (x == ("__debug__" : Str)) = false := by decide)
    (he : starEach (e :: es) X.env = (false, eval e X.env) :: starEach es X.env := by rfl) (hpl : (backTo cpos (starEach es X.env)).any (·.1) = false := by rfl) :
    PS X (.Raise (some (.Call (.Name x np) (e :: es) [] cpos)) none pos) (sRaise C E t) := by
  intro pins s σ H D I h
  obtain ⟨N, nm, q, bs, hdct, sn, sub, ab, col, dd, k0, k1, k2, k3, k5, mN, hC, hN, hni, T, two⟩ := ex.obj I.kIn
  refine wpAny_Raise_call_subT (C := C) (nm := nm) (q := q) (N := N) (bs := bs) (bm := tl) (hdct := hdct) (sn := sn) (sub := sub) (ab := ab) (col := col) (dd := dd) (k0 := k0) (k1 := k1) (k2 := k2) (k3 := k3) (k5 := k5)
    PySem.F.excBase_ValueError (mN := mN) (T.hasType PySem.F.excBase_ValueError.hasBase) (I.ok.hd hc) (by rw [he]; show (false || (backTo cpos (starEach es X.env)).any (·.1)) = false; rw [hpl]; rfl) hni (ld_glob I hg hm ⟨rfl, ?_⟩ hdb)
  have hA := ha cpos pins s σ H _ I h
  rw [he] at hA ⊢
  refine Calls.evalArgs_plain (thn hA fun us s2 z => ?_)
  obtain ⟨vs, H2, I2, r2, q2, q3⟩ := z
  obtain ⟨eC, eN⟩ := two s2.heap I2.kIn
  have hNN : s2.heap.Ns N mN := by
    obtain ⟨o, es, ep, ho, r⟩ := hN
    exact ⟨o, es, ep, eN.trans ho, r⟩
  exact ⟨rfl, by rw [← r2.length]; exact q2, eC.trans hC, hNN, PySem.W.tail_of_in I2.kIn ex.tail, fun h' e' hm' => L.made pins σ H2 s2 h' e' C us I2 hm' q3⟩

noncomputable def HasX (P : Program) (w : World) (K : PySem.W.Frag) (mg : Str → Option Value) (base : Heap) (x : Str) (k : Nat) (ps : List Str) (sp : Sp) : Prop :=
  ∃ f fd, mg x = some (.ref f) ∧ PySem.W.keepIn K (.ref f) = true ∧ Binds K fd ps [] ∧ FnOk P w K mg base (CXR P w) k f fd ps sp
theorem pe_fnX {k : Nat} {ps : List Str} {sp : Sp} (h : HasX X.prog X.w X.K X.mg X.base x k ps sp) (hr : Room k X.A) (hp : Passes (CXR X.prog X.w) X E) (ha : PA X (e :: es) t) (hg : Gl X x := by rfl) (hdb : (x == ("__debug__" : Str)) = false := by decide)
    (he : starEach (e :: es) X.env = (false, eval e X.env) :: starEach es X.env := by rfl) (hpl : (backTo pos (starEach es X.env)).any (·.1) = false := by rfl) : PE X (.Call (.Name x p) (e :: es) [] pos) (tCall sp [] E t) := by
  obtain ⟨f, fd, hm, hk, hb, F⟩ := h
  exact pe_call F hr hg hm hk hb .nil hp ha hdb he hpl
end
section
variable {P : Program} {w : World} {K : PySem.W.Frag} {mg : Str → Option Value} {base : Heap}

theorem Fun.okX {x qual : Str} {st : Stmt} {f : Addr} {fd : FuncData} {N ps : List Str} {k : Nat} {sp : Sp} (F : Fun K x qual st f fd) (S : FnScope N ps (defScope st)) (len : ∀ vs H Q E, sp vs H Q E → vs.length = ps.length)
    (hbody : ∀ (cdv : Value) (A : Around) (outer : List Env) (s : Shared) (H : Hp) (vs : List V) (Q : VK) (E : XK), Room k (A.deeper (envOfC qual (defScope st) s.heap.objs.size f cdv)) → sp vs H Q E →
      Lets (cxOf (CXR P w) P w K mg base N qual (defScope st) f cdv A outer s H E) E →
      ∃ t, PSs (cxOf (CXR P w) P w K mg base N qual (defScope st) f cdv A outer s H E) (defBody st) t ∧ t { nx := fun _ H' => Q .non H', rt := Q } (start N vs) H) : FnOk P w K mg base (CXR P w) (k + 1) f fd ps sp := by
  obtain ⟨oc, od, kV, doc, pm, an, cdv, ct, osl, rfl, lk, hcd⟩ := F.ex
  exact fn_of lk hcd S len fun A outer s H vs Q E hr hsp => hbody cdv A outer s H vs Q E hr hsp lets_of
end
end L2


set_option maxHeartbeats 2000000
namespace L2
open PySem PySem.Spec PyProof.Rows
section
variable {M : Model} {A : Around} {E : Value → Shared → Prop}
variable {nm q nm' q' : Str} {C N S N' : Addr} {bs bm bs' bm' : List Value} {hdct hdct' : Bool} {sn sn' : List Str} {sub sub' : List Value} {ab ab' : Bool} {col col' : Option Bool} {dd dd' : Option Addr} {k0 k1 k2 k3 k5 k0' k1' k2' k3' k5' : Option Value} {newId newId' : String}

theorem excMatches_sup {h : Heap} {g : Array GenState} {d : Drawn} {t : Nat} {os : OsState} {e : Addr} {oe : Obj} {Q : Bool → Shared → Prop}
    (hC : h.get? C = some (excClassObj nm q C N bs bm hdct sn sub ab col dd k0 k1 k2 k3 k5 newId)) (hS : h.get? S = some (excClassObj nm' q' S N' bs' bm' hdct' sn' sub' ab' col' dd' k0' k1' k2' k3' k5' newId')) (he : h.get? e = some oe) (hcls : oe.cls = .ref C)
    (hbase : bm'.contains (.type "BaseException") = true) (hin : bm.contains (.ref S) = true) (hq : Q true ⟨h, g, d, t, os⟩) : wpAny M A (excMatches (.ref e) (.ref S)) Q E ⟨h, g, d, t, os⟩ := by
  have hcB : (Value.ref S :: bm').contains (.type "BaseException") = true := by rw [List.contains_cons, hbase, Bool.or_true]
  have hcC : (Value.ref C :: bm).contains (.ref S) = true := by rw [List.contains_cons, hin, Bool.or_true]
  have f := tc_notTuple
  unfold excMatches
  repeat (first | (with_reducible refine wpAny_loadPart_at he ?_; rw [hcls]) | with_reducible refine wpAny_loadPart_at hS ?_ | (with_reducible refine wpAny_isSubtype_exc hS ?_; rw [hcB]) | (with_reducible refine wpAny_isSubtype_exc hC ?_; rw [hcC]) | wp_step)
  exact hq
end
section
variable {prog : Program} {w : World} {A : Around} {E : Value → Shared → Prop} {s : Shared} {env : Env}
theorem handleBy_sup_as {e C S : Addr} {tlC tlS : List Value} {K : PySem.W.Frag} {t : Expr} {n : Str} {b₀ : Stmt} {suite : List Stmt} {pos : Pos} {rest : List ExceptHandler} {Q : Flow → Shared → Prop}
    (xC : ExcAt K C tlC) (xS : ExcAt K S tlS) (hin : tlC.contains (.ref S) = true)
    (h : wpAny (model prog w) (A.mark (some (.ref e))) (eval t env) (fun c s₁ => c = .ref S ∧ K.In s₁.heap ∧ (∃ oe, s₁.heap.get? e = some oe ∧ oe.cls = .ref C) ∧
      wpAny (model prog w) (A.mark (some (.ref e))) (setFlight (.ref e) none) (fun _ s₂ =>
          wpAny (model prog w) (A.mark (some (.ref e))) (storeName env n (.ref e)) (fun _ s₃ =>
            wpAny (model prog w) (A.mark (some (.ref e))) (execs (b₀ :: suite) env)
              (fun f s₄ => wpAny (model prog w) A (do bindName env n .none; unbindBehindTheSuite env n pos) (fun _ s₅ => Q f s₅) E s₄)
              (fun _ _ => False) s₃) (fun _ _ => False) s₂) (fun _ _ => False) s₁) (fun _ _ => False) s) :
    wpAny (model prog w) A (handleBy (.ref e) env (.ExceptHandler (some t) (some n) (b₀ :: suite) pos :: rest)) Q E s := by
  refine wpAny_handleBy_cons (codeAny_handlers_test (wpAny_mono h (fun c s₁ h₁ => ?_) fun _ _ y => y.elim)) (by intro q; cases q)
  obtain ⟨rfl, hK, ⟨oe, he, hcls⟩, hk⟩ := h₁
  obtain ⟨N, nm, q, bs, hdct, sn, sub, ab, col, dd, k0, k1, k2, k3, k5, mN, hC, _, _, _, _⟩ := xC.obj hK
  obtain ⟨N', nm', q', bs', hdct', sn', sub', ab', col', dd', k0', k1', k2', k3', k5', mN', hS, _, _, T', _⟩ := xS.obj hK
  obtain ⟨hh, g, d, tk, os⟩ := s₁
  refine excMatches_sup hC hS he hcls (T'.hasType PySem.F.excBase_ValueError.hasBase) hin (codeAny_handlers_suite_as ?_)
  exact wpAny_mono hk (fun _ s₂ h₂ => wpAny_mono h₂ (fun _ s₃ h₃ => wpAny_mono h₃ (fun _ _ z => z) fun _ _ y => y.elim) fun _ _ y => y.elim) fun _ _ y => y.elim
end

noncomputable def excφ (a C : Addr) : Heap → Prop := fun h => ∃ o, h.get? a = some o ∧ o.cls = .ref C

noncomputable abbrev Cx.tries (X : Cx) (pn : List (Addr × Obj)) (xe : Value → Shared → Prop) : Cx := { X with pn := pn, xe := xe }
noncomputable abbrev Cx.suite (X : Cx) (pn : List (Addr × Obj)) (e : Addr) : Cx := { X with A := X.A.mark (some (.ref e)), calm := false, pn := pn, xe := fun _ _ => False }
section
variable {X : Cx} {pins : List (Addr × Obj)} {σ : St} {H H' : Hp} {s : Shared}
theorem Inv.tries (I : Inv X pins σ H s) (xe : Value → Shared → Prop) : Inv (X.tries (X.pn ++ pins) xe) [] σ H s :=
  ⟨⟨I.ok.mod, I.ok.kind, I.ok.glob, I.ok.blt, I.ok.above, I.ok.inj, I.ok.has, I.ok.cab, I.ok.hd, I.ok.frames, I.ok.stk, I.ok.exf, I.ok.bs, I.ok.bsz, I.ok.noex, I.ok.exfs, I.ok.funs, I.ok.frf⟩, I.os, I.bare, I.base, I.loc, I.cell, I.free, I.freeC, fun p hp => I.pin p (by simpa using hp), I.hok, I.len⟩
theorem Inv.untries {pn pins' : List (Addr × Obj)} {xe : Value → Shared → Prop} (ok : X.Ok) (I : Inv (X.tries pn xe) pins' σ H s) (hp : ∀ p ∈ X.pn ++ pins, p ∈ pn ++ pins') : Inv X pins σ H s :=
  ⟨ok, I.os, I.bare, I.base, I.loc, I.cell, I.free, I.freeC, fun p q => I.pin p (hp p q), I.hok, I.len⟩
theorem Inv.suite (I : Inv X pins σ H s) (e : Addr) : Inv (X.suite (X.pn ++ pins) e) [] σ H s :=
  ⟨⟨I.ok.mod, I.ok.kind, I.ok.glob, I.ok.blt, I.ok.above, I.ok.inj, I.ok.has, I.ok.cab, (fun z => by cases z), I.ok.frames, I.ok.stk, I.ok.exf, I.ok.bs, I.ok.bsz, I.ok.noex, I.ok.exfs, I.ok.funs, I.ok.frf⟩, I.os, I.bare, I.base, I.loc, I.cell, I.free, I.freeC, fun p hp => I.pin p (by simpa using hp), I.hok, I.len⟩
theorem Inv.unsuite {e : Addr} (ok : X.Ok) (I : Inv (X.suite (X.pn ++ pins) e) [] σ H s) : Inv X pins σ H s :=
  ⟨ok, I.os, I.bare, I.base, I.loc, I.cell, I.free, I.freeC, fun p q => I.pin p (by simpa using q), I.hok, I.len⟩
theorem SP.untries {xe : Value → Shared → Prop} {D : Ends} {f : Flow} {s' : Shared} (ok : X.Ok) (h : SP (X.tries (X.pn ++ pins) xe) [] D f s') : SP X pins D f s' := by
  have w : ∀ {σ' H'}, Inv (X.tries (X.pn ++ pins) xe) [] σ' H' s' → Inv X pins σ' H' s' := fun I => I.untries ok fun p q => by simpa using q
  cases f with
  | next => obtain ⟨σ', H', I, q⟩ := h; exact ⟨σ', H', w I, q⟩
  | brk => obtain ⟨σ', H', I, q⟩ := h; exact ⟨σ', H', w I, q⟩
  | cont => obtain ⟨σ', H', I, q⟩ := h; exact ⟨σ', H', w I, q⟩
  | ret u => obtain ⟨v, σ', H', I, r, q⟩ := h; exact ⟨v, σ', H', w I, r, q⟩

theorem Inv.track {a C : Addr} {o : Obj} (I : Inv X pins σ H s) (ha : X.s₀.heap.get? a = none) (hn : H a = none) (ho : s.heap.get? a = some o) (hc : o.cls = .ref C) (hL : a ≠ X.env.locals) (hcl : ∀ x c, X.env.cells.lookup x = some c → c ≠ a) (hp : ∀ p ∈ X.pn ++ pins, p.1 ≠ a) :
    Inv X pins σ (upd H a (.ext (excφ a C))) s := by
  have ne : ∀ b ob, H b = some ob → b ≠ a := fun b ob e z => by rw [z, hn] at e; cases e
  have ne0 : ∀ b ob, X.s₀.heap.get? b = some ob → b ≠ a := fun b ob e z => by rw [z, ha] at e; cases e
  refine ⟨I.ok, I.os, I.bare, ⟨I.base.keep, I.base.slot, fun b ob e n hx => ?_, I.base.there, fun b xs e => ?_, fun b ob u e => ?_, fun b ps e => ?_⟩, I.loc, I.cell, ?_, fun x c e => ?_, fun p q => ?_, fun b ob e => ?_, I.len⟩
  · rw [upd_ne (ne0 b ob e)]
    exact I.base.free b ob e n hx
  · have := I.base.tups b xs e
    rw [upd_ne (ne _ _ this)]
    exact this
  · have := I.base.frzs b ob u e
    rw [upd_ne (ne _ _ this)]
    exact this
  · obtain ⟨m, e1⟩ := I.base.tbls b ps e
    exact ⟨m, by rw [upd_ne (ne _ _ e1)]; exact e1⟩
  · rw [upd_ne (Ne.symm hL)]
    exact I.free
  · rw [upd_ne (hcl x c e)]
    exact I.freeC x c e
  · obtain ⟨e, n, r⟩ := I.pin p q
    exact ⟨e, by rw [upd_ne (hp p q)]; exact n, r⟩
  · by_cases hb : b = a
    · subst hb
      rw [upd_same] at e
      cases e
      exact ⟨⟨o, ho, hc⟩, ⟨o, ho⟩, fun h1 h2 ⟨u, hu, hcu⟩ k => ⟨u, k u hu, hcu⟩⟩
    · rw [upd_ne hb] at e
      exact (I.hok b ob e).stay (fun _ _ _ q => q) (fun c q => by rw [upd_ne (ne _ _ q)]; exact q) fun c xs q => by rw [upd_ne (ne _ _ q)]; exact q

theorem Inv.landed {s' : Shared} {a C : Addr} {B h5 : Heap} (I : Inv X pins σ H s) (ho : s'.os = s.os) (hb : AllBare s'.gens) (un : Un (frs X.stack) [] H H' s.heap s'.heap) (hok : HOk X.prog X.w H' s'.heap)
    (cov : ∀ b o, s.heap.get? b = some o → b ∉ frs X.stack → ∃ o', B.get? b = some o' ∧ (H b = none → o' = o)) (cov2 : ∀ b ob, H' b = some ob → ∃ o, B.get? b = some o) (st : B.StaysIn s'.heap) (st5 : B.StaysIn h5) (up : s'.heap.UpToSlots h5) :
    Inv X pins σ H' { s' with heap := h5 } := by
  have slot : ∀ b o, s.heap.get? b = some o → b ∈ frs X.stack → ∃ sl, h5.get? b = some { o with slots := sl } := fun b o e hb => by
    obtain ⟨sl, e1⟩ := un.slot b o e (I.stkFree b hb) hb (by simp)
    obtain ⟨_, o', ho', hd⟩ := I.stack.mem hb
    rw [e] at ho'
    cases ho'
    obtain ⟨sl', e2⟩ := up b _ e1 hd
    exact ⟨sl', e2⟩
  refine I.call' (s' := { s' with heap := h5 }) (ch := []) ho ⟨fun b o e n hb _ => ?_, fun b o e n hb _ => slot b o e hb, un.free, fun b o e _ => ?_, un.tups, un.frzs, un.tbls⟩ (hok_stays hok cov2 st st5) hb fun _ z => by cases z
  · obtain ⟨o', e1, e2⟩ := cov b o e hb
    rw [e2 n] at e1
    exact st5 _ _ e1
  · by_cases hb : b ∈ frs X.stack
    · obtain ⟨sl, e1⟩ := slot b o e hb
      exact ⟨_, e1⟩
    · obtain ⟨o', e1, _⟩ := cov b o e hb
      exact ⟨_, st5 _ _ e1⟩

theorem Inv.forget {h' : Heap} {t' : Nat} {m' : Str → Option Value} (I : Inv X pins σ H s) (hn : h'.Ns X.env.locals m') (hs : Heap.SameBut X.env.locals s.heap h') : Inv X pins (List.replicate X.N.length none) H { s with heap := h', toks := t' } := by
  have old : ∀ b o, X.s₀.heap.get? b = some o → b ≠ X.env.locals := fun b o e => Nat.ne_of_lt (Nat.lt_of_lt_of_le (Heap.lt_size e) I.ok.above)
  refine ⟨I.ok, I.os, I.bare, ⟨fun b o e n hb hx => ?_, fun b o e n hb hx => ?_, I.base.free, fun b o e hx => ?_, I.base.tups, I.base.frzs, I.base.tbls⟩, ⟨m', hn, fun i x v _ e2 _ => ?_⟩, fun y c e => ?_, I.free, I.freeC, fun p hp => ?_, fun b ob e => ?_, by simp⟩
  · exact (hs.2 b (old b o e)).trans (I.base.keep b o e n hb hx)
  · obtain ⟨sl, e1⟩ := I.base.slot b o e n hb hx
    exact ⟨sl, (hs.2 b (old b o e)).trans e1⟩
  · obtain ⟨o', e1⟩ := I.base.there b o e hx
    exact ⟨o', (hs.2 b (old b o e)).trans e1⟩
  · rw [List.getElem?_replicate] at e2
    split at e2 <;> cases e2
  · obtain ⟨w', z⟩ := I.cell y c e
    exact ⟨w', z.sameBut hs (I.cne y c e)⟩
  · obtain ⟨e, n, ne, nf, d⟩ := I.pin p hp
    exact ⟨(hs.2 p.1 ne).trans e, n, ne, nf, d⟩
  · refine (I.hok b ob e).stay (fun c v hc z => (hs.2 c ?_).trans z) (fun _ z => z) fun _ _ z => z
    rintro rfl
    rcases hc with rfl | hc
    · rw [I.free] at e
      cases e
    · rw [I.free] at hc
      cases hc
end

noncomputable def xTry (K : PySem.W.Frag) (N : List Str) (i : Nat) (S : Addr) (ts : List (Addr × Obj) → Addr → TS) (D : Ends) : XK := fun Cv _ H' => ∃ C tl, Cv = .ref C ∧ ExcAt K C tl ∧ tl.contains (.ref S) = true ∧
  ∀ pn a, H' a = none → ts pn a { nx := fun _ _ => False, rt := D.rt } ((List.replicate N.length none).set i (some (.ref a))) (upd H' a (.ext (excφ a C)))

noncomputable def tTry (K : PySem.W.Frag) (N : List Str) (i : Nat) (S : Addr) (tb : XK → TS) (ts : List (Addr × Obj) → Addr → TS) : TS := fun D σ H => tb (xTry K N i S ts D) D σ H
theorem ps_try {X : Cx} {body suite : List Stmt} {b₀ : Stmt} {x n : Str} {np hpos pos : Pos} {i : Nat} {S : Addr} {tlS : List Value} {tb : XK → TS} {ts : List (Addr × Obj) → Addr → TS}
    (hb : ∀ pn xe E, Passes (CXR X.prog X.w) (X.tries pn xe) E → PSs (X.tries pn xe) body (tb E)) (hs : ∀ pn e, PSs (X.suite pn e) (b₀ :: suite) (ts pn e))
    (hk : X.stack = X.env :: X.outer) (hf : X.env.frame = some X.env.locals) (hex : X.ex = []) (hN : X.N.Nodup) (hi : X.N[i]? = some n) (hn : X.env.scope.names.lookup n = some .local) (hg : Gl X x) (hm : X.mg x = some (.ref S)) (xS : ExcAt X.K S tlS) (hdb : (x == ("__debug__" : Str)) = false := by decide) :
    PS X (.Try body [.ExceptHandler (some (.Name x np)) (some n) (b₀ :: suite) hpos] [] [] pos) (tTry X.K X.N i S tb ts) := by
  intro pins s σ H D I h
  refine wpAny_Try_except ?_
  have key : ∀ xe, Passes (CXR X.prog X.w) (X.tries (X.pn ++ pins) xe) (xTry X.K X.N i S ts D) → wpAny (model X.prog X.w) X.A (execs body X.env) (SP (X.tries (X.pn ++ pins) xe) [] D) xe s := fun xe hp => hb _ xe _ hp [] s σ H D (I.tries xe) h
  refine wpAny_mono (key _ ?_) (fun f s1 z => ?_) fun _ _ z => z
  · intro pins' σ' H1 s1 e s2 Iv hx
    obtain ⟨a, C, H2, rfl, ho, hbr, un, hok, na, sa, ⟨B, t, fl, cov, cov2⟩, C', tl, eC, xC, hin, q⟩ := hx
    cases eC
    have fl' : Heap.FlyingW B (X.env :: X.outer) a (.ref C) (.ref t) s2.heap := by rw [← hk]; exact fl
    show wpAny _ _ (noteFrame (.ref a) X.env) _ _ _
    refine wpAny_looks_onW (L := X.env.locals) (by rw [← hk]; exact I.ok.frames) hf fl' fun h4 held up4 => ?_
    refine wpAny_landsW held fun h5 fl5 up5 => ?_
    have up45 : s2.heap.UpToSlots h5 := up4.trans up5
    have I5 : Inv X pins σ' H2 { s2 with heap := h5 } := (Iv.landed (a := a) (C := C) ho hbr un hok cov cov2 fl'.1 fl5.1 up45).untries I.ok fun p z => List.mem_append_left _ z
    have I5s := I5.suite a
    obtain ⟨oe, vs, he, hcl, hd, _⟩ := fl5.first
    refine handleBy_sup_as xC xS hin (ld_glob (X := X.suite (X.pn ++ pins) a) I5s hg hm ⟨rfl, I5.kIn, ⟨oe, he, hcl⟩, ?_⟩ hdb)
    refine lands_againW fl5 fun h6 fl6 up6 => ?_
    have I6 : Inv X pins σ' H2 { s2 with heap := h6 } := (Iv.landed (a := a) (C := C) ho hbr un hok cov cov2 fl'.1 fl6.1 (up45.trans up6)).untries I.ok fun p z => List.mem_append_left _ z
    obtain ⟨oe6, vs6, he6, hcl6, hd6, _⟩ := fl6.first
    have I7 : Inv X pins σ' (upd H2 a (.ext (excφ a C))) { s2 with heap := h6 } := by
      refine I6.track ?_ na he6 hcl6 ?_ (fun y c e z => ?_) fun p hp z => ?_
      · cases z : X.s₀.heap.get? a with
        | none => rfl
        | some o =>
          obtain ⟨u, hu⟩ := Iv.base.there a o z (by show a ∉ X.ex; rw [hex]; simp)
          rw [sa] at hu
          cases hu
      · intro z
        obtain ⟨m, ⟨o, _, _, ho', _⟩, _⟩ := Iv.loc
        have : s1.heap.get? a = some o := by rw [z]; exact ho'
        rw [sa] at this
        cases this
      · obtain ⟨_, o, ho', _⟩ := Iv.cell y c e
        rw [z, sa] at ho'
        cases ho'
      · obtain ⟨e, _⟩ := Iv.pin p (List.mem_append_left _ hp)
        rw [z, sa] at e
        cases e
    refine store_ok (X := X.suite (X.pn ++ pins) a) (I7.suite a) hN hi (Or.inl hn) (v := .ref a) (u := .ref a) rfl (fun s7 I8 => ?_) (Or.inr hn)
    have I9 : Inv (X.suite (X.pn ++ pins) a) [] ((List.replicate X.N.length none).set i (some (.ref a))) (upd H2 a (.ext (excφ a C))) s7 := by
      have hl : σ'.length = X.N.length := I6.len
      refine I8.weak (by simp [hl]) fun j v e => ?_
      by_cases hj : i = j
      · subst hj
        have hlt : i < σ'.length := by rw [hl]; exact (List.getElem?_eq_some_iff.mp hi).1
        rw [List.getElem?_set_self (by simpa [hl] using hlt)] at e
        rw [List.getElem?_set_self hlt]
        exact e
      · rw [List.getElem?_set_ne hj, List.getElem?_replicate] at e
        split at e <;> cases e
    refine wpAny_mono (hs (X.pn ++ pins) a [] s7 _ _ _ I9 (q (X.pn ++ pins) a na)) (fun f s8 z => ?_) fun _ _ z => z
    cases f with
    | next => exact False.elim z.choose_spec.choose_spec.2
    | brk => exact False.elim z.choose_spec.choose_spec.2
    | cont => exact False.elim z.choose_spec.choose_spec.2
    | ret u =>
      obtain ⟨v, σ8, H8, I10, r, qr⟩ := z
      have I11 := I10.unsuite I.ok
      obtain ⟨m, hm', _⟩ := I11.loc
      refine wpAny_nameGoes hn hm' (by rw [I.ok.kind]; rfl) fun h9 m9 hn9 hs9 => ?_
      exact ⟨v, _, H8, I11.forget hn9 hs9, r, qr⟩
  · have z' := SP.untries I.ok z
    cases f with
    | next =>
      obtain ⟨σ', H', I', q⟩ := z'
      exact pss_nil pins s1 σ' H' D I' q
    | brk => exact z'
    | cont => exact z'
    | ret u => exact z'
end L2


set_option maxHeartbeats 2000000
namespace L2
open PySem PySem.Spec PyProof.Rows

structure ExcIs (K : PySem.W.Frag) (C : Addr) : Prop where
  ga : PySem.W.findIn K (.ref C) "__getattribute__" = some (some (.builtin "BaseException.__getattribute__"))
  gt : PySem.W.findIn K (.ref C) "__getattr__" = some none
  cl : PySem.W.findIn K (.ref C) "__class__" = some (some (.builtin "object.__class__"))
  mb : PySem.W.mroIn K C (.type "BaseException") = some true
  mo : PySem.W.mroIn K C (.type "object") = some true
  is : (PySem.W.clsIn K C).isSome = true
section
variable {prog : Program} {w : World} {A : Around} {E : Value → Shared → Prop} {h : Heap} {g : Array GenState} {d : Drawn} {t : Nat} {os : OsState} {a C : Addr} {o : Obj} {K : PySem.W.Frag}
theorem xcls_get {R : Result → Shared → Prop} (X : K.In h) (z : ExcIs K C) (hx : h.get? a = some o) (hc : o.cls = .ref C) (hq : R (.ok (.ret (.ref C))) ⟨h, g, d, t, os⟩) :
    codeAny (model prog w) A (.call (.builtin "getset_descriptor.__get__") ⟨[.builtin "object.__class__", .ref a, .ref C], []⟩) R ⟨h, g, d, t, os⟩ := by
  have hT5 : (⟨h, g, d, t, os⟩ : Shared).TypeIs (.builtin "object.__class__") "getset_descriptor" := F.typeOf_object_class
  have LS : PySem.W.Looks (model prog w) h (isSubtype (.ref C) (.type (".".intercalate ("object.__class__".cutAt '.').dropLast))) true := by rw [F.owner_object_class]; exact PySem.W.looks_mroIn X z.mo
  refine codeAny_call_builtin F.slot_gs_get.plain F.entry_gs_get (F.slot_gs_get.check _ _ _ _ _ _ _ _ hT5 (F.args_gs_get _ _ _) ?_)
  repeat (any_goals (first | assumption | (with_reducible refine wpAny_loadPart_at hx ?_; rw [hc]) | with_reducible refine LS.at ?_ | wp_step))
  refine ⟨Code.quiet_builtin _ (by decide +kernel), codeAny_builtin F.entry_object_class ?_⟩
  repeat (any_goals (first | assumption | (with_reducible refine wpAny_loadPart_at hx ?_; rw [hc]) | wp_step))
theorem xcls_check {nameV : Value} {Q : Unit → Shared → Prop} (X : K.In h) (z : ExcIs K C) (hx : h.get? a = some o) (hc : o.cls = .ref C) (hq : Q () ⟨h, g, d, t, os⟩) :
    wpAny (model prog w) A (checkBuiltinCall "BaseException.__getattribute__" ⟨[.ref a, nameV], []⟩) Q E ⟨h, g, d, t, os⟩ := by
  have hk : builtinKind "BaseException.__getattribute__" = some .slot := by decide +kernel
  have hsplit : splitId "BaseException.__getattribute__" = some ("BaseException", "__getattribute__") := by decide +kernel
  have LB : PySem.W.Looks (model prog w) h (isSubtype (.ref C) (.type "BaseException")) true := PySem.W.looks_mroIn X z.mb
  have ha := F.args_bexc_ga (.ref a) nameV
  simp only [checkBuiltinCall, hk, hsplit]
  refine wpAny_bind ?_
  · unfold isInstance
    repeat (first | (with_reducible refine wpAny_loadPart_at hx ?_; rw [hc]) | with_reducible refine LB.at ?_ | wp_step)
    exact hq
theorem xcls_entry {tk : Tok} {Q : Fin → Shared → Prop} (X : K.In h) (z : ExcIs K C) (hx : h.get? a = some o) (hc : o.cls = .ref C) (hq : Q (.done (.ret (.ref C))) ⟨h, g, d, t, os⟩) :
    wpAny (model prog w) A (Builtin.«object.__getattribute__» ⟨[.ref a, .str "__class__" tk], []⟩) Q E ⟨h, g, d, t, os⟩ := by
  have hT5 : (⟨h, g, d, t, os⟩ : Shared).TypeIs (.builtin "object.__class__") "getset_descriptor" := F.typeOf_object_class
  have f5 := F.typeOf_object_class
  have f6 := F.slot_gs_get.lookup
  have f7 := F.slot_gs_set.lookup
  have LC : PySem.W.Looks (model prog w) h (typeLookup (.ref C) "__class__") (some (.builtin "object.__class__")) := PySem.W.looks_findIn X z.cl
  repeat (any_goals (first | assumption | (with_reducible refine wpAny_loadPart_at hx ?_; rw [hc]) | with_reducible refine LC.at ?_ | wp_step))
  refine xcls_get X z hx hc ?_
  repeat (any_goals (first | assumption | wp_step))
theorem xcls_call {tk : Tok} {R : Result → Shared → Prop} (X : K.In h) (z : ExcIs K C) (hx : h.get? a = some o) (hc : o.cls = .ref C) (hq : R (.ok (.ret (.ref C))) ⟨h, g, d, t, os⟩) :
    codeAny (model prog w) A (.call (.builtin "BaseException.__getattribute__") ⟨[.ref a, .str "__class__" tk], []⟩) R ⟨h, g, d, t, os⟩ :=
  codeAny_call_builtin PySem.F.attrBase_ValueError.ga.plain F.entry_bexc_ga (xcls_check X z hx hc (xcls_entry X z hx hc hq))
theorem xcls_by {tk : Tok} {fill expr : Bool} {Q : Value → Shared → Prop} (X : K.In h) (z : ExcIs K C) (hx : h.get? a = some o) (hc : o.cls = .ref C) (hq : Q (.ref C) ⟨h, g, d, t, os⟩) :
    wpAny (model prog w) A (getAttrBy (.ref a) (.str "__class__" tk) fill expr) Q E ⟨h, g, d, t, os⟩ := by
  have f3 := PySem.F.attrBase_ValueError.ga.bind (.ref a)
  have hx0 : (expr && onTheHeap (Value.builtin "BaseException.__getattribute__")) = false := by cases expr <;> rfl
  have hx2 : (Value.builtin "BaseException.__getattribute__" == Value.builtin "object.__getattribute__") = false := by decide +kernel
  have hx1 : (onTheHeap (Value.ref C) && Value.builtin "BaseException.__getattribute__" == Value.builtin "object.__getattribute__") = false := by rw [hx2]; rfl
  have LG : PySem.W.Looks (model prog w) h (typeLookup (.ref C) "__getattribute__") (some (.builtin "BaseException.__getattribute__")) := PySem.W.looks_findIn X z.ga
  have LH : PySem.W.Looks (model prog w) h (typeLookup (.ref C) "__getattr__") none := PySem.W.looks_findIn X z.gt
  repeat (any_goals (first | assumption | (with_reducible refine wpAny_loadPart_at hx ?_; rw [hc]) | with_reducible refine LG.at ?_ | with_reducible refine LH.at ?_ | wp_step))
  refine xcls_call X z hx hc ?_
  repeat (any_goals (first | assumption | wp_step))
theorem xcls_attr {Q : Option Value → Shared → Prop} (X : K.In h) (z : ExcIs K C) (hx : h.get? a = some o) (hc : o.cls = .ref C) (hq : Q (some (.ref C)) ⟨h, g, d, t + 1, os⟩) : wpAny (model prog w) A (getAttr? (.ref a) "__class__") Q E ⟨h, g, d, t, os⟩ := by
  unfold getAttr? getAttrBy?
  repeat (any_goals (first | assumption | with_reducible apply xcls_by X z hx hc | wp_step))
theorem kitx_exc (z : ExcIs K C) : PySem.W.KitX K (.ref a) (.ref C) (excφ a C) where
  ty := fun _ _ _ p => by
    obtain ⟨o, h1, h2⟩ := p
    exact h2 ▸ (PySem.W.Looks.ld h1).andThen .now
  it := fun _ _ X _ => by
    obtain ⟨cd, hcD⟩ := Option.isSome_iff_exists.mp z.is
    unfold PySem.W.clsIn at hcD
    split at hcD
    · rename_i c' d' cd' sl' ho
      intro A' Q' E' s' k q
      unfold isType loadHead
      exact wpAny_bind (wpAny_loadPart (k _ _ (X _ _ ho)) (wpAny_pure q))
    · cases hcD
  ne := fun h tp dd its n sl X htp => by
    obtain ⟨cd, hcD⟩ := Option.isSome_iff_exists.mp z.is
    refine Bool.eq_false_iff.mpr fun q => ?_
    have e : C = tp := Value.ref.inj (beq_iff_eq.mp q)
    subst e
    unfold PySem.W.clsIn at hcD
    split at hcD
    · rename_i c' d' cd' sl' ho
      have z := (X _ _ ho).symm.trans htp
      cases z
    · cases hcD
  ca := fun {prog w A E Q s} X p k => by
    obtain ⟨h, g, d, t, os⟩ := s
    obtain ⟨o, h1, h2⟩ := p
    exact xcls_attr X z h1 h2 k
end
section
variable {X : Cx}

theorem call_isexc : CallR X (.builtin "isinstance") (fun xs H Q => ∃ a C y b, xs = [.ref a, y] ∧ H a = some (.ext (excφ a C)) ∧ ExcIs X.K C ∧ (∀ u, RelV y u → PySem.W.kitOne X.K (.ref C) u = some b) ∧ Q (.bl b) H) := by
  intro pins s σ H xs us Q I r h
  obtain ⟨a, C, y, b, rfl, ha, z, hk, q⟩ := h
  obtain ⟨u, w', rfl, rx, ry⟩ := vals2 r
  obtain rfl : u = Value.ref a := rx
  have p : excφ a C s.heap := (show ObjOk X.prog X.w H s.heap a (.ext (excφ a C)) from I.hok a _ ha).1
  exact PySem.W.kia_one (kitx_exc z) I.kIn p (hk w' ry) (fun z => nomatch z) fun tk => ⟨.bl b, H, I.tok tk, rfl, q⟩
end
end L2


set_option maxHeartbeats 1000000
namespace L2
open PySem PySem.Spec PyProof.Rows
section
variable {X : Cx}
theorem vals_strs : ∀ {ts : List Str} {us : List Value}, Vals (ts.map V.str) us → ∃ l : List (Str × Tok), us = strValues l ∧ l.map (·.1) = ts
  | [], _, .nil => ⟨[], rfl, rfl⟩
  | x :: ts, _, .cons h r => by
    obtain ⟨t, rfl⟩ := h
    obtain ⟨l, rfl, e⟩ := vals_strs (ts := ts) r
    exact ⟨(x, t) :: l, rfl, by rw [List.map_cons, e]⟩
theorem strs_vals : ∀ (l : List (Str × Tok)), Vals ((l.map (·.1)).map V.str) (strValues l)
  | [] => .nil
  | (x, t) :: l => .cons ⟨t, rfl⟩ (strs_vals l)
noncomputable def rJoin (K : PySem.W.Frag) : V → List V → Hp → VK → Prop := fun x vs H Q => ∃ (sep : Str) (b : Addr) (ts : List Str), x = .str sep ∧ vs = [.ref b] ∧ SqL K H b (ts.map V.str) ∧ (ts.map (·.length)).sum + ts.length * sep.length ≤ 16777216 ∧ Q (.str (Str.join sep ts)) H
theorem mt_join : MtR X "str.join" (rJoin X.K) := by
  intro pins s σ H x vs v us Q I rx rv h
  obtain ⟨sep, b, ts, rfl, rfl, hb, hz, q⟩ := h
  obtain ⟨t, rfl⟩ := rx
  obtain ⟨u, rfl, ru⟩ := rv.one
  cases ru
  obtain ⟨its, r, pl, _⟩ := I.list hb
  obtain ⟨l, rfl, e⟩ := vals_strs r
  refine SC.join (show s.heap.IsList b (strValues l).toArray from pl.isList) e (joinOk_of hz) fun t' k => ⟨.str (Str.join sep ts), H, I.tok _, ⟨t', by rw [Txt.join, StrLaws.glued_eq_join]⟩, q⟩
noncomputable def rSplit : V → List V → Hp → VK → Prop := fun x vs H Q => ∃ (z y : Str), x = .str z ∧ vs = [.str y] ∧ (y.length == 0) = false ∧ z.length + 2 ≤ sizeLine ∧ ∀ p, H p = none → Q (.ref p) (upd H p (.lst ((Txt.split z y).map V.str)))
theorem mt_split : MtR X "str.split" rSplit := by
  intro pins s σ H x vs v us Q I rx rv h
  obtain ⟨z, y, rfl, rfl, hy, hz, q⟩ := h
  obtain ⟨t, rfl⟩ := rx
  obtain ⟨u, rfl, ru⟩ := rv.one
  obtain ⟨t2, rfl⟩ := ru
  have hle := PyProof.Rows.split_le z y
  have fin : ∀ (l : List (Str × Tok)) (k : Nat), l.map (·.1) = Txt.split z y → EP X pins σ Q (.ref s.heap.objs.size) { s with toks := k, heap := s.heap.push { cls := .type "list", data := .seq (strValues l).toArray } } := fun l k e => by
    have hv := strs_vals l
    rw [e] at hv
    exact ⟨.ref _, _, I.lnew (t' := k) hv (by rw [List.length_map]; omega), rfl, q _ I.fresh⟩
  cases h1 : (decide (z.length < y.length) || decide (PySem.Builtin.Str.strKind z < PySem.Builtin.Str.strKind y))
  · cases hf : (Builtin.Str.occurrences z y 0 z.length (z.length + 1)).isEmpty
    · have es : Txt.split z y = Builtin.Str.partsBetween z (Builtin.Str.occurrences z y 0 z.length (z.length + 1)) y.length := (if_neg (ne_true_of_eq_false h1)).trans (if_neg (ne_true_of_eq_false hf))
      refine call_meets F.slot_str_split (typeIs_str _ _ _) F.entry_str_split (F.args_str_split_2 _ _) (meets_str_split_sep z y t t2 h1 hy hf (by omega) (by rw [← es]; omega)) ?_
      rw [strsFrom_eq]
      exact fin (numbered s.toks _) _ ((numbered_texts _ _).trans es.symm)
    · exact call_meets F.slot_str_split (typeIs_str _ _ _) F.entry_str_split (F.args_str_split_2 _ _) (meets_str_split_not_found z y t t2 h1 hy hf) (fin [(z, t)] s.toks ((if_neg (ne_true_of_eq_false h1)).trans (if_pos hf)).symm)
  · exact call_meets F.slot_str_split (typeIs_str _ _ _) F.entry_str_split (F.args_str_split_2 _ _) (meets_str_split_cannot_occur z y t t2 h1) (fin [(z, t)] s.toks (if_pos h1).symm)

theorem cps_inj {a b : Str} (h : a.cps.toList = b.cps.toList) : a = b := by
  obtain ⟨⟨x⟩⟩ := a
  obtain ⟨⟨y⟩⟩ := b
  cases (show x = y from h)
  rfl
theorem join_cons2 (sep x y : Str) (r : List Str) : (Str.join sep (x :: y :: r)).cps.toList = x.cps.toList ++ (sep.cps.toList ++ (Str.join sep (y :: r)).cps.toList) := by
  show (x.cps ++ sep.cps ++ (Str.join sep (y :: r)).cps).toList = _
  rw [Array.toList_append, Array.toList_append, List.append_assoc]
end
end L2


set_option maxHeartbeats 1000000
namespace DP
open PySem PyProof.Rows
theorem entry_loop : entryFor table "dict.update.loop" = some Builtin.«dict.update.loop» := entryFor_of_tree (by kernel_rfl)
theorem plain_loop : plainId "dict.update.loop" = true := by decide +kernel
theorem quiet_loop (args : Args) : (Code.builtin "dict.update.loop" args).quiet = true := plainId_quiet plain_loop args

noncomputable def PairsAt (h : Heap) : List Value → List (Str × Value) → Prop
  | [], [] => True
  | x :: xs, (k, v) :: ps => (∃ p t, x = .ref p ∧ h.IsTuple p #[.str k t, v]) ∧ PairsAt h xs ps
  | _, _ => False
theorem PairsAt.mono {h h' : Heap} (m : ∀ p its, h.IsTuple p its → h'.IsTuple p its) : ∀ {xs : List Value} {ps : List (Str × Value)}, PairsAt h xs ps → PairsAt h' xs ps
  | [], [], _ => trivial
  | _ :: _, (_, _) :: _, ⟨⟨p, t, e, q⟩, r⟩ => ⟨⟨p, t, e, m _ _ q⟩, PairsAt.mono m r⟩
  | [], _ :: _, z => z.elim
  | _ :: _, [], z => z.elim
theorem stored_len (kvs : List (Str × Value)) (k : Str) (v : Value) : (stored kvs k v).length ≤ kvs.length + 1 := by
  unfold stored
  split <;> simp
section
variable {prog : Program} {w : World}
theorem loop {d it src : Addr} {xs : Array Value} (hdi : d ≠ it) (hds : d ≠ src) (his : it ≠ src) : ∀ (rest : List Value) (ps : List (Str × Value)) (i : Nat) (kvs : List (Str × Value)) (A : Around) (R : Result → Shared → Prop) (s : Shared), A.handled = none → xs.toList.drop i = rest → s.heap.IsList src xs → s.heap.IsListIter it src i → s.heap.DictOf (PySem.strKind prog w) d kvs → PairsAt s.heap rest ps → kvs.length + ps.length ≤ sizeLine →
    (∀ h' k, h'.DictOf (PySem.strKind prog w) d (ps.foldl (fun a p => stored a p.1 p.2) kvs) → (∀ b o, b ≠ d → b ≠ it → s.heap.get? b = some o → h'.get? b = some o) → R (.ok (.ret .none)) { s with heap := h', toks := k }) →
    codeAny (model prog w) A (.builtin "dict.update.loop" ⟨[.ref d, .ref it, rawInt i, .none], []⟩) R s
  | [], [], i, kvs, A, R, s, hh, hdr, hl, hit, hd, _, hz, hR => by
    refine codeAny_builtin entry_loop ?_
    rw [Around.under_plainId plain_loop]
    show wpAny _ _ (pyNext (.ref it) >>= _) _ _ s
    have hx : xs[i]? = none := by
      have : (xs.toList.drop i).length = 0 := by rw [hdr]; rfl
      rw [List.length_drop] at this
      exact Array.getElem?_eq_none (by have : xs.toList.length = xs.size := by simp
                                       omega)
    refine wpAny_bind (wpAny_pyNext_list_end hh hit hl hx fun h' eb => ?_)
    show wpAny _ _ (Builtin.Dict.addKeywords d [] >>= _) _ _ _
    exact wpAny_bind (wpAny_pure (wpAny_pure (hR h' s.toks (hd.extBut eb hdi) fun b o _ hb e => eb b o hb e)))
  | x :: rest, (k, v) :: ps, i, kvs, A, R, s, hh, hdr, hl, hit, hd, ⟨⟨p, t, e, hp⟩, hps⟩, hz, hR => by
    subst e
    refine codeAny_builtin entry_loop ?_
    rw [Around.under_plainId plain_loop]
    show wpAny _ _ (pyNext (.ref it) >>= _) _ _ s
    have hx : xs[i]? = some (.ref p) := by
      have h1 : (xs.toList.drop i)[0]? = some (.ref p) := by rw [hdr]; rfl
      rw [List.getElem?_drop] at h1
      simpa using h1
    refine wpAny_bind (wpAny_pyNext_list_item hit hl hx fun h1 hit1 hs1 => ?_)
    have hd1 := hd.sameBut hs1 hdi
    have nit : ∀ {q : Addr} {ys : Array Value}, s.heap.IsTuple q ys → q ≠ it := fun {q ys} hq e => by
      subst e
      obtain ⟨o, ho, hc, _⟩ := hq
      obtain ⟨o2, ho2, hc2, _⟩ := hit
      rw [ho] at ho2
      cases ho2
      rw [hc] at hc2
      simp at hc2
    have ndt : ∀ {q : Addr} {ys : Array Value}, s.heap.IsTuple q ys → q ≠ d := fun {q ys} hq e => by
      subst e
      obtain ⟨o, ho, hc, _⟩ := hq
      obtain ⟨o2, _, _, ho2, hc2, _⟩ := hd
      rw [ho] at ho2
      cases ho2
      have := hc2.1
      rw [hc] at this
      simp at this
    have hpi : p ≠ it := nit hp
    have hp1 : h1.IsTuple p #[.str k t, v] := hp.extBut hs1.extBut hpi
    obtain ⟨op, hop, hopc, np, hopd⟩ := id hp1
    show wpAny _ _ (holding [.ref p] _ >>= _) _ _ _
    refine wpAny_bind (wpAny_holding ?_)
    refine wpAny_bind (wpAny_tryCatch ?_)
    unfold Builtin.Dict.pairItems
    refine wpAny_bind (wpAny_typeOf (T := "tuple") ⟨op, hop, hopc⟩ ?_)
    show wpAny _ _ (seqItems? (.ref p) >>= _) _ _ _
    refine wpAny_bind (wpAny_seqItems hop hopd (wpAny_pure ?_))
    show wpAny _ _ (holding [.str k t, v] (dictSet d (.str k t) v)) _ _ _
    refine wpAny_holding (wpAny_dictSet_pairs (knd := PySem.strKind prog w) (k := k) (by simp [PySem.strKind, Value.isStrOf]) hd1 (fun h2 hd2 hs2 => ?_) (by omega))
    show wpAny _ _ (pure (Fin.again _)) _ _ _
    have e1 : rawInt ((i : Int) + 1) = rawInt ((i + 1 : Nat) : Int) := rfl
    refine wpAny_pure ⟨quiet_loop _, loop hdi hds his rest ps (i + 1) (stored kvs k v) A R _ hh ?_ ((hl.extBut hs1.extBut his.symm).extBut hs2.extBut hds.symm) (hit1.extBut hs2.extBut hdi.symm) hd2 ?_ ?_ fun h' kk hd' up => ?_⟩
    · rw [← List.drop_drop, hdr]
      rfl
    · exact hps.mono fun q its hq => (hq.extBut hs1.extBut (nit hq)).extBut hs2.extBut (ndt hq)
    · have := stored_len kvs k v
      rw [List.length_cons] at hz
      omega
    · exact hR h' kk hd' fun b o n1 n2 e => up b o n1 n2 (hs2.extBut b o n1 (hs1.extBut b o n2 e))
  | [], _ :: _, _, _, _, _, _, _, _, _, _, _, z, _, _ => z.elim
  | _ :: _, [], _, _, _, _, _, _, _, _, _, _, z, _, _ => z.elim
end
end DP
namespace DP
open PySem
open Sem (wp)
theorem lk_keys : typeLookup (.type "list") "keys" = pure none := by rw [typeLookup_type, builtinLookup_eq_fast]; kernel_rfl
theorem lk_getattr : typeLookup (.type "list") "__getattr__" = pure none := by rw [typeLookup_type, builtinLookup_eq_fast]; kernel_rfl
theorem fits_keys : (Str.ofString "keys").length + 100 ≤ sizeLine := by
  rw [sizeLine_eq]
  decide +kernel
section
variable {prog : Program} {w : World} {A : Around} {E : Value → Shared → Prop} {h : Heap} {g : Array GenState} {d : Drawn} {t : Nat} {os : OsState} {a : Addr} {its : Array Value} {n : Nat}
theorem keys_entry {tk : Tok} {Q : Fin → Shared → Prop} (hh : A.handled = none) (hx : h.get? a = some { cls := .type "list", data := .seq its n }) (hE : ∀ h' k e, Heap.NewAttrErr h h' e (.ref a) "keys" → E (.ref e) ⟨h', g, d, k, os⟩) :
    wpAny (model prog w) A (Builtin.«object.__getattribute__» ⟨[.ref a, .str "keys" tk], []⟩) Q E ⟨h, g, d, t, os⟩ := by
  have hT : (⟨h, g, d, t, os⟩ : Shared).TypeIs (.ref a) "list" := ⟨_, hx, rfl⟩
  have f4 := lk_keys
  repeat (any_goals (first | assumption | wp_step))
  exact wpAny_raiseAttrError hh hE (attrMsg_fits (by decide +kernel) fits_keys)
theorem keys_call {tk : Tok} {R : Result → Shared → Prop} (hh : A.handled = none) (hx : h.get? a = some { cls := .type "list", data := .seq its n }) (hE : ∀ h' k e, Heap.NewAttrErr h h' e (.ref a) "keys" → R (.error (.ref e)) ⟨h', g, d, k, os⟩) :
    codeAny (model prog w) A (.call (.builtin "list.__getattribute__") ⟨[.ref a, .str "keys" tk], []⟩) R ⟨h, g, d, t, os⟩ :=
  codeAny_call_builtin F.slot_list_getattribute.plain F.entry_list_ga (F.slot_list_getattribute.check _ _ _ _ _ _ _ _ (show (⟨h, g, d, t, os⟩ : Shared).TypeIs (.ref a) "list" from ⟨_, hx, rfl⟩) (F.args_list_getattribute_2 _ _) (keys_entry hh hx hE))
theorem keys_by {tk : Tok} {Q : Value → Shared → Prop} (hh : A.handled = none) (hx : h.get? a = some { cls := .type "list", data := .seq its n }) (hE : ∀ h' k e, (∀ b o, h.get? b = some o → h'.get? b = some o) → (∃ oe, h'.get? e = some oe ∧ oe.cls = .type "AttributeError") → E (.ref e) ⟨h', g, d, k, os⟩) :
    wpAny (model prog w) A (getAttrBy (.ref a) (.str "keys" tk) false) Q E ⟨h, g, d, t, os⟩ := by
  have hT : (⟨h, g, d, t, os⟩ : Shared).TypeIs (.ref a) "list" := ⟨_, hx, rfl⟩
  have f1 := sub_AttributeError
  have f2 := F.slot_list_getattribute.lookup
  have f3 := F.slot_list_getattribute.bind (.ref a)
  have f5 := lk_getattr
  unfold getAttrBy
  repeat (any_goals (first | assumption | wp_step))
  refine keys_call hh hx fun h' k e hx => ?_
  obtain ⟨t', u', he⟩ := hx.there
  show wpAny _ _ (getattributeRaised _ _ _ _ _ _ _) _ _ _
  unfold getattributeRaised
  repeat (any_goals (first | assumption | wp_step))
  exact hE _ _ _ hx.keeps ⟨_, he, rfl⟩
theorem keys_attr {Q : Option Value → Shared → Prop} (hh : A.handled = none) (hx : h.get? a = some { cls := .type "list", data := .seq its n }) (hQ : ∀ h' k, (∀ b o, h.get? b = some o → h'.get? b = some o) → Q none ⟨h', g, d, k, os⟩) :
    wpAny (model prog w) A (getAttr? (.ref a) "keys") Q E ⟨h, g, d, t, os⟩ := by
  unfold getAttr? getAttrBy?
  refine wpAny_bind (wpAny_mkText (wpAny_bind (wpAny_attempt (keys_by hh hx fun h' k e kp ⟨oe, he, hc⟩ => ?_))))
  show wpAny _ _ (isInstance (.ref e) (.type "AttributeError") >>= _) _ _ _
  exact wpAny_bind (wpAny_isInstance (T := "AttributeError") (b := true) ⟨oe, he, hc⟩ sub_AttributeError (wpAny_pure (hQ _ _ kp)))
end
section
variable {prog : Program} {w : World} {A : Around} {E : Value → Shared → Prop} {s : Shared}
theorem call_pairs {src : Addr} {its : Array Value} {n : Nat} {ps : List (Str × Value)} {Q : Value → Shared → Prop} (hh : A.handled = none) (hx : s.heap.get? src = some { cls := .type "list", data := .seq its n }) (hp : PairsAt s.heap its.toList ps) (hz : ps.length ≤ sizeLine)
    (h : ∀ h' k, h'.DictOf (PySem.strKind prog w) s.heap.objs.size (ps.foldl (fun a p => stored a p.1 p.2) []) → (∀ b o, s.heap.get? b = some o → h'.get? b = some o) → Q (.ref s.heap.objs.size) { s with heap := h', toks := k }) :
    wpAny (model prog w) A (call (.type "dict") [.ref src]) Q E s := by
  refine callType_codes (Q₁ := fun obj s₁ => obj = .ref s.heap.objs.size ∧ s₁ = { s with heap := s.heap.push { cls := .type "dict", data := .dict #[] } }) F.kt_called_dict (F.kt_typeCall_dict_1 _) F.entry_dict_init (kt_code_dict_new _ ⟨rfl, rfl⟩) ?_
  rintro obj s₁ ⟨rfl, rfl⟩
  have hnew : (s.heap.push { cls := .type "dict", data := .dict #[] }).DictOf (PySem.strKind prog w) s.heap.objs.size [] := Heap.DictOf.new s.heap
  have hx' : (s.heap.push { cls := .type "dict", data := .dict #[] }).get? src = some { cls := .type "list", data := .seq its n } := Heap.get?_push_of_some _ hx
  refine ⟨hnew.typeIs, F.args_dict_init_2 _ _, ?_⟩
  unfold Builtin.«dict.__init__»
  refine wpAny_bind ?_
  unfold Builtin.Dict.selfAndRest
  refine wpAny_bind (wpAny_notOrdered_dict hnew.typeIs ?_)
  show wpAny _ _ (pure (s.heap.objs.size, [Value.ref src])) _ _ _
  refine wpAny_pure ?_
  show wpAny _ _ (Builtin.Dict.updateFrom "dict.__init__" s.heap.objs.size (.ref src) [] .none) _ _ _
  unfold Builtin.Dict.updateFrom
  refine wpAny_bind (wpAny_typeOf (T := "list") ⟨_, hx', rfl⟩ ?_)
  rw [if_pos (by decide)]
  refine wpAny_bind (keys_attr hh hx' fun h1 k1 kp1 => ?_)
  show wpAny _ _ (rule _ >>= _) _ _ _
  refine wpAny_bind (wpAny_rule ?_)
  have hl1 : Heap.IsList h1 src its := ⟨_, kp1 _ _ hx', rfl, n, rfl⟩
  have hd1 : h1.DictOf (PySem.strKind prog w) s.heap.objs.size [] := by
    obtain ⟨o, es, ep, ho, r⟩ := hnew
    exact ⟨o, es, ep, kp1 _ _ ho, r⟩
  have ltS : src < s.heap.objs.size := Heap.lt_size hx
  have lt1 : s.heap.objs.size < h1.objs.size := by
    obtain ⟨o, es, ep, ho, r⟩ := hd1
    exact Heap.lt_size ho
  refine wpAny_bind (wpAny_pyIter_list hl1 (wpAny_pure ⟨quiet_loop _, ?_⟩))
  have up : ∀ b o, h1.get? b = some o → (h1.push { cls := .type "list_iterator", data := .fields #[.ref src, .int 0 0] }).get? b = some o := fun b o e => Heap.get?_push_of_some _ e
  have kp : ∀ b o, s.heap.get? b = some o → (h1.push { cls := .type "list_iterator", data := .fields #[.ref src, .int 0 0] }).get? b = some o := fun b o e => up _ _ (kp1 _ _ (Heap.get?_push_of_some _ e))
  refine loop (src := src) (xs := its) (Nat.ne_of_lt lt1) (Nat.ne_of_gt ltS) (Nat.ne_of_gt (Nat.lt_trans ltS lt1)) its.toList ps 0 [] A.in1 _ _ hh rfl (hl1.at fun o e => up _ o e) ⟨_, Heap.get?_push_size _ rfl, rfl, rfl⟩ ?_ (hp.mono fun p q hq => Heap.IsTuple.at hq fun o e => kp _ o e) (by simpa using hz) fun h' k hd' kp' => ?_
  · obtain ⟨o, es, ep, ho, r⟩ := hd1
    exact ⟨o, es, ep, up _ _ ho, r⟩
  · refine ⟨rfl, h h' k hd' fun b o e => kp' b o (Nat.ne_of_lt (Heap.lt_size e)) (Nat.ne_of_lt (Nat.lt_trans (Heap.lt_size e) lt1)) (kp b o e)⟩
end
end DP


set_option maxHeartbeats 1000000
namespace L2
open PySem PySem.Spec PyProof.Rows

noncomputable def tφ (P : Program) (w : World) (d : Addr) (D : List (Str × Int)) : Heap → Prop := fun h => StrTab P w h d (tabD D)
theorem tφ_ok {P : Program} {w : World} {H : Hp} {h : Heap} {d : Addr} {D : List (Str × Int)} (e : tφ P w d D h) : ObjOk P w H h d (.ext (tφ P w d D)) := by
  refine ⟨e, ?_, fun g1 g2 x k => ?_⟩
  · obtain ⟨_, kvs, ⟨o, es, ep, ho, r⟩, _⟩ := e
    exact ⟨o, ho⟩
  · obtain ⟨h0, kvs, ⟨o, es, ep, ho, r⟩, q⟩ := x
    exact ⟨h0, kvs, ⟨o, es, ep, k o ho, r⟩, q⟩
section
variable {X : Cx}
theorem op_in_dT : OpR X (compareOp .In) (fun x y H Q => ∃ z d D, x = .str z ∧ y = .ref d ∧ H d = some (.ext (tφ X.prog X.w d D)) ∧ Q (.bl (lookup (.str z) (tabD D)).isSome) H) := by
  intro pins s σ H x y v u Q I rx ry h
  obtain ⟨z, d, D, rfl, rfl, hd, q⟩ := h
  obtain ⟨t, rfl⟩ := rx
  cases ry
  have T : tφ X.prog X.w d D s.heap := (I.hok _ _ hd).1
  exact in_strTab T ⟨.bl _, H, I.tok _, rfl, q⟩
noncomputable def tDIx (P : Program) (w : World) (ta tb : TE) : TE := fun σ H Q => ta σ H fun x H1 => tb σ H1 fun y H2 => ∃ d z D i, x = .ref d ∧ y = .str z ∧ H2 d = some (.ext (tφ P w d D)) ∧ lookup (.str z) (tabD D) = some (.int i) ∧ Q (.int i) H2
theorem pe_dIx {a b : Expr} {ta tb : TE} {pos : Pos} (ha : PE X a ta) (hb : PE X b tb) (hs : PlainIx b) (hg : ∀ d r, letTemporaryGo a (.ref d) r = pure () := by intro _ _; with_unfolding_all rfl) : PE X (.Subscript a b pos) (tDIx X.prog X.w ta tb) := by
  intro pins s σ H Q I h
  refine Subscript_ (binT ha hb I h fun v u s2 x y H2 I2 rx ry q => ?_)
  obtain ⟨d, z, D, i, rfl, rfl, hd, hl, q⟩ := q
  cases rx
  obtain ⟨t, rfl⟩ := ry
  have T : tφ X.prog X.w d D s2.heap := (I2.hok _ _ hd).1
  refine item_strTab T hl (fun v fl => ?_) (hs _ _) (hg d)
  have fl := fl s2.heap
  cases fl with
  | int i t => exact ⟨.int i, H2, I2.tok _, ⟨t, rfl⟩, q⟩
theorem op_in_dTK (P : Program) (w : World) (hP : X.prog = P := by rfl) (hw : X.w = w := by rfl) : OpR X (compareOp .In) (fun x y H Q => ∃ z d D, x = .str z ∧ y = .ref d ∧ H d = some (.ext (tφ P w d D)) ∧ Q (.bl (lookup (.str z) (tabD D)).isSome) H) := by
  subst hP hw
  exact op_in_dT
theorem pe_dIxK {a b : Expr} {ta tb : TE} {pos : Pos} (P : Program) (w : World) (ha : PE X a ta) (hb : PE X b tb) (hs : PlainIx b) (hP : X.prog = P := by rfl) (hw : X.w = w := by rfl) (hg : ∀ d r, letTemporaryGo a (.ref d) r = pure () := by intro _ _; with_unfolding_all rfl) : PE X (.Subscript a b pos) (tDIx P w ta tb) := by
  subst hP hw
  exact pe_dIx ha hb hs hg
theorem stored_all : ∀ (qs acc : List (Str × Value)), ((acc ++ qs).map (·.1)).Nodup → qs.foldl (fun a p => stored a p.1 p.2) acc = acc ++ qs
  | [], acc, _ => by rw [List.append_nil]; rfl
  | q :: qs, acc, h => by
    have e : stored acc q.1 q.2 = acc ++ [q] := by
      unfold stored
      rw [if_neg]
      intro z
      obtain ⟨x, hx, hk⟩ := List.any_eq_true.mp z
      have hk : x.1 = q.1 := by simpa using hk
      rw [List.map_append, List.nodup_append] at h
      exact h.2.2 x.1 (List.mem_map.mpr ⟨x, hx, rfl⟩) q.1 (List.mem_map.mpr ⟨q, List.mem_cons_self, rfl⟩) hk
    show qs.foldl (fun a p => stored a p.1 p.2) (stored acc q.1 q.2) = _
    rw [e, stored_all qs (acc ++ [q]) (by rw [List.append_assoc]; exact h), List.append_assoc]
    rfl
theorem flat_pairs : ∀ {qs : List (Str × Value)} {ps : List (Str × Int)}, Paired (fun q p => q.1 = p.1 ∧ ∃ t, q.2 = Value.int p.2 t) qs ps → PyProof.V.FlatPairs PyData.str qs (tabD ps) ∧ qs.map (·.1) = ps.map (·.1)
  | _, _, .nil => ⟨.nil, rfl⟩
  | (k, v) :: _, (k', i) :: _, .cons ⟨e, t, e2⟩ r => by
    obtain ⟨h1, h2⟩ := flat_pairs r
    have e : k = k' := e
    have e2 : v = .int i t := e2
    subst e e2
    exact ⟨.cons (fun h => .int _ _) h1, by rw [List.map_cons, List.map_cons, h2]⟩
theorem pairs_at {pins : List (Addr × Obj)} {σ : St} {H : Hp} {s : Shared} (I : Inv X pins σ H s) : ∀ {as : List Addr} {ps : List (Str × Int)} {its : List Value}, Paired (fun a p => H a = some (.tup [.str p.1, .int p.2])) as ps → Vals (as.map V.ref) its → ∃ qs, DP.PairsAt s.heap its qs ∧ Paired (fun q p => q.1 = p.1 ∧ ∃ t, q.2 = Value.int p.2 t) qs ps
  | _, _, _, .nil, .nil => ⟨[], trivial, .nil⟩
  | a :: _, (k, i) :: _, _, .cons h r, .cons hv rv => by
    obtain ⟨qs, h1, h2⟩ := pairs_at I r rv
    obtain ⟨its, rv2, p, _⟩ := I.tuple (SqT.of h)
    obtain ⟨u, v, rfl, ⟨t, rfl⟩, ⟨t2, rfl⟩⟩ := vals2 rv2
    cases hv
    exact ⟨(k, .int i t2) :: qs, ⟨⟨a, t, rfl, p⟩, h1⟩, .cons ⟨rfl, t2, rfl⟩ h2⟩
theorem big_ofT {pins : List (Addr × Obj)} {σ : St} {H : Hp} {s : Shared} (I : Inv X pins σ H s) : sysModules < s.heap.objs.size := by
  have h : mainGlobals < s.heap.objs.size := (I.mod.glob.keeps I.bk).lt
  exact Nat.lt_trans (by decide) h
theorem call_dictP (hc : X.calm = true) : CallR X (.type "dict") (fun xs H Q => ∃ (b : Addr) (as : List Addr) (ps : List (Str × Int)), xs = [.ref b] ∧ H b = some (.lst (as.map V.ref)) ∧ Paired (fun a p => H a = some (.tup [.str p.1, .int p.2])) as ps ∧ (ps.map (·.1)).Nodup ∧ ps.length ≤ sizeLine ∧ ∀ d, H d = none → Q (.ref d) (upd H d (.ext (tφ X.prog X.w d ps)))) := by
  intro pins s σ H xs us Q I r h
  obtain ⟨b, as, ps, rfl, hb, hp, nd, hz, q⟩ := h
  obtain ⟨u, rfl, ru⟩ := vals1 r
  cases ru
  obtain ⟨z, its, n, rv, hl, e⟩ := I.lstM hb
  obtain ⟨qs, h1, h2⟩ := pairs_at I hp rv
  obtain ⟨h3, h4⟩ := flat_pairs h2
  have e1 : qs.length = ps.length := by have := congrArg List.length h4; simpa using this
  have ed : qs.foldl (fun a p => stored a p.1 p.2) [] = qs := stored_all qs [] (by rw [List.nil_append, h4]; exact nd)
  refine DP.call_pairs (I.ok.hd hc) e (by simpa using h1) (by omega) fun h' k hd kp => ?_
  rw [ed] at hd
  exact ⟨.ref _, _, I.laid (t' := k) (a := s.heap.objs.size) kp (Nat.le_refl _) (tφ_ok ⟨beq_eq_false_iff_ne.mpr (Ne.symm (Nat.ne_of_lt (big_ofT I))), qs, hd, h3⟩), rfl, q _ I.fresh⟩
end
end L2


set_option maxHeartbeats 1000000
namespace L2
open PySem PySem.Spec PyProof.Rows

noncomputable def Its (k n : Nat) : It := ⟨fun i _ => i < n, fun i H x H' => H' = H ∧ x = .int ((i : Int) * (k : Int)), fun i _ => n ≤ i⟩
theorem turn_step {P : Program} {w : World} {K : PySem.W.Frag} {tg : Expr} (it : Addr) (k n : Nat) : Turn P w K tg (Its k n) [it] it (fun i h => IsRangeIter h it (0 + (i : Nat) * (k : Int)) ((n : Int) - (i : Nat)) (k : Int)) where
  mem := by simp
  obj := fun i h st b hb => by
    have e : b = it := by simpa using hb
    subst e
    exact ⟨_, st, fun v z => by
      have z' : Data.fields _ = Data.cell v := z
      cases z'⟩
  keep := fun i h h' st kp => kp it (by simp) _ st
  item := by
    intro X hP hw hK hc i pins s σ H E I hf st hg
    subst hP hw hK
    obtain ⟨f0, f1, f2, f3, f4, f5⟩ := hf it (by simp)
    have W := Walks.range (prog := X.prog) (w := X.w) (I.ok.hd hc) it 0 (k : Int) n
    refine W.item i s _ _ hg st fun v h' tk hv st' kk => ?_
    obtain ⟨t, rfl⟩ := hv
    have J : Inv X pins σ H { s with heap := h', toks := tk } := I.turned (fun b o hb e => kk b o (by simpa using hb) e) f0 f1 f3 f4 f5
    refine ⟨_, rfl, go_of (s := { s with heap := h', toks := tk }) (n := "range_iterator") st' rfl rfl (by decide) ⟨.int ((i : Int) * (k : Int)), H, J, ⟨t, ?_⟩, ⟨rfl, rfl⟩, st', fun b hb => (hf b hb).1⟩⟩
    rw [Int.zero_add]
  done := by
    intro X hP hw hK hc i pins s σ H E I hf st hg
    subst hP hw hK
    obtain ⟨f0, f1, f2, f3, f4, f5⟩ := hf it (by simp)
    have hg' : n ≤ i := hg
    exact wpAny_pyNext_range_end (I.ok.hd hc) st (by omega) fun h' eb => ⟨rfl, I.turned (t' := s.toks) (fun b o hb e => eb b o hb e) f0 f1 f3 f4 f5⟩
  self := fun _ _ _ _ _ st h => wpAny_pyIter_rangeiter st h
theorem size_step {k n : Nat} (hk : 1 ≤ k) : Builtin.Range.rangeSize 0 ((n : Int) * (k : Int)) (k : Int) = (n : Int) := by
  unfold Builtin.Range.rangeSize
  rw [if_pos (by omega)]
  by_cases h : n = 0
  · subst h
    simp
  · have h1 : 1 * (k : Int) ≤ (n : Int) * (k : Int) := Int.mul_le_mul_of_nonneg_right (by omega) (by omega)
    rw [if_pos (by omega)]
    have e : (n : Int) * (k : Int) - 0 - 1 = ((k : Int) - 1) + ((n : Int) - 1) * (k : Int) := by
      rw [Int.sub_mul, Int.one_mul]
      omega
    rw [e, Int.add_mul_ediv_right _ _ (by omega), Int.ediv_eq_zero_of_lt (by omega) (by omega)]
    omega
theorem small_step {k n : Nat} (hk : 1 ≤ k) (hk2 : k ≤ 1000) (hn : n ≤ 1000) : Builtin.Range.small 0 ((n : Int) * (k : Int)) (k : Int) = true := by
  unfold Builtin.Range.small
  rw [size_step hk]
  have h1 : (n : Int) * (k : Int) ≤ 1000 * 1000 := Int.mul_le_mul (by omega) (by omega) (by omega) (by omega)
  have h0 : 0 ≤ (n : Int) * (k : Int) := Int.mul_nonneg (by omega) (by omega)
  simp only [Builtin.Range.rangeFitsLong, Bool.and_eq_true, Bool.or_eq_true, decide_eq_true_eq, beq_iff_eq, show (k : Int) > 0 by omega, if_true]
  generalize (n : Int) * (k : Int) = x at *
  omega
section
variable {X : Cx} {tg : Expr}
noncomputable def iRngS (ta : TA) : TI := fun σ H R => ta σ H fun vs H1 => ∃ k n : Nat, vs = [.int 0, .int ((n : Int) * (k : Int)), .int (k : Int)] ∧ (1 ≤ k ∧ k ≤ 1000 ∧ n ≤ 1000) ∧ R (Its k n) H1
theorem pi_rangeS {a b c : Expr} {ta : TA} {p pos : Pos} (hg : Gl X "range") (hm : X.mg "range" = none) (ha : PA X [a, b, c] ta) (hs : starEach [a, b, c] X.env = (false, eval a X.env) :: starEach [b, c] X.env := by rfl) (hpl : (backTo pos (starEach [b, c] X.env)).any (·.1) = false := by rfl) :
    PI X tg (.Call (.Name "range" p) [a, b, c] [] pos) (iRngS ta) := by
  intro pins s σ H R I h
  refine Call_ (ld_blt I hg hm boot_range (PyProof.Rows.callWith_type1 (thnA (ha pos pins s σ H _ I h) fun us s1 vs H1 I1 r1 q1 => ?_) hs hpl))
  obtain ⟨k, n, e, ⟨q1, q2, q3⟩, q⟩ := q1
  subst e
  obtain ⟨u1, u2, u3, rfl, ⟨t, rfl⟩, ⟨t', rfl⟩, ⟨t'', rfl⟩⟩ : ∃ u1 u2 u3, us = [u1, u2, u3] ∧ RelV (.int 0) u1 ∧ RelV (.int ((n : Int) * (k : Int))) u2 ∧ RelV (.int (k : Int)) u3 := by
    cases r1 with
    | cons a1 r1 =>
      cases r1 with
      | cons a2 r1 =>
        cases r1 with
        | cons a3 r1 =>
          cases r1
          exact ⟨_, _, _, rfl, a1, a2, a3⟩
  refine call_range_3 (by omega) ?_ (Or.inl ?_)
  · refine wpAny_pyIter_range (IsRange.new ..) (small_step q1 q2 q3) ?_
    have J : Inv X pins σ H1 { s1 with heap := s1.heap.push { cls := .type "range", data := .fields #[.int 0 t, .int ((n : Int) * (k : Int)) t', .int (k : Int) t''] }, toks := s1.toks } := I1.kept fun b o e => Heap.get?_push_of_some _ e
    refine ⟨(s1.heap.push { cls := .type "range", data := .fields #[.int 0 t, .int ((n : Int) * (k : Int)) t', .int (k : Int) t''] }).objs.size, [(s1.heap.push { cls := .type "range", data := .fields #[.int 0 t, .int ((n : Int) * (k : Int)) t', .int (k : Int) t''] }).objs.size], _, _, H1, rfl, J.kept (t' := s1.toks) fun b o e => Heap.get?_push_of_some _ e, turn_step _ k n, ?_, fun b hb => ?_, q⟩
    · have e1 : (0 : Int) + ((0 : Nat) : Int) * (k : Int) = 0 := by simp
      have e2 : (n : Int) - ((0 : Nat) : Int) = Builtin.Range.rangeSize 0 ((n : Int) * (k : Int)) (k : Int) := by rw [size_step q1]; omega
      show IsRangeIter _ _ (0 + ((0 : Nat) : Int) * (k : Int)) ((n : Int) - ((0 : Nat) : Int)) (k : Int)
      rw [e1, e2]
      exact Heap.get?_push_size _ rfl
    · rw [List.mem_singleton.mp hb]
      exact J.fpOk (Nat.le_refl _) (J.hok.fresh (Nat.le_refl _))
  · exact PyProof.noPylong_small (by omega)
theorem Walk.stp {H1 : Hp} (k n : Nat) : Walk (Its k n) H1 n (fun i x _ => x = .int ((i : Int) * (k : Int))) where
  go := fun i H2 s hi => hi
  yld := fun i H2 x H3 s hi y => by
    obtain ⟨rfl, rfl⟩ := y
    exact ⟨Same.refl _, rfl⟩
  stop := fun H2 s => Nat.le_refl _
end
end L2


set_option maxHeartbeats 1000000
namespace L2
open PySem PySem.Spec PyProof.Rows

noncomputable def Itz (z : Str) : It := ⟨fun i _ => i < z.cps.size, fun i H x H' => H' = H ∧ ∃ c, z.cps[i]? = some c ∧ x = .str ⟨#[c]⟩, fun i _ => z.cps.size ≤ i⟩
theorem turn_str {P : Program} {w : World} {K : PySem.W.Frag} {tg : Expr} {T : String} {it : Addr} {z : Str} {t : Tok} (hn : ["enumerate", "zip", "dict_itemiterator", "dict_reverseitemiterator", "odict_iterator", "itertools.zip_longest", "itertools.pairwise"].contains T = false)
    (W : ∀ A' : Around, A'.handled = none → Walks P w A' it [it] [it] z.cps.size (SignAt z) (fun i h => h.IsStrIter it T z t i)) (slf : ∀ (A : Around) (i : Nat) (s : Shared) (Q : Value → Shared → Prop) (E : Value → Shared → Prop), s.heap.IsStrIter it T z t i → Q (.ref it) s → wpAny (model P w) A (pyIter (.ref it)) Q E s) :
    Turn P w K tg (Itz z) [it] it (fun i h => h.IsStrIter it T z t i ∧ i ≤ z.cps.size) where
  mem := by simp
  obj := fun i h st b hb => by
    have e : b = it := by simpa using hb
    subst e
    obtain ⟨⟨o, e, c, d⟩, _⟩ := st
    exact ⟨o, e, fun v z => by rw [d] at z; cases z⟩
  keep := fun i h h' st k => by
    obtain ⟨⟨o, e, r⟩, hi⟩ := st
    exact ⟨⟨o, k it (by simp) o e, r⟩, hi⟩
  item := by
    intro X hP hw hK hc i pins s σ H E I hf st hg
    subst hP hw hK
    obtain ⟨st, _⟩ := st
    obtain ⟨f0, f1, f2, f3, f4, f5⟩ := hf it (by simp)
    refine (W X.A (I.ok.hd hc)).item i s _ _ hg st fun v h' tk hv st' kk => ?_
    obtain ⟨c, u, hcu, rfl⟩ := hv
    have J : Inv X pins σ H { s with heap := h', toks := tk } := I.turned (fun b o hb e => kk b o (by simpa using hb) e) f0 f1 f3 f4 f5
    obtain ⟨o, e, oc, d⟩ := id st'
    exact ⟨_, rfl, go_of (s := { s with heap := h', toks := tk }) e oc d hn ⟨.str ⟨#[c]⟩, H, J, ⟨u, rfl⟩, ⟨rfl, c, hcu, rfl⟩, ⟨st', hg⟩, fun b hb => (hf b hb).1⟩⟩
  done := by
    intro X hP hw hK hc i pins s σ H E I hf st hg
    subst hP hw hK
    obtain ⟨st, hi⟩ := st
    obtain ⟨f0, f1, f2, f3, f4, f5⟩ := hf it (by simp)
    have e : i = z.cps.size := Nat.le_antisymm hi hg
    subst e
    exact (W X.A (I.ok.hd hc)).done s _ _ st fun h' tk eb => ⟨rfl, I.turned (t' := tk) (fun b o hb e => eb b o (by simpa using hb) e) f0 f1 f3 f4 f5⟩
  self := fun A i s Q E st h => slf A i s Q E st.1 h
section
variable {X : Cx} {tg : Expr}
noncomputable def iStr (tl : TE) : TI := fun σ H R => tl σ H fun x H1 => ∃ z, x = .str z ∧ R (Itz z) H1
theorem pi_str {l : Expr} {tl : TE} (hl : PE X l tl) : PI X tg l (iStr tl) := by
  intro pins s σ H R I h
  refine thnE (hl pins s σ H _ I h) fun v s1 x H1 I1 r1 q1 => ?_
  obtain ⟨z, rfl, q⟩ := q1
  obtain ⟨t, rfl⟩ := r1
  have hfp : ∀ b ∈ [s1.heap.objs.size], FpOk X pins H1 b := fun b hb => by
    rw [List.mem_singleton.mp hb]
    exact I1.fpOk (Nat.le_refl _) (I1.hok.fresh (Nat.le_refl _))
  cases ha : z.cps.all (· < 128)
  · exact wpAny_pyIter_wide ha ⟨s1.heap.objs.size, [s1.heap.objs.size], _, _, H1, rfl, I1.kept (t' := s1.toks) fun b o e => Heap.get?_push_of_some _ e, turn_str (T := "str_iterator") (t := t) (by decide) (fun A' hA => Walks.strWide hA _ z t) (fun A i s Q E st h => wpAny_pyIter_striter_wide st h), ⟨⟨_, Heap.get?_push_size _ rfl, rfl, rfl⟩, Nat.zero_le _⟩, hfp, q⟩
  · exact wpAny_pyIter_ascii ha ⟨s1.heap.objs.size, [s1.heap.objs.size], _, _, H1, rfl, I1.kept (t' := s1.toks) fun b o e => Heap.get?_push_of_some _ e, turn_str (T := "str_ascii_iterator") (t := t) (by decide) (fun A' hA => Walks.strAscii hA _ z t) (fun A i s Q E st h => wpAny_pyIter_striter_ascii st h), ⟨⟨_, Heap.get?_push_size _ rfl, rfl, rfl⟩, Nat.zero_le _⟩, hfp, q⟩
theorem for_str {z : Str} {g : TG} {tb : TS} {D : Ends} {σ : St} {H : Hp} (Pv : Nat → St → Hp → Prop) (h0 : Pv 0 σ H)
    (hs : ∀ i c σ H, z.cps[i]? = some c → Pv i σ H → g (.str ⟨#[c]⟩) σ H fun σ2 H2 => tb { D with nx := Pv (i + 1), ct := Pv (i + 1), bk := D.nx } σ2 H2) (hd : ∀ σ H, Pv z.cps.size σ H → D.nx σ H) :
    ∃ W : Nat → Nat → St → Hp → Prop, (∃ m, W 0 m σ H) ∧ ∀ i m σ H, W i m σ H →
      ((Itz z).stop i H ∧ D.nx σ H) ∨ ((Itz z).go i H ∧ ∃ N : St → Hp → Prop, (∀ σ' H', N σ' H' → ∃ m', m' < m ∧ W (i + 1) m' σ' H') ∧ ∀ x H', (Itz z).yld i H x H' → g x σ H' fun σ2 H2 => tb { D with nx := N, ct := N, bk := D.nx } σ2 H2) := by
  refine ⟨fun i m σ H => m = z.cps.size - i ∧ i ≤ z.cps.size ∧ Pv i σ H, ⟨z.cps.size, by simp, Nat.zero_le _, h0⟩, ?_⟩
  rintro i m σ H ⟨rfl, hi, p⟩
  by_cases hlt : i < z.cps.size
  · refine .inr ⟨hlt, Pv (i + 1), fun σ' H' p' => ⟨z.cps.size - (i + 1), by omega, rfl, hlt, p'⟩, fun x H' y => ?_⟩
    obtain ⟨e, c, hc, rfl⟩ := y
    subst e
    exact hs i c σ _ hc p
  · have e : i = z.cps.size := by omega
    subst e
    exact .inl ⟨Nat.le_refl _, hd σ H p⟩

theorem part_of {v : Value} {o : Option Int} (h : IsPart v o) : ∃ l : Option (Int × Tok), v = partValue l := by
  cases h with
  | none => exact ⟨none, rfl⟩
  | int i t => exact ⟨some (i, t), rfl⟩
noncomputable def rSlS : V → Option Int → Option Int → Hp → VK → Prop := fun x _ _ H Q => ∃ z, x = .str z ∧ z.length ≤ sizeLine ∧ ∀ y : Str, y.length ≤ z.length → Q (.str y) H
theorem sl_str : SlR X rSlS := by
  intro pins s σ H x v vl vu lo hi sl Q I rx hs pl pu h
  obtain ⟨z, rfl, hz, q⟩ := h
  obtain ⟨t, rfl⟩ := rx
  obtain ⟨l, rfl⟩ := part_of pl
  obtain ⟨u, rfl⟩ := part_of pu
  refine ⟨"str", _, slot_str_getitem.lookup, typeIs_str s z t, wpAny_getItem_str_slice (l := l) (u := u) (st := none) hs rfl ?_⟩
  unfold sliceMade
  split
  · exact ⟨.str z, H, I, ⟨t, rfl⟩, q z (Nat.le_refl _)⟩
  · have hlen : (⟨((slicePicked z l u none).filterMap (z.cps[·]?)).toArray⟩ : Str).length ≤ z.length := by
      show (List.filterMap _ _).toArray.size ≤ z.length
      rw [List.size_toArray]
      exact Nat.le_trans (List.length_filterMap_le _ _) (indices_len_le _ _ z.length)
    exact ⟨Nat.le_trans hlen hz, .str _, H, I.tok _, ⟨_, rfl⟩, q _ hlen⟩
theorem call_int_text : CallR X (.type "int") (fun xs H Q => ∃ z n, xs = [.str z] ∧ PySem.intText? z = some n ∧ z.length ≤ 640 ∧ Q (.int n) H) := by
  intro pins s σ H xs us Q I r h
  obtain ⟨z, n, rfl, hn, hl, q⟩ := h
  obtain ⟨u, rfl, rx⟩ := vals1 r
  obtain ⟨t, rfl⟩ := rx
  exact PySem.W.KIN.call_text hn hl ⟨.int n, H, I.tok _, ⟨_, rfl⟩, q⟩
noncomputable def rInsert : V → List V → Hp → VK → Prop := fun x vs H Q => ∃ l xs k y, x = .ref l ∧ vs = [.int ((k : Nat) : Int), y] ∧ H l = some (.lst xs) ∧ k ≤ xs.length ∧ xs.length < sizeLine ∧ k < 1000000 ∧ Q .non (upd H l (.lst (xs.take k ++ y :: xs.drop k)))
theorem mt_insert : MtM X "list.insert" rInsert := by
  intro pins s σ H x vs v us Q I rx rv h
  obtain ⟨l, xs, k, y, rfl, rfl, hH, hk, hz, hk2, q⟩ := h
  cases rx
  obtain ⟨u1, u2, rfl, ⟨t, rfl⟩, ru⟩ := vals2 rv
  obtain ⟨z, its, n, r, hl, e⟩ := I.lstM hH
  obtain ⟨i, hi⟩ : ∃ i : Int, i = ((k : Nat) : Int) := ⟨_, rfl⟩
  rw [← hi]
  have hc : ¬(!Builtin.List.listFitsIndex i) = true := by
    rw [fitsIndex_both (by omega) (by omega)]
    decide
  have hz2 : its.toArray.size ≤ sizeLine := by
    rw [List.size_toArray, ← hl]
    exact Nat.le_of_lt hz
  refine call_meets F.slot_list_insert ⟨_, e, rfl⟩ F.entry_list_insert (F.args_list_insert_3 _ _ _) (AutoSeq1.list_insert_list_int_val_1 l its.toArray n i t u2 hc hz2) ⟨e, ?_⟩
  refine ⟨.non, _, I.lset (its' := its.take k ++ u2 :: its.drop k) hH e ?_ ((r.take k).append (.cons ru (r.drop k))) ?_, rfl, q⟩
  · have e1 : (if i < 0 then (i + (its.toArray.size : Int)).toNat else min i.toNat its.toArray.size) = k := by
      rw [if_neg (by omega), hi, Int.toNat_natCast, List.size_toArray, Nat.min_eq_left (by omega)]
    show ((its.toArray.extract 0 (if i < 0 then (i + (its.toArray.size : Int)).toNat else min i.toNat its.toArray.size)).push u2 ++ its.toArray.extract (if i < 0 then (i + (its.toArray.size : Int)).toNat else min i.toNat its.toArray.size)) = _
    rw [e1]
    apply Array.ext'
    simp
    exact List.take_of_length_le (by rw [List.length_drop]; omega)
  · rw [List.length_append, List.length_cons, List.length_take, List.length_drop]
    omega

theorem best_min (f : Nat → Int) : ∀ n, argBest (fun i j => decide (f i < f j)) n ≤ n ∧ ∀ k, k ≤ n → f (argBest (fun i j => decide (f i < f j)) n) ≤ f k
  | 0 => ⟨Nat.le_refl _, fun k hk => by
    have : k = 0 := by omega
    subst this
    exact Int.le_refl _⟩
  | n + 1 => by
    obtain ⟨h1, h2⟩ := best_min f n
    show (if decide (f (n + 1) < f (argBest (fun i j => decide (f i < f j)) n)) then n + 1 else argBest (fun i j => decide (f i < f j)) n) ≤ n + 1 ∧ ∀ k, k ≤ n + 1 → f (if decide (f (n + 1) < f (argBest (fun i j => decide (f i < f j)) n)) then n + 1 else argBest (fun i j => decide (f i < f j)) n) ≤ f k
    by_cases h : f (n + 1) < f (argBest (fun i j => decide (f i < f j)) n)
    · rw [decide_eq_true h, if_pos rfl]
      refine ⟨Nat.le_refl _, fun k hk => ?_⟩
      by_cases e : k = n + 1
      · rw [e]
        exact Int.le_refl _
      · have := h2 k (by omega)
        omega
    · rw [decide_eq_false h, if_neg (by decide)]
      refine ⟨by omega, fun k hk => ?_⟩
      by_cases e : k = n + 1
      · rw [e]
        omega
      · exact h2 k (by omega)
theorem best_max (f : Nat → Int) : ∀ n, argBest (fun i j => decide (f i > f j)) n ≤ n ∧ ∀ k, k ≤ n → f k ≤ f (argBest (fun i j => decide (f i > f j)) n)
  | 0 => ⟨Nat.le_refl _, fun k hk => by
    have : k = 0 := by omega
    subst this
    exact Int.le_refl _⟩
  | n + 1 => by
    obtain ⟨h1, h2⟩ := best_max f n
    show (if decide (f (n + 1) > f (argBest (fun i j => decide (f i > f j)) n)) then n + 1 else argBest (fun i j => decide (f i > f j)) n) ≤ n + 1 ∧ ∀ k, k ≤ n + 1 → f k ≤ f (if decide (f (n + 1) > f (argBest (fun i j => decide (f i > f j)) n)) then n + 1 else argBest (fun i j => decide (f i > f j)) n)
    by_cases h : f (n + 1) > f (argBest (fun i j => decide (f i > f j)) n)
    · rw [decide_eq_true h, if_pos rfl]
      refine ⟨Nat.le_refl _, fun k hk => ?_⟩
      by_cases e : k = n + 1
      · rw [e]
        exact Int.le_refl _
      · have := h2 k (by omega)
        omega
    · rw [decide_eq_false h, if_neg (by decide)]
      refine ⟨by omega, fun k hk => ?_⟩
      by_cases e : k = n + 1
      · rw [e]
        omega
      · exact h2 k (by omega)
theorem ints_at {ns : List Int} {its : List Value} (rv : Vals (ns.map V.int) its) (i : Nat) (v : Value) (h : its.toArray[i]? = some v) : ∃ t, v = .int (ns.getD i 0) t := by
  have h : its[i]? = some v := by simpa using h
  have hl := rv.length
  rw [List.length_map] at hl
  have hi : i < ns.length := by
    have := (List.getElem?_eq_some_iff.mp h).1
    omega
  obtain ⟨u, hu, ru⟩ := rv.get (i := i) (x := V.int ns[i]) (by rw [List.getElem?_map, List.getElem?_eq_getElem hi]; rfl)
  rw [h] at hu
  cases hu
  obtain ⟨t, e⟩ := ru
  exact ⟨t, by rw [e, List.getD_eq_getElem?_getD, List.getElem?_eq_getElem hi]; rfl⟩
theorem getD_mem {ns : List Int} {i : Nat} (h : i < ns.length) : ns.getD i 0 ∈ ns := by
  rw [List.getD_eq_getElem?_getD, List.getElem?_eq_getElem h]
  exact List.getElem_mem h
theorem mem_getD {ns : List Int} {n : Int} (h : n ∈ ns) : ∃ i, i < ns.length ∧ ns.getD i 0 = n := by
  obtain ⟨i, hi, e⟩ := List.getElem_of_mem h
  exact ⟨i, hi, by rw [List.getD_eq_getElem?_getD, List.getElem?_eq_getElem hi]; exact e⟩
theorem call_minL (hc : X.calm = true) : CallR X (.builtin "min") (fun xs H Q => ∃ (p : Addr) (ns : List Int), xs = [.ref p] ∧ SqL X.K H p (ns.map V.int) ∧ ns ≠ [] ∧ ∀ m, m ∈ ns → (∀ n ∈ ns, m ≤ n) → Q (.int m) H) := by
  intro pins s σ H xs us Q I r h
  obtain ⟨p, ns, rfl, hq, hne, q⟩ := h
  obtain ⟨u, rfl, rx⟩ := vals1 r
  cases rx
  obtain ⟨its, rv, pl, hz⟩ := I.list hq
  have hl := pl.isList
  have hln := rv.length
  rw [List.length_map] at hln
  have hpos : 0 < ns.length := List.length_pos_iff.mpr hne
  have hlt : p < s.heap.objs.size := by obtain ⟨_, e, _⟩ := hl; exact Heap.lt_size e
  refine call_min_walk (wpAny_pyIter_list hl ?_)
  refine ⟨s.heap.objs.size, [s.heap.objs.size, p], [s.heap.objs.size], its.toArray.size, _, _, _, rfl, Walks.list (A := X.A.in1) (I.ok.hd hc) _ p (Nat.ne_of_lt hlt) its.toArray,
    ⟨⟨_, Heap.get?_push_size _ rfl, rfl, rfl⟩, hl.push _⟩, fun b hb => ?_, by rw [List.size_toArray]; omega, CmpOf.ints_lt (fun i => ns.getD i 0) (ints_at rv), fun v h' tk hP hk => ?_⟩
  · show b < (s.heap.push _).objs.size
    rw [Heap.size_push]
    rcases List.mem_cons.mp hb with rfl | hb
    · exact Nat.lt_succ_self _
    · rcases List.mem_cons.mp hb with rfl | hb
      · exact Nat.lt_succ_of_lt hlt
      · cases hb
  · obtain ⟨t, rfl⟩ := ints_at rv _ _ hP
    obtain ⟨b1, b2⟩ := best_min (fun i => ns.getD i 0) (its.toArray.size - 1)
    rw [List.size_toArray] at b1 b2
    refine ⟨.int _, H, I.kept (t' := tk) (LSm.kept_iter hk), ⟨t, rfl⟩, q _ (getD_mem (by rw [List.size_toArray]; omega)) fun n hn => ?_⟩
    obtain ⟨i, hi, rfl⟩ := mem_getD hn
    rw [List.size_toArray]
    exact b2 i (by omega)
theorem call_maxL (hc : X.calm = true) : CallR X (.builtin "max") (fun xs H Q => ∃ (p : Addr) (ns : List Int), xs = [.ref p] ∧ SqL X.K H p (ns.map V.int) ∧ ns ≠ [] ∧ ∀ m, m ∈ ns → (∀ n ∈ ns, n ≤ m) → Q (.int m) H) := by
  intro pins s σ H xs us Q I r h
  obtain ⟨p, ns, rfl, hq, hne, q⟩ := h
  obtain ⟨u, rfl, rx⟩ := vals1 r
  cases rx
  obtain ⟨its, rv, pl, hz⟩ := I.list hq
  have hl := pl.isList
  have hln := rv.length
  rw [List.length_map] at hln
  have hpos : 0 < ns.length := List.length_pos_iff.mpr hne
  have hlt : p < s.heap.objs.size := by obtain ⟨_, e, _⟩ := hl; exact Heap.lt_size e
  refine call_max_walk (wpAny_pyIter_list hl ?_)
  refine ⟨s.heap.objs.size, [s.heap.objs.size, p], [s.heap.objs.size], its.toArray.size, _, _, _, rfl, Walks.list (A := X.A.in1) (I.ok.hd hc) _ p (Nat.ne_of_lt hlt) its.toArray,
    ⟨⟨_, Heap.get?_push_size _ rfl, rfl, rfl⟩, hl.push _⟩, fun b hb => ?_, by rw [List.size_toArray]; omega, CmpOf.ints_gt (fun i => ns.getD i 0) (ints_at rv), fun v h' tk hP hk => ?_⟩
  · show b < (s.heap.push _).objs.size
    rw [Heap.size_push]
    rcases List.mem_cons.mp hb with rfl | hb
    · exact Nat.lt_succ_self _
    · rcases List.mem_cons.mp hb with rfl | hb
      · exact Nat.lt_succ_of_lt hlt
      · cases hb
  · obtain ⟨t, rfl⟩ := ints_at rv _ _ hP
    obtain ⟨b1, b2⟩ := best_max (fun i => ns.getD i 0) (its.toArray.size - 1)
    rw [List.size_toArray] at b1 b2
    refine ⟨.int _, H, I.kept (t' := tk) (LSm.kept_iter hk), ⟨t, rfl⟩, q _ (getD_mem (by rw [List.size_toArray]; omega)) fun n hn => ?_⟩
    obtain ⟨i, hi, rfl⟩ := mem_getD hn
    rw [List.size_toArray]
    exact b2 i (by omega)
end
end L2


namespace L2
open PySem
theorem runs_det {M : Model} {Γ : Ctx} {p : Pos} {t : Sem Fin} {fs : List Frame} {s s' : Shared} {e : End} (h : Runs M Γ p t fs s e s') : ∀ {e2 : End} {s2 : Shared}, Runs M Γ p t fs s e2 s2 → e = e2 ∧ s' = s2 := by
  induction h with
  | done => intro e2 s2 h2; cases h2; exact ⟨rfl, rfl⟩
  | raise => intro e2 s2 h2; cases h2; exact ⟨rfl, rfl⟩
  | again _ _ ih => intro e2 s2 h2; cases h2 with | again _ h => exact ih h
  | rule _ ih => intro e2 s2 h2; cases h2 with | rule h => exact ih h
  | «at» _ ih => intro e2 s2 h2; cases h2 with | «at» h => exact ih h
  | load g _ ih => intro e2 s2 h2; cases h2 with | load g' h => rw [g] at g'; cases g'; exact ih h
  | update _ _ ih => intro e2 s2 h2; cases h2 with | update _ h => exact ih h
  | loadIfAlive _ ih => intro e2 s2 h2; cases h2 with | loadIfAlive h => exact ih h
  | point _ ih => intro e2 s2 h2; cases h2 with | point h => exact ih h
  | alloc _ ih => intro e2 s2 h2; cases h2 with | alloc h => exact ih h
  | fresh _ ih => intro e2 s2 h2; cases h2 with | fresh h => exact ih h
  | ask _ ih => intro e2 s2 h2; cases h2 with | ask h => exact ih h
  | choose _ _ ih => intro e2 s2 h2; cases h2 with | choose _ h => exact ih h
  | os _ ih => intro e2 s2 h2; cases h2 with | os h => exact ih h
  | handled _ ih => intro e2 s2 h2; cases h2 with | handled h => exact ih h
  | genState g _ ih => intro e2 s2 h2; cases h2 with | genState g' h => rw [g] at g'; cases g'; exact ih h
  | stack _ ih => intro e2 s2 h2; cases h2 with | stack h => exact ih h
  | thread _ ih => intro e2 s2 h2; cases h2 with | thread h => exact ih h
  | newGen _ ih => intro e2 s2 h2; cases h2 with | newGen h => exact ih h
  | call _ _ ih1 ih2 =>
    intro e2 s2 h2
    cases h2 with
    | call a b => obtain ⟨e, rfl⟩ := ih1 a; cases e; exact ih2 b
    | callSusp a => obtain ⟨e, _⟩ := ih1 a; cases e
  | callSusp _ ih =>
    intro e2 s2 h2
    cases h2 with
    | call a b => obtain ⟨e, _⟩ := ih a; cases e
    | callSusp a => obtain ⟨e, rfl⟩ := ih a; cases e; exact ⟨rfl, rfl⟩
  | yield => intro e2 s2 h2; cases h2; exact ⟨rfl, rfl⟩
  | resumeFresh g _ _ _ ih1 ih2 =>
    intro e2 s2 h2
    cases h2 with
    | resumeFresh g' a _ b => rw [g] at g'; cases g'; obtain ⟨rfl, rfl⟩ := ih1 a; exact ih2 b
    | resumeSuspended g' => rw [g] at g'; cases g'
    | resumeJustStarted _ n => exact absurd rfl n
    | resumeRunning g' => rw [g] at g'; cases g'
    | resumeFinished g' => rw [g] at g'; cases g'
  | resumeSuspended g _ _ _ ih1 ih2 =>
    intro e2 s2 h2
    cases h2 with
    | resumeFresh g' => rw [g] at g'; cases g'
    | resumeSuspended g' a _ b => rw [g] at g'; cases g'; obtain ⟨rfl, rfl⟩ := ih1 a; exact ih2 b
    | resumeJustStarted g' => rw [g] at g'; cases g'
    | resumeThrowFresh g' => rw [g] at g'; cases g'
    | resumeRunning g' => rw [g] at g'; cases g'
    | resumeFinished g' => rw [g] at g'; cases g'
  | resumeJustStarted g n _ ih =>
    intro e2 s2 h2
    cases h2 with
    | resumeFresh => exact absurd rfl n
    | resumeSuspended g' => rw [g] at g'; cases g'
    | resumeJustStarted _ _ h => exact ih h
    | resumeRunning g' => rw [g] at g'; cases g'
    | resumeFinished g' => rw [g] at g'; cases g'
  | resumeThrowFresh g _ ih =>
    intro e2 s2 h2
    cases h2 with
    | resumeSuspended g' => rw [g] at g'; cases g'
    | resumeThrowFresh _ h => exact ih h
    | resumeRunning g' => rw [g] at g'; cases g'
    | resumeFinished g' => rw [g] at g'; cases g'
  | resumeRunning g _ ih =>
    intro e2 s2 h2
    cases h2 with
    | resumeFresh g' => rw [g] at g'; cases g'
    | resumeSuspended g' => rw [g] at g'; cases g'
    | resumeJustStarted g' => rw [g] at g'; cases g'
    | resumeThrowFresh g' => rw [g] at g'; cases g'
    | resumeRunning _ h => exact ih h
    | resumeFinished g' => rw [g] at g'; cases g'
  | resumeFinished g _ ih =>
    intro e2 s2 h2
    cases h2 with
    | resumeFresh g' => rw [g] at g'; cases g'
    | resumeSuspended g' => rw [g] at g'; cases g'
    | resumeJustStarted g' => rw [g] at g'; cases g'
    | resumeThrowFresh g' => rw [g] at g'; cases g'
    | resumeRunning g' => rw [g] at g'; cases g'
    | resumeFinished _ h => exact ih h
  | segRet _ _ ih1 ih2 =>
    intro e2 s2 h2
    cases h2 with
    | segRet a b => obtain ⟨e, rfl⟩ := ih1 a; cases e; exact ih2 b
    | segSuspOut _ a => obtain ⟨e, _⟩ := ih1 a; cases e
    | segSuspGen _ a => obtain ⟨e, _⟩ := ih1 a; cases e
  | segGen _ _ ih1 ih2 =>
    intro e2 s2 h2
    cases h2 with
    | segGen a b => obtain ⟨e, rfl⟩ := ih1 a; cases e; exact ih2 b
    | segSuspOut _ a => obtain ⟨e, _⟩ := ih1 a; cases e
    | segSuspGen _ a => obtain ⟨e, _⟩ := ih1 a; cases e
  | segSuspOut n _ ih =>
    intro e2 s2 h2
    cases h2 with
    | segRet a => obtain ⟨e, _⟩ := ih a; cases e
    | segGen a => obtain ⟨e, _⟩ := ih a; cases e
    | segSuspOut _ a => obtain ⟨e, rfl⟩ := ih a; cases e; exact ⟨rfl, rfl⟩
    | segSuspGen n' => rw [n] at n'; cases n'
  | segSuspGen n _ _ _ ih1 ih2 =>
    intro e2 s2 h2
    cases h2 with
    | segRet a => obtain ⟨e, _⟩ := ih1 a; cases e
    | segGen a => obtain ⟨e, _⟩ := ih1 a; cases e
    | segSuspOut n' => rw [n] at n'; cases n'
    | segSuspGen n' a _ b => rw [n] at n'; cases n'; obtain ⟨e, rfl⟩ := ih1 a; cases e; exact ih2 b
theorem wakes_det {M : Model} {Γ : Ctx} {p : Pos} {g : Nat} {r : Resume} {s s1 s2 : Shared} {res res2 : GenResult} (h1 : Wakes M Γ p g r s res s1) (h2 : Wakes M Γ p g r s res2 s2) : res = res2 ∧ s1 = s2 := by
  unfold Wakes at h1 h2
  cases hg : s.gens[g]? with
  | none => rw [hg] at h1; exact h1.elim
  | some st =>
    rw [hg] at h1 h2
    have run : ∀ {Γ' p' t' fs' s0}, (∃ e₁ s₁, Runs M Γ' p' t' fs' s0 e₁ s₁ ∧ e₁.quiet = true ∧ res = e₁.result ∧ s1 = s₁.setGen g e₁.genState) → (∃ e₁ s₁, Runs M Γ' p' t' fs' s0 e₁ s₁ ∧ e₁.quiet = true ∧ res2 = e₁.result ∧ s2 = s₁.setGen g e₁.genState) → res = res2 ∧ s1 = s2 := by
      rintro _ _ _ _ _ ⟨e1, t1, a, b, c, d⟩ ⟨e2, t2, a', b', c', d'⟩
      obtain ⟨rfl, rfl⟩ := runs_det a a'
      exact ⟨c.trans c'.symm, d.trans d'.symm⟩
    have two : ∀ {x : GenResult} {y : Shared}, res = x ∧ s1 = y → res2 = x ∧ s2 = y → res = res2 ∧ s1 = s2 := fun a b => ⟨a.1.trans b.1.symm, a.2.trans b.2.symm⟩
    cases st with
    | fresh c =>
      cases r with
      | send v => cases v <;> first | exact run h1 h2 | exact two h1 h2
      | throw x => exact two h1 h2
    | suspended k0 l c0 p0 fs0 cl => exact run h1 h2
    | running => exact two h1 h2
    | finished => exact two h1 h2
theorem wp_conj {α : Type} {M : Model} {Γ : Ctx} (t : Sem α) {Q1 Q2 : α → Pos → Shared → Prop} {E1 E2 : Value → Pos → Shared → Prop} {p : Pos} {s : Shared} (h1 : Sem.wp M Γ t Q1 E1 p s) (h2 : Sem.wp M Γ t Q2 E2 p s) :
    Sem.wp M Γ t (fun a p s => Q1 a p s ∧ Q2 a p s) (fun e p s => E1 e p s ∧ E2 e p s) p s := by
  induction t generalizing p s with
  | pure a => exact ⟨h1, h2⟩
  | raise e => exact ⟨h1, h2⟩
  | load a part k ih =>
    rw [Sem.wp] at h1 h2 ⊢
    obtain ⟨o, g, h1⟩ := h1
    obtain ⟨o', g', h2⟩ := h2
    rw [g] at g'
    cases g'
    exact ⟨o, g, ih o h1 h2⟩
  | update a part f k ih =>
    rw [Sem.wp] at h1 h2 ⊢
    exact ⟨h1.1, ih () h1.2 h2.2⟩
  | choose src n k ih =>
    rw [Sem.wp] at h1 h2 ⊢
    exact ⟨h1.1, ih _ h1.2 h2.2⟩
  | call c h g l k ih =>
    rw [Sem.wp] at h1 h2 ⊢
    obtain ⟨r, s1, g1, h1⟩ := h1
    obtain ⟨r', s1', g2, h2⟩ := h2
    obtain ⟨e, rfl⟩ := runs_det g1 g2
    cases e
    exact ⟨r, s1, g1, ih r h1 h2⟩
  | genState g k ih =>
    rw [Sem.wp] at h1 h2 ⊢
    obtain ⟨o, g, h1⟩ := h1
    obtain ⟨o', g', h2⟩ := h2
    rw [g] at g'
    cases g'
    exact ⟨o, g, ih _ h1 h2⟩
  | resume g r l k ih =>
    rw [Sem.wp] at h1 h2 ⊢
    obtain ⟨o, s1, g1, h1⟩ := h1
    obtain ⟨o', s1', g2, h2⟩ := h2
    obtain ⟨rfl, rfl⟩ := wakes_det g1 g2
    exact ⟨o, s1, g1, ih _ h1 h2⟩
  | _ => first
    | exact absurd h1 (by rw [Sem.wp]; exact id)
    | (rename_i ih; rw [Sem.wp] at h1 h2 ⊢; exact ih _ h1 h2)
theorem wpAny_conj {α : Type} {M : Model} {A : Around} {t : Sem α} {Q1 Q2 : α → Shared → Prop} {E1 E2 : Value → Shared → Prop} {s : Shared} (h1 : wpAny M A t Q1 E1 s) (h2 : wpAny M A t Q2 E2 s) :
    wpAny M A t (fun a s => Q1 a s ∧ Q2 a s) (fun e s => E1 e s ∧ E2 e s) s := fun Γ p hΓ => wp_conj t (h1 Γ p hΓ) (h2 Γ p hΓ)
end L2


set_option maxHeartbeats 1000000
namespace L2
open PySem

noncomputable def Fld2 (h : Heap) (e : Addr) : Prop := ∃ o vs, h.get? e = some o ∧ o.data = .fields vs ∧ vs[2]? = some .none

structure MadeFrom (h h' : Heap) (e : Addr) (cls : Value) (a : Addr) : Prop where
  keeps : ∀ b o, h.get? b = some o → h'.get? b = some o
  new : h.get? e = none
  there : ∃ t, h'.get? e = some { cls := cls, data := .fields #[.ref t, .none, .ref a, .none, .bool true, .none] }
theorem unchain_entry : entryFor table "proto.unchain" = some Builtin.«proto.unchain» := entryFor_of_tree (by kernel_rfl)
section
variable {prog : Program} {w : World} {A : Around} {E : Value → Shared → Prop} {s : Shared} {env : Env}
theorem wpAny_raiseNew_some {e a : Addr} {oe : Obj} {vs : Array Value} {Q : Flow → Shared → Prop} (hh : A.handled = some (.ref a)) (ne : a ≠ e) (hf : Fld2 s.heap a) (he : s.heap.get? e = some oe) (hd : oe.data = .fields vs) (hs : 2 < vs.size)
    (h : E (.ref e) { s with heap := s.heap.update e (Obj.mapFields (·.setIfInBounds 2 (.ref a))) }) : wpAny (model prog w) A (raiseNew (.ref e) : Sem Flow) Q E s := by
  obtain ⟨o, us, ho, hdo, hu⟩ := hf
  unfold raiseNew
  refine wpAny_bind (wpAny_handled ?_)
  rw [hh]
  have hne : (Value.ref a != Value.ref e) = true := by simpa using ne
  dsimp only
  rw [if_pos hne]
  refine wpAny_bind (wpAny_holding (wpAny_runValue (codeAny_builtin unchain_entry ?_)))
  unfold Builtin.«proto.unchain»
  refine wpAny_bind (wpAny_field ho hdo hu ?_)
  rw [if_pos (show (Value.none == Value.none) = true from rfl)]
  refine wpAny_pure ?_
  refine wpAny_bind ?_
  show wpAny _ A (updateField e 2 (.ref a)) _ _ _
  refine wpAny_setField he hd hs (wpAny_throw h)

theorem wpAny_raiseStmt_from {M : Model} {nm q : Str} {C N : Addr} {bs bm : List Value} {hdct : Bool} {sn : List Str} {sub : List Value} {ab : Bool} {col : Option Bool} {dd : Option Addr} {k0 k1 k2 k3 k5 : Option Value} {newId : String} {a : Addr} {x c : Sem Value} {Q : Flow → Shared → Prop}
    (hbase : bm.contains (.type "BaseException") = true) (hh : A.handled = some (.ref a)) (hc : ∀ (s' : Shared) (Q' : Value → Shared → Prop) (E' : Value → Shared → Prop), Q' .none s' → wpAny (model prog w) A c Q' E' s')
    (h : wpAny (model prog w) A x (fun v s₁ => ∃ e t, v = .ref e ∧ s₁.heap.get? C = some (excClassObj nm q C N bs bm hdct sn sub ab col dd k0 k1 k2 k3 k5 newId) ∧
      s₁.heap.get? e = some { cls := .ref C, data := .fields #[.ref t, .none, .none, .none, .bool false, .none] } ∧ Fld2 s₁.heap a ∧ a ≠ e ∧ ∀ h', (∀ b, b ≠ e → h'.get? b = s₁.heap.get? b) → h'.get? e = some { cls := .ref C, data := .fields #[.ref t, .none, .ref a, .none, .bool true, .none] } → E (.ref e) { s₁ with heap := h' }) E s) :
    wpAny (model prog w) A (raiseStmt env (some x) (some c)) Q E s := by
  have hcB : (Value.ref C :: bm).contains (.type "BaseException") = true := by rw [List.contains_cons, hbase, Bool.or_true]
  unfold raiseStmt
  refine wpAny_bind (wpAny_mono h (fun v s₁ h₁ => ?_) fun _ _ x => x)
  obtain ⟨e, t, rfl, hC, he, hf, ne, hE⟩ := h₁
  refine wpAny_bind (wpAny_holding (hc _ _ _ (wpAny_bind (wpAny_pure ?_))))
  obtain ⟨hp, g, d, tk, os⟩ := s₁
  repeat (first | with_reducible refine wpAny_loadPart_at he ?_ | with_reducible refine wpAny_loadPart_at hC ?_ | (with_reducible refine wpAny_isSubtype_exc hC ?_; rw [hcB]) | wp_step)
  have nC : e ≠ C := fun z => by
    subst z
    rw [he] at hC
    cases hC
  obtain ⟨h2, eh2⟩ : ∃ h2, h2 = (hp.update e (Obj.mapFields fun x => x.setIfInBounds 3 Value.none)).update e (Obj.mapFields fun x => x.setIfInBounds 4 (Value.bool true)) := ⟨_, rfl⟩
  have oth : ∀ b, b ≠ e → h2.get? b = hp.get? b := fun b hb => by rw [eh2, Heap.get?_update_other _ _ (Ne.symm hb), Heap.get?_update_other _ _ (Ne.symm hb)]
  have he2 : h2.get? e = some { cls := .ref C, data := .fields #[.ref t, .none, .none, .none, .bool true, .none] } := by
    rw [eh2]
    exact Heap.get?_update_self _ (Heap.get?_update_self _ he rfl) rfl
  have hC2 := (oth C (Ne.symm nC)).trans hC
  rw [← eh2]
  refine wpAny_loadPart_at hC2 (wpAny_pure ?_)
  rw [if_pos (show (Value.type "type" == Value.type "type") = true from rfl)]
  refine wpAny_pure ?_
  dsimp only
  unfold setFlight
  refine wpAny_bind (wpAny_bind (wpAny_field (x := Value.none) he2 rfl rfl ?_))
  rw [if_neg (by decide)]
  refine wpAny_pure ?_
  have hf2 : Fld2 h2 a := by
    obtain ⟨o, vs, ho, r⟩ := hf
    exact ⟨o, vs, (oth a ne).trans ho, r⟩
  refine wpAny_raiseNew_some (oe := { cls := .ref C, data := .fields #[.ref t, .none, .none, .none, .bool true, .none] }) hh ne hf2 he2 rfl (by show 2 < 6; decide) (hE _ (fun b hb => (Heap.get?_update_other _ _ (Ne.symm hb)).trans (oth b hb)) ?_)
  exact Heap.get?_update_self _ he2 rfl
theorem wpAny_Raise_from {nm q : Str} {C N : Addr} {bs bm bmB : List Value} {hdct : Bool} {sn : List Str} {sub : List Value} {ab : Bool} {col : Option Bool} {dd : Option Addr} {k0 k1 k2 k3 k5 : Option Value} {B newId initId : String} (F : ExcBaseFacts B newId initId bmB)
    {mN : Str → Option Value} {x : Str} {np cpos pos kpos : Pos} {kk : Nat} {args : List Expr} {a : Addr} {Q : Flow → Shared → Prop} (hbase : bm.contains (.type "BaseException") = true) (hh : A.handled = some (.ref a)) (hplain : (backTo cpos (starEach args env)).any (·.1) = false) (hni : mN "__init__" = none)
    (h : wpAny (model prog w) A (eval (.Name x np) env) (fun f s₁ => f = .ref C ∧ wpAny (model prog w) A (evalArgs (.ref C) true (backTo cpos (starEach args env)) [])
      (fun ar s₂ => ar.kw = [] ∧ ar.pos.length ≤ sizeLine ∧ s₂.heap.get? C = some (excClassObj nm q C N bs bm hdct sn sub ab col dd k0 k1 k2 k3 k5 newId) ∧ s₂.heap.Ns N mN ∧ OwnTail s₂.heap bmB bm ∧ Fld2 s₂.heap a ∧
        ∀ h' e, MadeFrom s₂.heap h' e (.ref C) a → E (.ref e) { s₂ with heap := h' }) E s₁) E s) :
    wpAny (model prog w) A (exec (.Raise (some (.Call (.Name x np) args [] cpos)) (some (.Constant .none kk kpos)) pos) env) Q E s := by
  rw [arm_exec_Raise]
  refine wpAny_bind (wpAny_standAt ?_)
  show wpAny _ A (raiseStmt env (some (do let v ← eval (.Call (.Name x np) args [] cpos) env; standAt pos; pure v)) (some (do let v ← eval (.Constant .none kk kpos) env; standAt pos; pure v))) Q E s
  refine wpAny_raiseStmt_from (M := model prog w) (C := C) (nm := nm) (q := q) (N := N) (bs := bs) (bm := bm) (hdct := hdct) (sn := sn) (sub := sub) (ab := ab) (col := col) (dd := dd) (k0 := k0) (k1 := k1) (k2 := k2) (k3 := k3) (k5 := k5) (newId := newId) hbase hh (fun s' Q' E' hq => ?_) ?_
  · exact wpAny_bind (PyProof.Rows.Constant_none (wpAny_bind (wpAny_standAt (wpAny_pure hq))))
  refine wpAny_bind (wpAny_mono (wpAny_Call_ofName (wpAny_mono h (fun f s₁ h₁ => ?_) fun _ _ x => x)) (fun v s₃ h₃ => wpAny_bind (wpAny_standAt (wpAny_pure h₃))) fun _ _ x => x)
  obtain ⟨rfl, h₁⟩ := h₁
  unfold callWith
  refine wpAny_bind (wpAny_holding (wpAny_mono h₁ (fun ar s₂ h₂ => wpAny_bind (wpAny_standAt ?_)) fun _ _ x => x))
  obtain ⟨apos, akw⟩ := ar
  obtain ⟨hkw, hlen, hC, hn, T, hf, h₂⟩ := h₂
  obtain rfl : akw = [] := hkw
  obtain ⟨hp, g, d, tk, os⟩ := s₂
  simp only [hplain]
  refine wpAny_bind (wpAny_keeperOf_exc hC ?_)
  refine wpAny_bind (wpAny_call_exc_subT (hrest := hlen) F T hC hn hni fun h' e hm => wpAny_bind (wpAny_holding (wpAny_point (wpAny_pure ?_))))
  obtain ⟨t, ht, _, _⟩ := hm.there
  have ne : a ≠ e := fun z => by
    obtain ⟨o, vs, ho, _⟩ := hf
    have := hm.new
    rw [← z] at this
    rw [this] at ho
    cases ho
  obtain ⟨o, vs, ho, r⟩ := hf
  exact ⟨e, t, rfl, hm.keeps _ _ hC, ht, ⟨o, vs, hm.keeps _ _ ho, r⟩, ne, fun h2 oth he2 => h₂ h2 e ⟨fun b ob hb => (oth b fun z => by rw [z, hm.new] at hb; cases hb).trans (hm.keeps _ _ hb), hm.new, t, he2⟩⟩
end
section
variable {M : Model} {A : Around} {E : Value → Shared → Prop} {s : Shared}
theorem flight_fld2 {base : Heap} {e : Addr} {cls a0 fl : Value} {fr : Option Addr} (h2 : Fld2 s.heap e) (ht : s.heap.TracedAtW base e cls a0 fl) : wpAny M A (setFlight (.ref e) fr) (fun _ s' => Fld2 s'.heap e) E s := by
  obtain ⟨oe, vs, T, oT, ts, he, _, hd, h1, _, hTe, hT, hdT, h3⟩ := ht
  obtain ⟨o, us, ho, r⟩ := h2
  unfold setFlight
  refine wpAny_bind (wpAny_field he hd h1 ?_)
  rw [if_pos (by simp)]
  exact wpAny_setField hT hdT (Array.getElem?_eq_some_iff.mp h3).1 ⟨o, us, (Heap.get?_update_other _ _ hTe).trans ho, r⟩

theorem entry_fld2 {base : Heap} {env : Env} {outer : List Env} {L e : Addr} {head : Value} {hadNext : Bool} (hfr : A.frames = some (env :: outer)) (hl : s.heap.FunFrames base (env :: outer)) (hf : env.frame = some L) (h2 : Fld2 s.heap e) :
    wpAny M A (do let a ← frameOf env; let pl ← entryPlaceOf L hadNext; let b ← EntryCells.newEntry head a .none (rawInt L) .none pl; setField (.ref e) 1 b) (fun _ s' => Fld2 s'.heap e) E s := by
  obtain ⟨o, us, ho, hd, hu⟩ := h2
  have hsz : 2 < us.size := (Array.getElem?_eq_some_iff.mp hu).1
  have out : e ∉ (env :: outer).filterMap (·.frame) := fun hm => by
    obtain ⟨_, o', ho', hnf⟩ := hl.mem hm
    rw [ho] at ho'
    cases ho'
    exact hnf us hd
  refine wpAny_bind (wpAny_frameOf_fun hfr hl hf fun h1 hs1 => ?_)
  refine wpAny_bind (wpAny_entryPlaceOf fun pl hpl => ?_)
  unfold EntryCells.newEntry newFields
  refine wpAny_bind (wpAny_newObj_type ?_ (hpl.sizeOk5 _ _ _ _ _))
  have ho1 : h1.get? e = some o := (hs1.2.1 e out).trans ho
  refine wpAny_setField (Heap.get?_push_of_some _ ho1) hd (by omega) ⟨_, _, Heap.get?_update_self _ (Heap.get?_push_of_some _ ho1) (Obj.isFreed_of_fields (Obj.data_mapFields hd _)), Obj.data_mapFields hd _, ?_⟩
  rw [Array.getElem?_setIfInBounds_ne (by decide)]
  exact hu
theorem note_fld2 {base : Heap} {env : Env} {outer : List Env} {L e : Addr} {cls a0 : Value} (hfr : A.frames = some (env :: outer)) (hl : s.heap.FunFrames base (env :: outer)) (hf : env.frame = some L) (ht : s.heap.TracedW base e cls a0) (h2 : Fld2 s.heap e) :
    wpAny M A (noteFrame (.ref e) env) (fun _ s' => Fld2 s'.heap e) E s := by
  obtain ⟨oe, vs, T, oT, ts, he, _, hd, h1, hnT, hTe, hT, hdT, h3⟩ := ht
  unfold noteFrame
  simp only [hf]
  refine wpAny_bind (wpAny_field he hd h1 ?_)
  rw [if_pos (by simp)]
  refine wpAny_bind (wpAny_field hT hdT h3 ?_)
  rw [if_neg (by simp [rawInt])]
  refine wpAny_bind (wpAny_setField hT hdT (Array.getElem?_eq_some_iff.mp h3).1 ?_)
  refine entry_fld2 hfr (hl.of_keeps fun b o hb hnf => ⟨o, (Heap.get?_update_other _ _ fun z => ?_).trans hb, rfl⟩) hf ?_
  · rw [← z, hT] at hb
    cases hb
    exact hnf ts hdT
  · obtain ⟨o, us, ho, r⟩ := h2
    exact ⟨o, us, (Heap.get?_update_other _ _ hTe).trans ho, r⟩

theorem first_fld2 {base : Heap} {env : Env} {outer : List Env} {L e : Addr} {oe : Obj} {vs : Array Value} (hfr : A.frames = some (env :: outer)) (hl : s.heap.FunFrames base (env :: outer)) (hf : env.frame = some L) (he : s.heap.get? e = some oe) (hd : oe.data = .fields vs) (h1 : vs[1]? = some .none) (h2 : vs[2]? = some .none) :
    wpAny M A (noteFrame (.ref e) env) (fun _ s' => Fld2 s'.heap e) E s := by
  unfold noteFrame
  simp only [hf]
  refine wpAny_bind (wpAny_field he hd h1 ?_)
  rw [if_neg (by decide)]
  exact entry_fld2 hfr hl hf ⟨oe, vs, he, hd, h2⟩
theorem first_noted {base : Heap} {env : Env} {outer : List Env} {L e : Addr} {oe : Obj} {vs : Array Value} {a0 : Value} {Q : Unit → Shared → Prop} (hfr : A.frames = some (env :: outer)) (hl : s.heap.FunFrames base (env :: outer)) (hf : env.frame = some L)
    (he : s.heap.get? e = some oe) (hkb : base.StaysIn s.heap) (hen : base.get? e = none) (hd : oe.data = .fields vs) (h1 : vs[1]? = some .none) (h0 : vs[0]? = some a0)
    (h : ∀ h', Heap.NotedW base (env :: outer) e oe.cls a0 (rawInt L) s.heap h' → Q () { s with heap := h' }) : wpAny M A (noteFrame (.ref e) env) Q E s := by
  unfold noteFrame
  simp only [hf]
  refine wpAny_bind (wpAny_field he hd h1 ?_)
  rw [if_neg (by decide)]
  exact wpAny_entryW hfr hl hf he hkb hen hd (Array.getElem?_eq_some_iff.mp h1).1 h0 h
theorem leave_fld2 {base : Heap} {env : Env} {outer : List Env} {L e : Addr} {oe : Obj} {vs : Array Value} {a0 : Value} (hfr : A.frames = some (env :: outer)) (hl : s.heap.FunFrames base (env :: outer)) (hf : env.frame = some L) (he : s.heap.get? e = some oe) (hkb : base.StaysIn s.heap) (hen : base.get? e = none) (hd : oe.data = .fields vs) (h1 : vs[1]? = some .none) (h0 : vs[0]? = some a0) (h2 : vs[2]? = some .none) :
    wpAny M A (leaving env (.ref e)) (fun _ s' => Fld2 s'.heap e) E s := by
  unfold leaving
  refine wpAny_bind (wpAny_mono (wpAny_conj (first_noted (Q := fun _ s' => Heap.NotedW base (env :: outer) e oe.cls a0 (rawInt L) s.heap s'.heap) (E := E) hfr hl hf he hkb hen hd h1 h0 fun _ z => z) (first_fld2 (E := E) hfr hl hf he hd h1 h2)) (fun _ s' z => ?_) fun _ _ z => z.1)
  obtain ⟨⟨_, _, tr, _⟩, f2⟩ := z
  exact flight_fld2 f2 tr
end
end L2


set_option maxHeartbeats 2000000
namespace L2
open PySem PySem.Spec PyProof.Rows

noncomputable def CXF (P : Program) (w : World) : CXT := fun outer H s E e s' => CXR P w outer H s E e s' ∧ ∃ a, e = .ref a ∧ Fld2 s'.heap a
section
variable {X : Cx} {pins : List (Addr × Obj)} {σ : St} {H : Hp} {s : Shared}

theorem Inv.hid (I : Inv X pins σ H s) (hs : X.stack = X.env :: X.outer) : ∃ B : Heap, B.StaysIn s.heap ∧ (∀ b o, s.heap.get? b = some o → b ∉ frs X.stack → B.get? b = some o) ∧ s.heap.FunFrames B (X.env :: X.outer) := by
  refine ⟨PySem.W.hideAll s.heap (frs X.stack), fun b o z => PySem.W.of_hideAll _ z, fun b o z n => PySem.W.hideAll_get _ z n, ?_⟩
  have := PySem.W.funFrames_hide (as := frs X.stack) I.stack fun env he a ha => List.mem_filterMap.mpr ⟨env, he, ha⟩
  rw [hs] at this
  rw [hs]
  exact this
theorem fresh_of {B h : Heap} {e : Addr} (st : B.StaysIn h) (n : h.get? e = none) : B.get? e = none := by
  cases z : B.get? e with
  | none => rfl
  | some o =>
    have := st _ _ z
    rw [n] at this
    cases this
theorem made_leavesF {h' : Heap} {e C : Addr} {vs : List Value} {E : XK} {E' : Value → Shared → Prop} (I : Inv X pins σ H s) (hs : X.stack = X.env :: X.outer) (hf : X.env.frame = some X.env.locals) (hex : X.ex = []) (hx : Heap.MadeExcOf s.heap h' e (.ref C) vs) (q : E (.ref C) none H) :
    wpAny (model X.prog X.w) X.A (leaving X.env (.ref e)) (fun _ s'' => CXF X.prog X.w X.outer X.H₀ X.s₀ E (.ref e) s'') E' { s with heap := h' } := by
  obtain ⟨t, ht, _, _⟩ := hx.there
  obtain ⟨B, hkb, _, hl⟩ := I.hid hs
  refine wpAny_mono (wpAny_conj (made_leaves (E' := E') I hs hf hex hx q) (leave_fld2 (E := E') (s := { s with heap := h' }) (base := B) (outer := X.outer) (L := X.env.locals) (by rw [I.ok.frames, hs]) (hl.of_keeps fun b o hb _ => ⟨o, hx.keeps b o hb, rfl⟩) hf ht (fun b o z => hx.keeps _ _ (hkb _ _ z)) (fresh_of hkb hx.new) rfl rfl rfl rfl)) (fun _ s' z => ⟨z.1, e, rfl, z.2⟩) fun _ _ z => z.1

theorem from_leaves {h' : Heap} {e C a : Addr} {hd : Option Value} {E : XK} {E' : Value → Shared → Prop} (I : Inv X pins σ H s) (hs : X.stack = X.env :: X.outer) (hf : X.env.frame = some X.env.locals) (hex : X.ex = []) (hx : MadeFrom s.heap h' e (.ref C) a) (q : E (.ref C) none H) :
    notedBy (model X.prog X.w) (X.A.mark hd) X.env (cameBackBy (model X.prog X.w) X.A X.env (fun e' s' => wpAny (model X.prog X.w) X.A (leaving X.env e') (fun _ s'' => CXR X.prog X.w X.outer X.H₀ X.s₀ E e' s'') E' s')) (.ref e) { s with heap := h' } := by
  obtain ⟨t, ht⟩ := hx.there
  obtain ⟨B, hkb, inB, hl⟩ := I.hid hs
  have hfr : X.A.frames = some (X.env :: X.outer) := by rw [I.ok.frames, hs]
  have fst : frs X.stack = X.env.locals :: X.fs := by rw [hs]; exact frs_cons hf
  have nx : ∀ b : Addr, b ∉ X.ex := fun b => by rw [hex]; simp
  have cov : ∀ b o, X.s₀.heap.get? b = some o → b ∉ X.fs → ∃ o', B.get? b = some o' ∧ (X.H₀ b = none → o' = o) := fun b o z n => by
    have nb : b ∉ frs X.stack := by
      rw [fst, List.mem_cons, not_or]
      exact ⟨I.old z, n⟩
    obtain ⟨o1, e1⟩ := I.base.there b o z (nx b)
    refine ⟨o1, inB _ _ e1 nb, fun n0 => ?_⟩
    have h2 := I.base.keep b o z n0 n (nx b)
    rw [e1] at h2
    exact Option.some.inj h2
  have cov2 : ∀ b ob, H b = some ob → ∃ o, B.get? b = some o := fun b ob z => by
    obtain ⟨u, hu⟩ := (I.hok b ob z).there
    refine ⟨u, inB _ _ hu fun n => ?_⟩
    rw [I.stkFree b n] at z
    cases z
  refine first_noted (s := { s with heap := h' }) (base := B) (outer := X.outer) (L := X.env.locals) (a0 := .ref t) hfr (hl.of_keeps fun b o hb _ => ⟨o, hx.keeps b o hb, rfl⟩) hf ht (fun b o z => hx.keeps _ _ (hkb _ _ z)) (fresh_of hkb hx.new) rfl rfl rfl fun h1 no => ?_
  obtain ⟨st1, fr1, tr1, up1⟩ := no
  have up1 : h'.UpToSlots h1 := up1
  -- the frame takes it back
  obtain ⟨oe, vs, T, oT, ts, he, hcl, hd1, hv1, hnT, hTe, hT, hdT, h3⟩ := id tr1
  refine wpAny_bind (wpAny_field (x := .ref T) he hd1 hv1 ?_)
  rw [if_neg (by simp)]
  unfold setFlight
  refine wpAny_bind (wpAny_field (x := .ref T) he hd1 hv1 ?_)
  rw [if_pos (by simp)]
  have hsz : 3 < ts.size := (Array.getElem?_eq_some_iff.mp h3).1
  rw [hf]
  refine wpAny_setField hT hdT hsz ?_
  obtain ⟨h2, eh2⟩ : ∃ h2, h2 = h1.update T (Obj.mapFields fun x => x.setIfInBounds 3 ((some X.env.locals).elim Value.none fun f => rawInt f)) := ⟨_, rfl⟩
  have oth : ∀ b, b ≠ T → h2.get? b = h1.get? b := fun b hb => by rw [eh2]; exact Heap.get?_update_other _ _ (Ne.symm hb)
  have nrec : ∀ b o, h1.get? b = some o → (∀ vs, o.data ≠ .fields vs) → b ≠ T := fun b o hb hnf z => by
    rw [z, hT] at hb
    cases hb
    exact hnf ts hdT
  have st2 : B.StaysIn h2 := fun b o z => (oth b fun y => by rw [y, hnT] at z; cases z).trans (st1 b o z)
  have fr2 : h2.FunFrames B (X.env :: X.outer) := fr1.of_keeps fun b o hb hnf => ⟨o, (oth b (nrec b o hb hnf)).trans hb, rfl⟩
  have tr2 : h2.TracedAtW B e (.ref C) (.ref t) (rawInt X.env.locals) := by
    refine ⟨oe, vs, T, _, _, (oth e (Ne.symm hTe)).trans he, hcl, hd1, hv1, hnT, hTe, ?_, Obj.data_mapFields hdT (fun x => x.setIfInBounds 3 ((some X.env.locals).elim Value.none fun f => rawInt f)), ?_⟩
    · rw [eh2]
      exact Heap.get?_update_self _ hT (Obj.isFreed_of_fields (Obj.data_mapFields hdT _))
    · simp [hsz]
  have up2 : h1.UpToSlots h2 := fun b o hb hnf => ⟨o.slots, (oth b (nrec b o hb hnf)).trans hb⟩
  rw [← eh2]
  -- it leaves
  unfold leaving
  refine wpAny_bind (wpAny_noteFrame_againW (s := { s with heap := h2 }) hf tr2 ?_)
  refine wpAny_landsW (s := { s with heap := h2 }) (l := X.env :: X.outer) ⟨st2, fresh_of hkb hx.new, fr2, tr2⟩ fun h4 fl4 up4 => ?_
  obtain ⟨k1, k2, ⟨_, _, k3⟩, k4⟩ := fl4
  have up : h'.UpToSlots h4 := (up1.trans up2).trans up4
  refine ⟨e, C, H, rfl, I.os, I.bare, ?_, hok_stays I.hok cov2 hkb k1, ?_, ?_, ⟨B, t, ⟨k1, k2, k3, k4⟩, cov, cov2⟩, q⟩
  · refine Inv.flown (s := s) (h := s.heap) I hex cov k1 fun b o hb z hnf => ?_
    exact up b o (hx.keeps _ _ z) hnf
  · cases z : H e with
    | none => rfl
    | some ob =>
      obtain ⟨u, hu⟩ := (I.hok e ob z).there
      rw [hx.new] at hu
      cases hu
  · cases z : X.s₀.heap.get? e with
    | none => rfl
    | some o =>
      obtain ⟨u, hu⟩ := I.base.there e o z (nx e)
      rw [hx.new] at hu
      cases hu
end

structure LetsF (X : Cx) (E : XK) : Prop where
  made : ∀ (pins : List (Addr × Obj)) (σ : St) (H : Hp) (s : Shared) (h' : Heap) (e C : Addr) (vs : List Value), Inv X pins σ H s → Heap.MadeExcOf s.heap h' e (.ref C) vs → E (.ref C) none H → X.xe (.ref e) { s with heap := h' }
theorem letsF_of {P : Program} {w : World} {K : PySem.W.Frag} {mg : Str → Option Value} {base : Heap} {N : List Str} {qual : Str} {scope : Scope} {f : Addr} {cd : Value} {A : Around} {outer : List Env} {s0 : Shared} {H0 : Hp} {E : XK} : LetsF (cxOf (CXF P w) P w K mg base N qual scope f cd A outer s0 H0 E) E where
  made := fun pins σ H s h' e C vs I hx q => made_leavesF I rfl rfl rfl hx q
section
variable {X : Cx} {x : Str} {e : Expr} {es : List Expr} {t : TA} {p pos np cpos : Pos} {C : Addr} {tl : List Value} {E : XK}
theorem ps_raiseF (L : LetsF X E) (hc : X.calm = true) (hg : Gl X x) (hm : X.mg x = some (.ref C)) (ex : ExcAt X.K C tl) (ha : PA X (e :: es) t) (hdb : (x == ("__debug__" : Str)) = false := by decide)
    (he : starEach (e :: es) X.env = (false, eval e X.env) :: starEach es X.env := by rfl) (hpl : (backTo cpos (starEach es X.env)).any (·.1) = false := by rfl) :
    PS X (.Raise (some (.Call (.Name x np) (e :: es) [] cpos)) none pos) (sRaise C E t) := by
  intro pins s σ H D I h
  obtain ⟨N, nm, q, bs, hdct, sn, sub, ab, col, dd, k0, k1, k2, k3, k5, mN, hC, hN, hni, T, two⟩ := ex.obj I.kIn
  refine wpAny_Raise_call_subT (C := C) (nm := nm) (q := q) (N := N) (bs := bs) (bm := tl) (hdct := hdct) (sn := sn) (sub := sub) (ab := ab) (col := col) (dd := dd) (k0 := k0) (k1 := k1) (k2 := k2) (k3 := k3) (k5 := k5)
    PySem.F.excBase_ValueError (mN := mN) (T.hasType PySem.F.excBase_ValueError.hasBase) (I.ok.hd hc) (by rw [he]; show (false || (backTo cpos (starEach es X.env)).any (·.1)) = false; rw [hpl]; rfl) hni (ld_glob I hg hm ⟨rfl, ?_⟩ hdb)
  have hA := ha cpos pins s σ H _ I h
  rw [he] at hA ⊢
  refine Calls.evalArgs_plain (thn hA fun us s2 z => ?_)
  obtain ⟨vs, H2, I2, r2, q2, q3⟩ := z
  obtain ⟨eC, eN⟩ := two s2.heap I2.kIn
  have hNN : s2.heap.Ns N mN := by
    obtain ⟨o, es, ep, ho, r⟩ := hN
    exact ⟨o, es, ep, eN.trans ho, r⟩
  exact ⟨rfl, by rw [← r2.length]; exact q2, eC.trans hC, hNN, PySem.W.tail_of_in I2.kIn ex.tail, fun h' e' hm' => L.made pins σ H2 s2 h' e' C us I2 hm' q3⟩
noncomputable def HasF (P : Program) (w : World) (K : PySem.W.Frag) (mg : Str → Option Value) (base : Heap) (x : Str) (k : Nat) (ps : List Str) (sp : Sp) : Prop :=
  ∃ f fd, mg x = some (.ref f) ∧ PySem.W.keepIn K (.ref f) = true ∧ Binds K fd ps [] ∧ FnOk P w K mg base (CXF P w) k f fd ps sp
theorem pe_fnF {k : Nat} {ps : List Str} {sp : Sp} (h : HasF X.prog X.w X.K X.mg X.base x k ps sp) (hr : Room k X.A) (hp : Passes (CXF X.prog X.w) X E) (ha : PA X (e :: es) t) (hg : Gl X x := by rfl) (hdb : (x == ("__debug__" : Str)) = false := by decide)
    (he : starEach (e :: es) X.env = (false, eval e X.env) :: starEach es X.env := by rfl) (hpl : (backTo pos (starEach es X.env)).any (·.1) = false := by rfl) : PE X (.Call (.Name x p) (e :: es) [] pos) (tCall sp [] E t) := by
  obtain ⟨f, fd, hm, hk, hb, F⟩ := h
  exact pe_call F hr hg hm hk hb .nil hp ha hdb he hpl
end
section
variable {P : Program} {w : World} {K : PySem.W.Frag} {mg : Str → Option Value} {base : Heap}
theorem Fun.okF {x qual : Str} {st : Stmt} {f : Addr} {fd : FuncData} {N ps : List Str} {k : Nat} {sp : Sp} (F : Fun K x qual st f fd) (S : FnScope N ps (defScope st)) (len : ∀ vs H Q E, sp vs H Q E → vs.length = ps.length)
    (hbody : ∀ (cdv : Value) (A : Around) (outer : List Env) (s : Shared) (H : Hp) (vs : List V) (Q : VK) (E : XK), Room k (A.deeper (envOfC qual (defScope st) s.heap.objs.size f cdv)) → sp vs H Q E →
      LetsF (cxOf (CXF P w) P w K mg base N qual (defScope st) f cdv A outer s H E) E →
      ∃ t, PSs (cxOf (CXF P w) P w K mg base N qual (defScope st) f cdv A outer s H E) (defBody st) t ∧ t { nx := fun _ H' => Q .non H', rt := Q } (start N vs) H) : FnOk P w K mg base (CXF P w) (k + 1) f fd ps sp := by
  obtain ⟨oc, od, kV, doc, pm, an, cdv, ct, osl, rfl, lk, hcd⟩ := F.ex
  exact fn_of lk hcd S len fun A outer s H vs Q E hr hsp => hbody cdv A outer s H vs Q E hr hsp letsF_of
end

section
variable {M : Model} {A : Around} {E : Value → Shared → Prop}
variable {nm q nm' q' : Str} {C N S N' : Addr} {bs bm bs' bm' : List Value} {hdct hdct' : Bool} {sn sn' : List Str} {sub sub' : List Value} {ab ab' : Bool} {col col' : Option Bool} {dd dd' : Option Addr} {k0 k1 k2 k3 k5 k0' k1' k2' k3' k5' : Option Value} {newId newId' : String}
theorem excMatches_in {h : Heap} {g : Array GenState} {d : Drawn} {t : Nat} {os : OsState} {e : Addr} {oe : Obj} {Q : Bool → Shared → Prop}
    (hC : h.get? C = some (excClassObj nm q C N bs bm hdct sn sub ab col dd k0 k1 k2 k3 k5 newId)) (hS : h.get? S = some (excClassObj nm' q' S N' bs' bm' hdct' sn' sub' ab' col' dd' k0' k1' k2' k3' k5' newId')) (he : h.get? e = some oe) (hcls : oe.cls = .ref C)
    (hbase : bm'.contains (.type "BaseException") = true) (hcC : (Value.ref C :: bm).contains (.ref S) = true) (hq : Q true ⟨h, g, d, t, os⟩) : wpAny M A (excMatches (.ref e) (.ref S)) Q E ⟨h, g, d, t, os⟩ := by
  have hcB : (Value.ref S :: bm').contains (.type "BaseException") = true := by rw [List.contains_cons, hbase, Bool.or_true]
  have f := tc_notTuple
  unfold excMatches
  repeat (first | (with_reducible refine wpAny_loadPart_at he ?_; rw [hcls]) | with_reducible refine wpAny_loadPart_at hS ?_ | (with_reducible refine wpAny_isSubtype_exc hS ?_; rw [hcB]) | (with_reducible refine wpAny_isSubtype_exc hC ?_; rw [hcC]) | wp_step)
  exact hq
end
section
variable {prog : Program} {w : World} {A : Around} {E : Value → Shared → Prop} {s : Shared} {env : Env}
theorem handleBy_sup {e C S : Addr} {tlC tlS : List Value} {K : PySem.W.Frag} {t : Expr} {b₀ : Stmt} {suite : List Stmt} {pos : Pos} {rest : List ExceptHandler} {Q : Flow → Shared → Prop}
    (xC : ExcAt K C tlC) (xS : ExcAt K S tlS) (hin : (Value.ref C :: tlC).contains (.ref S) = true)
    (h : wpAny (model prog w) (A.mark (some (.ref e))) (eval t env) (fun c s₁ => c = .ref S ∧ K.In s₁.heap ∧ (∃ oe, s₁.heap.get? e = some oe ∧ oe.cls = .ref C) ∧
      wpAny (model prog w) (A.mark (some (.ref e))) (setFlight (.ref e) none) (fun _ s₂ => wpAny (model prog w) (A.mark (some (.ref e))) (execs (b₀ :: suite) env) Q (notedBy (model prog w) (A.mark (some (.ref e))) env (cameBackBy (model prog w) A env E)) s₂) (fun _ _ => False) s₁) (fun _ _ => False) s) :
    wpAny (model prog w) A (handleBy (.ref e) env (.ExceptHandler (some t) none (b₀ :: suite) pos :: rest)) Q E s := by
  refine wpAny_handleBy_cons (codeAny_handlers_test (wpAny_mono h (fun c s₁ h₁ => ?_) fun _ _ y => y.elim)) (by intro q; cases q)
  obtain ⟨rfl, hK, ⟨oe, he, hcls⟩, hk⟩ := h₁
  obtain ⟨N, nm, q, bs, hdct, sn, sub, ab, col, dd, k0, k1, k2, k3, k5, mN, hC, _, _, _, _⟩ := xC.obj hK
  obtain ⟨N', nm', q', bs', hdct', sn', sub', ab', col', dd', k0', k1', k2', k3', k5', mN', hS, _, _, T', _⟩ := xS.obj hK
  obtain ⟨hh, g, d, tk, os⟩ := s₁
  refine excMatches_in hC hS he hcls (T'.hasType PySem.F.excBase_ValueError.hasBase) hin (codeAny_handlers_suite ?_)
  exact wpAny_mono hk (fun _ s₂ h₂ => wpAny_mono h₂ (fun _ _ z => z) fun _ _ y => y) fun _ _ y => y.elim
end

noncomputable def xTryR (K : PySem.W.Frag) (S Dn : Addr) (E : XK) : XK := fun Cv _ H' => ∃ C tl, Cv = .ref C ∧ ExcAt K C tl ∧ (Value.ref C :: tl).contains (.ref S) = true ∧ E (.ref Dn) none H'
theorem ps_tryR {X : Cx} {body : List Stmt} {x y m : Str} {np np2 hpos pos rpos cpos kpos p3 : Pos} {j kk : Nat} {S Dn : Addr} {tlS tlN : List Value} {tb : XK → TS} {E : XK}
    (hxe : X.xe = fun e s' => wpAny (model X.prog X.w) X.A (leaving X.env e) (fun _ s'' => CXR X.prog X.w X.outer X.H₀ X.s₀ E e s'') (fun e' s'' => CXR X.prog X.w X.outer X.H₀ X.s₀ E e' s'') s')
    (hb : ∀ pn xe E', Passes (CXF X.prog X.w) (X.tries pn xe) E' → PSs (X.tries pn xe) body (tb E'))
    (hk : X.stack = X.env :: X.outer) (hf : X.env.frame = some X.env.locals) (hex : X.ex = []) (hg : Gl X x) (hm : X.mg x = some (.ref S)) (xS : ExcAt X.K S tlS) (hg2 : Gl X y) (hm2 : X.mg y = some (.ref Dn)) (xN : ExcAt X.K Dn tlN) (hdb : (x == ("__debug__" : Str)) = false := by decide) (hdb2 : (y == ("__debug__" : Str)) = false := by decide) :
    PS X (.Try body [.ExceptHandler (some (.Name x np)) none [.Raise (some (.Call (.Name y np2) [.Constant (.str m) j p3] [] cpos)) (some (.Constant .none kk kpos)) rpos] hpos] [] [] pos) (fun D σ H => tb (xTryR X.K S Dn E) D σ H) := by
  intro pins s σ H D I h
  refine wpAny_Try_except ?_
  have key : ∀ xe, Passes (CXF X.prog X.w) (X.tries (X.pn ++ pins) xe) (xTryR X.K S Dn E) → wpAny (model X.prog X.w) X.A (execs body X.env) (SP (X.tries (X.pn ++ pins) xe) [] D) xe s := fun xe hp => hb _ xe _ hp [] s σ H D (I.tries xe) h
  refine wpAny_mono (key _ ?_) (fun f s1 z => ?_) fun _ _ z => z
  · intro pins' σ' H1 s1 e s2 Iv hx
    obtain ⟨⟨a, C, H2, rfl, ho, hbr, un, hok, na, sa, ⟨B, t, fl, cov, cov2⟩, C', tl, eC, xC, hin, q⟩, a', ea, f2⟩ := hx
    cases eC
    cases ea
    have fl' : Heap.FlyingW B (X.env :: X.outer) a (.ref C) (.ref t) s2.heap := by rw [← hk]; exact fl
    have hfr : X.A.frames = some (X.env :: X.outer) := by rw [← hk]; exact I.ok.frames
    show wpAny _ _ (noteFrame (.ref a) X.env) _ _ _
    refine wpAny_mono (wpAny_conj (wpAny_looks_onW (Q := fun _ s3 => ∃ h4, s3 = { s2 with heap := h4 } ∧ Heap.HeldW B (X.env :: X.outer) a (.ref C) (.ref t) X.env.locals h4 ∧ s2.heap.UpToSlots h4) (E := fun _ _ => False) hfr hf fl' fun h4 held up4 => ⟨h4, rfl, held, up4⟩) (note_fld2 (E := fun _ _ => False) hfr fl'.2.2.1 hf fl'.2.2.2 f2)) (fun _ s3 z => ?_) fun _ _ z => z.1.elim
    obtain ⟨⟨h4, rfl, held, up4⟩, f4⟩ := z
    have f4 : Fld2 h4 a := f4
    refine wpAny_mono (wpAny_conj (wpAny_landsW (s := { s2 with heap := h4 }) (Q := fun _ s3 => ∃ h5, s3 = { s2 with heap := h5 } ∧ Heap.FlyingW B (X.env :: X.outer) a (.ref C) (.ref t) h5 ∧ h4.UpToSlots h5) (E := fun _ _ => False) held fun h5 fl5 up5 => ⟨h5, rfl, fl5, up5⟩) (flight_fld2 (E := fun _ _ => False) (s := { s2 with heap := h4 }) f4 held.2.2.2)) (fun _ s3 z => ?_) fun _ _ z => z.1.elim
    obtain ⟨⟨h5, rfl, fl5, up5⟩, f5⟩ := z
    have f5 : Fld2 h5 a := f5
    have up45 : s2.heap.UpToSlots h5 := up4.trans up5
    have I5 : Inv X pins σ' H2 { s2 with heap := h5 } := (Iv.landed (a := a) (C := C) ho hbr un hok cov cov2 fl'.1 fl5.1 up45).untries I.ok fun p z => List.mem_append_left _ z
    have I5s := I5.suite a
    obtain ⟨oe, vs, he, hcl, hd, _⟩ := fl5.first
    refine handleBy_sup xC xS hin (ld_glob (X := X.suite (X.pn ++ pins) a) I5s hg hm ⟨rfl, I5.kIn, ⟨oe, he, hcl⟩, ?_⟩ hdb)
    refine wpAny_mono (wpAny_conj (lands_againW (s := { s2 with heap := h5 }) (Q := fun _ s3 => ∃ h6, s3 = { s2 with heap := h6 } ∧ Heap.FlyingW B (X.env :: X.outer) a (.ref C) (.ref t) h6 ∧ h5.UpToSlots h6) (E := fun _ _ => False) fl5 fun h6 fl6 up6 => ⟨h6, rfl, fl6, up6⟩) (flight_fld2 (E := fun _ _ => False) (s := { s2 with heap := h5 }) f5 fl5.2.2.2.at)) (fun _ s3 z => ?_) fun _ _ z => z.1.elim
    obtain ⟨⟨h6, rfl, fl6, up6⟩, f6⟩ := z
    have f6 : Fld2 h6 a := f6
    have I6 : Inv X pins σ' H2 { s2 with heap := h6 } := (Iv.landed (a := a) (C := C) ho hbr un hok cov cov2 fl'.1 fl6.1 (up45.trans up6)).untries I.ok fun p z => List.mem_append_left _ z
    obtain ⟨o6, us6, ho6, hd6, hu6⟩ := f6
    have n0 : X.s₀.heap.get? a = none := by
      cases z : X.s₀.heap.get? a with
      | none => rfl
      | some o =>
        obtain ⟨u, hu⟩ := Iv.base.there a o z (by show a ∉ X.ex; rw [hex]; simp)
        rw [sa] at hu
        cases hu
    -- the handled exception is held as it is
    have I7 : Inv (X.suite (X.pn ++ pins) a) [(a, o6)] σ' H2 { s2 with heap := h6 } := by
      have J := I6.suite a
      refine ⟨J.ok, J.os, J.bare, J.base, J.loc, J.cell, J.free, J.freeC, fun p hp => ?_, J.hok, J.len⟩
      rcases List.mem_append.mp hp with hp | hp
      · exact J.pin p (List.mem_append_left _ hp)
      · rw [List.mem_singleton.mp hp]
        refine ⟨ho6, na, fun z => ?_, fun z => ?_, fun v z => ?_⟩
        · obtain ⟨m', ⟨o, _, _, ho', _⟩, _⟩ := Iv.loc
          have : s1.heap.get? a = some o := by rw [show a = X.env.locals from z]; exact ho'
          rw [sa] at this
          cases this
        · obtain ⟨_, o', ho', _⟩ := I.ok.funs.mem z
          rw [n0] at ho'
          cases ho'
        · have z : o6.data = .cell v := z
          rw [hd6] at z
          cases z
    refine wpAny_execs_cons ?_
    obtain ⟨N, nm, qq, bs, hdct, sn, sub, ab, col, dd, k0, k1, k2, k3, k5, mN, hC, hN, hni, T, two⟩ := xN.obj I6.kIn
    refine wpAny_mono (Q := fun _ _ => False) (wpAny_Raise_from (A := X.A.mark (some (.ref a))) (C := Dn) (nm := nm) (q := qq) (N := N) (bs := bs) (bm := tlN) (hdct := hdct) (sn := sn) (sub := sub) (ab := ab) (col := col) (dd := dd) (k0 := k0) (k1 := k1) (k2 := k2) (k3 := k3) (k5 := k5)
      PySem.F.excBase_ValueError (mN := mN) (T.hasType PySem.F.excBase_ValueError.hasBase) rfl rfl hni (ld_glob (X := X.suite (X.pn ++ pins) a) I7 hg2 hm2 ⟨rfl, ?_⟩ hdb2)) (fun _ _ z => z.elim) fun _ _ z => z
    have hA := (pa_cons pe_str pa_nil : PA (X.suite (X.pn ++ pins) a) [.Constant (.str m) j p3] _) cpos [(a, o6)] { s2 with heap := h6 } σ' H2 (fun vs H3 => vs.length ≤ sizeLine ∧ H3 = H2) I7 ⟨(by show 1 ≤ sizeLine; decide), rfl⟩
    refine Calls.evalArgs_plain (thn hA fun us s3 z => ?_)
    obtain ⟨vs3, H3, I8, r3, q3, rfl⟩ := z
    obtain ⟨eC, eN⟩ := two s3.heap I8.kIn
    have hNN : s3.heap.Ns N mN := by
      obtain ⟨o, es, ep, ho, r⟩ := hN
      exact ⟨o, es, ep, eN.trans ho, r⟩
    have hpin := (I8.pin (a, o6) (List.mem_append_right _ List.mem_cons_self)).1
    have I9 : Inv X pins σ' H3 s3 := by
      have J : Inv (X.suite (X.pn ++ pins) a) [] σ' H3 s3 := ⟨I8.ok, I8.os, I8.bare, I8.base, I8.loc, I8.cell, I8.free, I8.freeC, fun p hp => I8.pin p (List.mem_append_left _ (by simpa using hp)), I8.hok, I8.len⟩
      exact J.unsuite I.ok
    refine ⟨rfl, by rw [← r3.length]; exact q3, eC.trans hC, hNN, PySem.W.tail_of_in I8.kIn xN.tail, ⟨o6, us6, hpin, hd6, hu6⟩, fun h' e' hm' => ?_⟩
    rw [hxe]
    exact from_leaves I9 hk hf hex hm' q
  · have z' := SP.untries I.ok z
    cases f with
    | next =>
      obtain ⟨σ', H', I', q⟩ := z'
      exact pss_nil pins s1 σ' H' D I' q
    | brk => exact z'
    | cont => exact z'
    | ret u => exact z'
end L2


set_option maxHeartbeats 2000000
namespace L2
open PySem PySem.Spec PyProof.Rows
section
variable {M : Model} {A : Around} {E : Value → Shared → Prop} {s : Shared}

theorem leaves_any {base : Heap} {env : Env} {outer : List Env} {L e : Addr} {cls a0 fl : Value} {Q : Unit → Shared → Prop} (hfr : A.frames = some (env :: outer)) (hf : env.frame = some L) (st : base.StaysIn s.heap) (hen : base.get? e = none) (hl : s.heap.FunFrames base (env :: outer)) (tr : s.heap.TracedAtW base e cls a0 fl)
    (hQ : ∀ h', Heap.FlyingW base outer e cls a0 h' → s.heap.UpToSlots h' → Q () { s with heap := h' }) : wpAny M A (leaving env (.ref e)) Q E s := by
  by_cases hfl : fl = rawInt L
  · subst hfl
    unfold leaving
    refine wpAny_bind (wpAny_noteFrame_againW hf tr ?_)
    refine wpAny_landsW (l := env :: outer) ⟨st, hen, hl, tr⟩ fun h' fl' up => ?_
    obtain ⟨k1, k2, ⟨_, _, k3⟩, k4⟩ := fl'
    exact hQ h' ⟨k1, k2, k3, k4⟩ up
  · obtain ⟨oe, vs, T, oT, ts, he, ⟨hcls, h0⟩, hd, h1, hnT, hTe, hT, hdT, h3⟩ := tr
    subst hcls
    unfold leaving noteFrame
    simp only [hf]
    refine wpAny_bind (wpAny_bind (wpAny_field he hd h1 ?_))
    rw [if_pos (by simp)]
    refine wpAny_bind (wpAny_field hT hdT h3 ?_)
    rw [if_neg (by simpa using hfl)]
    refine wpAny_bind (wpAny_setField hT hdT (Array.getElem?_eq_some_iff.mp h3).1 ?_)
    have oth : ∀ b, b ≠ T → (s.heap.update T (Obj.mapFields fun x => x.setIfInBounds 3 Value.none)).get? b = s.heap.get? b := fun b hb => Heap.get?_update_other _ _ (Ne.symm hb)
    have nrec : ∀ b o, s.heap.get? b = some o → (∀ vs, o.data ≠ .fields vs) → b ≠ T := fun b o hb hnf z => by
      rw [z, hT] at hb
      cases hb
      exact hnf ts hdT
    refine wpAny_newEntryW hfr (hl.of_keeps fun b o hb hnf => ⟨o, (oth b (nrec b o hb hnf)).trans hb, rfl⟩) hf ((oth e (Ne.symm hTe)).trans he) (fun b o z => (oth b fun y => by rw [y, hnT] at z; cases z).trans (st b o z)) hen hd (Array.getElem?_eq_some_iff.mp h1).1 h0 fun h' lf => ?_
    obtain ⟨k1, ⟨_, _, k2⟩, k3, k4⟩ := lf
    exact hQ h' ⟨k1, hen, k2, k3⟩ fun b o hb hnf => k4 b o ((oth b (nrec b o hb hnf)).trans hb) hnf
theorem funFrames_to {h h' base base' : Heap} : ∀ {l : List Env}, h.FunFrames base l → (∀ b ∈ frs l, h'.get? b = h.get? b) → (∀ b, base.get? b = none → base'.get? b = none) → h'.FunFrames base' l
  | [], _, _, _ => trivial
  | env :: l, ⟨k, ⟨L, o, hf, hb, ho, hd⟩, r⟩, g, n => by
    have e := frs_cons (l := l) hf
    refine ⟨k, ⟨L, o, hf, n L hb, (g L (by rw [e]; exact List.mem_cons_self)).trans ho, hd⟩, funFrames_to r (fun b hb => g b (by rw [e]; exact List.mem_cons_of_mem _ hb)) n⟩
end

noncomputable abbrev compCxE (X : Cx) (scope : Scope) (N : List Str) (C : Addr) (s₃ : Shared) (H₃ : Hp) (fp : List Addr) (xe : Value → Shared → Prop) : Cx := { compCx X scope N C s₃ H₃ fp with xe := xe }
section
variable {prog : Program} {w : World} {A : Around} {R : Result → Shared → Prop} {s : Shared}
theorem codeAny_compLoop_goE {elt target iter : Expr} {ifs : List Expr} {scope : Scope} {pos : Pos} {it acc : Value} {env : Env} {xe : Value → Shared → Prop} (hxe : xe = notedBy (model prog w) A env fun e s' => R (.error e) s') (I : Nat → Shared → Prop)
    (turn : ∀ n s, I n s → wpAny (model prog w) A (pyNext it) (fun r s₁ => match r with
      | none => R (.ok .next) s₁
      | some v => wpAny (model prog w) A (letOwnedTupleGo target it v) (fun _ s₁' => wpAny (model prog w) A (assign target env v) (fun _ s₂ =>
          wpAny (model prog w) A (forIn ifs true fun c r => if r = true then do let ok ← isTrue c env (eval c env); pure (ForInStep.yield ok) else pure (ForInStep.yield r)) (fun ok s₃ =>
            if ok = true then wpAny (model prog w) A (eval elt env) (fun x s₄ =>
              wpAny (model prog w) A (call (.builtin "list.append") [acc, x]) (fun _ s₅ => ∃ m, m < n ∧ I m s₅) xe s₄) xe s₃
            else ∃ m, m < n ∧ I m s₃) xe s₂) xe s₁') xe s₁) xe s)
    (n : Nat) (h : I n s) :
    codeAny (model prog w) A (.compLoop (.ListComp elt [⟨target, iter, ifs, 0⟩] scope pos) 0 it acc env) R s := by
  subst hxe
  refine codeAny_loop rfl I (fun n s hI => ?_) n h
  show wpAny _ A ((compTurn (.ListComp elt [⟨target, iter, ifs, 0⟩] scope pos) 0 it acc env).onRaise (fun x => do noteFrame x env; theTreesLotGoes x)) _ _ s
  refine wpAny_noted ?_
  rw [compTurn_list]
  refine wpAny_bind (wpAny_standAt (wpAny_bind (wpAny_mono (turn n s hI) (fun r s₁ h₁ => ?_) fun _ _ h' => h')))
  cases r with
  | none => exact wpAny_pure h₁
  | some v =>
    refine wpAny_bind (wpAny_mono h₁ (fun _ s₁' h₁' => ?_) fun _ _ h' => h')
    refine wpAny_bind (wpAny_mono h₁' (fun _ s₂ h₂ => wpAny_bind (wpAny_mono h₂ (fun ok s₃ h₃ => ?_) fun _ _ h' => h')) fun _ _ h' => h')
    cases ok with
    | false => exact wpAny_pure ⟨rfl, h₃⟩
    | true => exact wpAny_bind (wpAny_bind (wpAny_mono h₃ (fun x s₄ h₄ => wpAny_bind (wpAny_mono h₄ (fun _ s₅ h₅ => wpAny_pure (wpAny_pure ⟨rfl, h₅⟩)) fun _ _ h' => h')) fun _ _ h' => h'))
end
section
variable {X : Cx} {elt iter tg : Expr} {ifs : List Expr} {scope : Scope} {pos cpos : Pos} {N : List Str} {js : List (Option Nat)} {wi : TI} {g : TG} {tc : TT} {te : TE} {E : XK}

noncomputable def XeIs (X : Cx) (E : XK) : Prop := X.xe = fun e s' => wpAny (model X.prog X.w) X.A (leaving X.env e) (fun _ s'' => CXR X.prog X.w X.outer X.H₀ X.s₀ E e s'') (fun e' s'' => CXR X.prog X.w X.outer X.H₀ X.s₀ E e' s'') s'

theorem comp_pass {use : Option (Value → Sem Unit)} {Q : Value → Shared → Prop} {acc : Value} {C : Addr} {s3 : Shared} {H3 : Hp} {fp : List Addr} {pins : List (Addr × Obj)} {σ : St} {xe : Value → Shared → Prop} (hX : XeIs X E) (hk : X.stack = X.env :: X.outer) (hf : X.env.frame = some X.env.locals) (hex : X.ex = [])
    (I3 : Inv X pins σ H3 s3) (hC : C = s3.heap.objs.size) (hch : ∀ b ∈ fp, (b ∈ X.ex ∨ X.s₀.heap.objs.size ≤ b) ∧ b ≠ X.env.locals ∧ (∀ x c, X.env.cells.lookup x = some c → c ≠ b) ∧ ∀ p ∈ X.pn ++ pins, p.1 ≠ b)
    (hxe : xe = notedBy (model X.prog X.w) X.A (compCxE X scope N C s3 H3 fp xe).env fun e s' => compPost (model X.prog X.w) X.A X.xe use Q acc C (.error e) s') : Passes (CXR X.prog X.w) (compCxE X scope N C s3 H3 fp xe) E := by
  intro pins' σ' H5 s5 e s6 I5 hx
  obtain ⟨a, Cc, H6, rfl, ho, hbr, un, hok, na, sa, ⟨B, t, fl, cov, cov2⟩, q⟩ := hx
  have fl' : Heap.FlyingW B (X.env :: X.outer) a (.ref Cc) (.ref t) s6.heap := by rw [← hk]; exact fl
  have hfr : X.A.frames = some (X.env :: X.outer) := by rw [← hk]; exact I3.ok.frames
  have I6 : Inv (compCxE X scope N C s3 H3 fp xe) pins' σ' H6 s6 := I5.call' (ch := []) ho un hok hbr fun _ z => by cases z
  have IX5 : Inv X pins σ H5 s5 := I3.call' I5.os I5.base I5.hok I5.bare hch
  have IX6 : Inv X pins σ H6 s6 := I3.call' I6.os I6.base I6.hok I6.bare hch
  have nC : ∀ b o, X.s₀.heap.get? b = some o → b ≠ C := fun b o z y => by
    obtain ⟨o', e'⟩ := I3.base.there b o z (by rw [hex]; simp)
    have := Heap.lt_size e'
    rw [y, hC] at this
    exact Nat.lt_irrefl _ this
  have nx : ∀ b : Addr, b ∉ X.ex := fun b => by rw [hex]; simp
  have fst : frs X.stack = X.env.locals :: X.fs := by rw [hk]; exact frs_cons hf
  have CnotF : ∀ b ∈ frs X.stack, b ≠ C := fun b hb y => by
    obtain ⟨_, o', ho', _⟩ := I3.stack.mem hb
    have := Heap.lt_size ho'
    rw [y, hC] at this
    exact Nat.lt_irrefl _ this
  rw [hxe]
  show wpAny _ X.A (noteFrame (.ref a) X.env) _ _ s6
  refine wpAny_looks_onW (L := X.env.locals) hfr hf fl' fun h4 held up4 => ?_
  obtain ⟨m, hn, _⟩ := I6.loc
  have hn4 : h4.Ns C m := up4.ns hn
  refine ⟨m, hn4, fun h5 sb cenv' _ => ?_⟩
  obtain ⟨k1, k2, k3, oe, vs, T, oT, ts, he, hcl, hd, h1, hnT, hTe, hT, hdT, h3⟩ := held
  obtain ⟨oC, es, ep, hoC, hdC, _⟩ := id hn4
  have aC : a ≠ C := fun z => by
    rw [z, hoC] at he
    cases he
    rw [hdC] at hd
    cases hd
  have TC : T ≠ C := fun z => by
    rw [z, hoC] at hT
    cases hT
    rw [hdC] at hdT
    cases hdT
  have he5 := (sb.2 a aC).trans he
  have hT5 := (sb.2 T TC).trans hT
  have hsz : 3 < ts.size := (Array.getElem?_eq_some_iff.mp h3).1
  unfold PySem.passOn
  refine wpAny_bind (wpAny_field (s := { s6 with heap := h5 }) (x := .ref T) he5 hd h1 ?_)
  rw [if_neg (by simp)]
  unfold setFlight
  refine wpAny_bind (wpAny_bind (wpAny_field (s := { s6 with heap := h5 }) (x := .ref T) he5 hd h1 ?_))
  rw [if_pos (by simp)]
  refine wpAny_setField (s := { s6 with heap := h5 }) hT5 hdT hsz (wpAny_throw ?_)
  rw [hX]
  obtain ⟨h7, eh7⟩ : ∃ h7, h7 = h5.update T (Obj.mapFields fun x => x.setIfInBounds 3 (cenv'.frame.elim Value.none fun f => rawInt f)) := ⟨_, rfl⟩
  have oth : ∀ b, b ≠ T → h7.get? b = h5.get? b := fun b hb => by rw [eh7]; exact Heap.get?_update_other _ _ (Ne.symm hb)
  have nrec : ∀ b o, h4.get? b = some o → (∀ vs, o.data ≠ .fields vs) → b ≠ T := fun b o hb hnf z => by
    rw [z, hT] at hb
    cases hb
    exact hnf ts hdT
  obtain ⟨B', eB⟩ : ∃ B', B' = PySem.W.hideAll B [C] := ⟨_, rfl⟩
  have bB : ∀ b o, B'.get? b = some o → B.get? b = some o := fun b o z => PySem.W.of_hideAll [C] (by rw [eB] at z; exact z)
  have nB : ∀ b, B.get? b = none → B'.get? b = none := fun b z => by
    cases y : B'.get? b with
    | none => rfl
    | some o =>
      rw [bB b o y] at z
      cases z
  have CB : B'.get? C = none := by rw [eB]; exact PySem.W.hideAll_none [C] List.mem_cons_self
  have gB : ∀ b o, B.get? b = some o → b ≠ C → B'.get? b = some o := fun b o z y => by rw [eB]; exact PySem.W.hideAll_get [C] z (by simpa using y)
  have st7 : B'.StaysIn h7 := fun b o z => by
    have b1 := bB b o z
    have y1 : b ≠ T := fun y => by
      rw [y, hnT] at b1
      cases b1
    have y2 : b ≠ C := fun y => by
      rw [y, CB] at z
      cases z
    rw [oth b y1, sb.2 b y2]
    exact k1 b o b1
  have fr7 : h7.FunFrames B' (X.env :: X.outer) := by
    refine funFrames_to k3 (fun b hb => ?_) nB
    obtain ⟨_, o', ho', hd'⟩ := k3.mem hb
    rw [oth b (nrec b o' ho' hd'), sb.2 b (CnotF b (by rw [hk]; exact hb))]
  have tr7 : h7.TracedAtW B' a (.ref Cc) (.ref t) (cenv'.frame.elim Value.none fun f => rawInt f) := by
    refine ⟨oe, vs, T, _, _, (oth a (Ne.symm hTe)).trans he5, hcl, hd, h1, nB T hnT, hTe, ?_, Obj.data_mapFields hdT (fun x => x.setIfInBounds 3 (cenv'.frame.elim Value.none fun f => rawInt f)), ?_⟩
    · rw [eh7]
      exact Heap.get?_update_self _ hT5 (Obj.isFreed_of_fields (Obj.data_mapFields hdT _))
    · simp [hsz]
  rw [← eh7]
  refine leaves_any (s := { s6 with heap := h7 }) (base := B') (outer := X.outer) (L := X.env.locals) hfr hf st7 (nB a k2) fr7 tr7 fun h8 fl8 up8 => ?_
  have cov' : ∀ b o, X.s₀.heap.get? b = some o → b ∉ X.fs → ∃ o', B'.get? b = some o' ∧ (X.H₀ b = none → o' = o) := fun b o z n => by
    have nb : b ∉ frs X.stack := by
      rw [fst, List.mem_cons, not_or]
      exact ⟨IX5.old z, n⟩
    obtain ⟨o1, e1⟩ := IX5.base.there b o z (nx b)
    obtain ⟨o2, e2, e3⟩ := cov b o1 e1 nb
    refine ⟨o2, gB _ _ e2 (nC b o z), fun n0 => ?_⟩
    have h1 := IX5.base.keep b o z n0 n (nx b)
    rw [e1] at h1
    cases h1
    exact e3 (IX5.base.free b o z n0 (nx b))
  have cov2' : ∀ b ob, H6 b = some ob → ∃ o, B'.get? b = some o := fun b ob z => by
    obtain ⟨o, e1⟩ := cov2 b ob z
    refine ⟨o, gB _ _ e1 fun y => ?_⟩
    have := I6.free
    rw [y] at z
    rw [show H6 C = none from this] at z
    cases z
  refine ⟨a, Cc, H6, rfl, IX6.os, hbr, ?_, hok_stays hok cov2' (fun b o z => fl'.1 b o (bB b o z)) fl8.1, na, ?_, ⟨B', t, fl8, cov', cov2'⟩, q⟩
  · refine Inv.flown (s := s6) (h := s6.heap) IX6 hex cov' fl8.1 fun b o hb z hnf => ?_
    obtain ⟨sl, e4⟩ := up4 b o z hnf
    have bf : b ∈ frs X.stack := by rw [fst]; exact List.mem_cons_of_mem _ hb
    have e7 : h7.get? b = some { o with slots := sl } := by rw [oth b (nrec b _ e4 hnf), sb.2 b (CnotF b bf)]; exact e4
    obtain ⟨sl', e8⟩ := up8 b _ e7 hnf
    exact ⟨sl', e8⟩
  · cases z : X.s₀.heap.get? a with
    | none => rfl
    | some o =>
      obtain ⟨u, hu⟩ := IX5.base.there a o z (nx a)
      rw [sa] at hu
      cases hu
theorem comp_runX {use : Option (Value → Sem Unit)} (hX : XeIs X E) (hk : X.stack = X.env :: X.outer) (hfm : X.env.frame = some X.env.locals) (hex : X.ex = []) (hok : CompOk X.N X.env.scope scope N js) (hc : X.calm = true) (hi : PI X tg iter wi)
    (hg : ∀ C s₃ H₃ fp xe, PG (compCxE X scope N C s₃ H₃ fp xe) tg g) (ht : ∀ C s₃ H₃ fp xe, PTs (compCxE X scope N C s₃ H₃ fp xe) ifs tc) (he : ∀ C s₃ H₃ fp xe, Passes (CXR X.prog X.w) (compCxE X scope N C s₃ H₃ fp xe) E → PE (compCxE X scope N C s₃ H₃ fp xe) elt te)
    {pins : List (Addr × Obj)} {s : Shared} {σ : St} {H : Hp} {R : VK} {Q : Value → Shared → Prop} (I : Inv X pins σ H s) (h : tComp js wi g tc te σ H R)
    (hend : ∀ C D s' H', Inv X pins σ H' s' → R (.ref D) H' → (∃ m, s'.heap.Ns C m) → FpOk X pins H' C → compPost (model X.prog X.w) X.A X.xe use Q (.ref D) C (.ok .next) s')
    (hs : ∀ x, foldedSetIterable iter X.env x = pure x := by intro _; rfl) :
    wpAny (model X.prog X.w) X.A (comprehension (.ListComp elt [⟨tg, iter, ifs, 0⟩] scope pos) scope X.env cpos (newList []) false (eval iter X.env) use) Q X.xe s := by
  have hcells : ∀ x ∈ scope.names, x.2 = .free → ∃ c, X.env.cells.lookup x.1 = some c := fun x hx e => I.ok.has x.1 (hok.frees x hx e)
  refine wpAny_comprehension_free (use := use) rfl hs (closureFor_eq hcells) hok.kind hok.locs ?_
  refine thn (hi pins s σ H _ I h) fun xv s1 h1 => thn h1 fun itv s2 h2 => ?_
  obtain ⟨it, fp, tn, J, H2, e, I2, T, st2, f2, hR⟩ := h2
  subst e
  refine wpAny_newObj_type ?_
  obtain ⟨W, ⟨m0, w0⟩, turn⟩ := hR s2.heap.objs.size I2.fresh
  have I3 : Inv X pins σ (upd H2 s2.heap.objs.size (.lst [])) { s2 with heap := s2.heap.push { cls := .type "list", dict := none, data := .seq ([] : List Value).toArray } } := I2.lnew (t' := s2.toks) .nil (Nat.zero_le _)
  have lt2 : ∀ b ∈ fp, b < s2.heap.objs.size := fun b hb => by
    obtain ⟨o, ho, _⟩ := T.obj _ _ st2 b hb
    exact Heap.lt_size ho
  have st3 : tn 0 (s2.heap.push { cls := .type "list", dict := none, data := .seq ([] : List Value).toArray }) := T.keep _ _ _ st2 fun b _ o e => Heap.get?_push_of_some _ e
  have lt3 : ∀ b ∈ fp, b < (s2.heap.push { cls := .type "list", dict := none, data := .seq ([] : List Value).toArray }).objs.size := fun b hb => by
    rw [Heap.size_push]
    exact Nat.lt_succ_of_lt (lt2 b hb)
  have fr3 : ∀ b ∈ fp, upd H2 s2.heap.objs.size (.lst []) b = none := fun b hb => by
    rw [upd_ne (Nat.ne_of_lt (lt2 b hb))]
    exact (f2 b hb).1
  have hD3 : upd H2 s2.heap.objs.size (.lst []) s2.heap.objs.size = some (.lst []) := upd_same
  generalize hs3 : ({ s2 with heap := s2.heap.push { cls := .type "list", dict := none, data := .seq ([] : List Value).toArray } } : Shared) = s3 at I3 ⊢
  have eh3 : s3.heap = s2.heap.push { cls := .type "list", dict := none, data := .seq ([] : List Value).toArray } := by rw [← hs3]
  rw [← eh3] at st3 lt3
  generalize upd H2 s2.heap.objs.size (.lst []) = H3 at I3 w0 fr3 hD3
  generalize s2.heap.objs.size = D at turn hD3 ⊢
  refine wpAny_newFunctionEnv hok.nocell (by intro y hy; simp at hy) (fun h4 ns4 sb4 => ?_) hok.kind
  have old : ∀ b o, s3.heap.get? b = some o → h4.get? b = some o := fun b o e => sb4.extBut b o (Nat.ne_of_lt (Heap.lt_size e)) (Heap.get?_push_of_some _ e)
  have good := closOf_good (cells := X.env.cells) scope.names [] (fun x c e => by simp at e)
  have hasc : ∀ x, scope.names.lookup x = some .free → ∃ c, (closOf X.env.cells scope.names []).lookup x = some c := fun x e => by
    have hm := PySem.mem_of_lookup e
    obtain ⟨c, hc⟩ := hcells _ hm rfl
    exact Option.isSome_iff_exists.mp (closOf_has scope.names [] x hm (by rw [hc]; rfl))
  obtain ⟨xe, hxe⟩ : ∃ xe, xe = notedBy (model X.prog X.w) X.A (compEnvC scope (closOf X.env.cells scope.names []) s3.heap.objs.size X.env) fun e s' => compPost (model X.prog X.w) X.A X.xe use Q (.ref D) s3.heap.objs.size (.error e) s' := ⟨_, rfl⟩
  have hch : ∀ b ∈ fp, (b ∈ X.ex ∨ X.s₀.heap.objs.size ≤ b) ∧ b ≠ X.env.locals ∧ (∀ x c, X.env.cells.lookup x = some c → c ≠ b) ∧ ∀ p ∈ X.pn ++ pins, p.1 ≠ b := fun b hb => ⟨(f2 b hb).2.2.2.1, (f2 b hb).2.1, (f2 b hb).2.2.2.2.1, (f2 b hb).2.2.2.2.2⟩
  have pass : Passes (CXR X.prog X.w) (compCxE X scope N s3.heap.objs.size s3 H3 fp xe) E := comp_pass hX hk hfm hex I3 rfl hch hxe
  have I4 : Inv (compCxE X scope N s3.heap.objs.size s3 H3 fp xe) [] (cst js σ) H3 { s3 with heap := h4, toks := s3.toks + ([] : List (Str × Value)).length } := by
    refine ⟨⟨I3.mod, hok.kind, I3.ok.glob, I3.ok.blt, Nat.le_refl _, fun x y c e1 e2 => I3.ok.inj x y c (good x c e1) (good y c e2), fun x hx => hasc x (lookup_relabel hok.nocell hx), (fun x c e => by cases e), I3.ok.hd, I3.ok.frames, .inl rfl, fun b hb => ⟨Nat.ne_of_lt (lt3 b hb), fun x c e => (f2 b hb).2.2.2.2.1 x c (good x c e)⟩,
        fun b o e => I3.bs b o e, Nat.le_trans I3.ok.bsz I3.sz, fun b o e hb => ?_, fun b hb z => ?_, I3.stack, I3.stkFree⟩,
      rfl, I3.bare, Un.kept old, ⟨_, ns4, fun i x v e1 e2 e3 => ?_⟩, fun x c e => ?_, I3.fresh, fun x c e => I3.freeC x c (good x c e), (fun p hp => by cases hp), I3.hok.kept old, ?_⟩
    · rcases (f2 b hb).2.2.2.1 with z | z
      · exact I3.ok.noex b o e z
      · exact absurd (Nat.lt_of_lt_of_le (Heap.lt_size e) (Nat.le_trans I3.ok.bsz z)) (Nat.lt_irrefl _)
    · rcases List.mem_cons.mp (I3.stkSub b z) with z | z
      · exact (f2 b hb).2.1 z
      · exact (f2 b hb).2.2.1 z
    · have e2' : (js.map fun j => match j with | none => (none : Option V) | some k => σ.getD k none)[i]? = some (some v) := e2
      rw [List.getElem?_map] at e2'
      cases ej : js[i]? with
      | none => rw [ej] at e2'; cases e2'
      | some j =>
        rw [ej] at e2'
        cases j with
        | none => cases e2'
        | some k =>
          have eσ : σ.getD k none = some v := Option.some.inj e2'
          obtain ⟨hk, hfr⟩ := jsOk_get hok.js i k x ej e1
          have eσ' : σ[k]? = some (some v) := by
            rw [List.getD_eq_getElem?_getD] at eσ
            cases ek : σ[k]? with
            | none => rw [ek] at eσ; cases eσ
            | some o => rw [ek] at eσ; simp at eσ; rw [eσ]
          have hvis := hok.frees _ (PySem.mem_of_lookup hfr) rfl
          obtain ⟨m, hn, hl⟩ := I3.loc
          obtain ⟨u, r, l⟩ := hl k x v hk eσ' (.inr hvis)
          refine ⟨u, r, .inr ⟨lookup_relabel_free hfr, ?_⟩⟩
          rcases l with ⟨l, _⟩ | ⟨_, c, ec, z⟩
          · rcases hvis with q | q
            · exact absurd (l.symm.trans q) (by decide)
            · exact absurd (l.symm.trans q) (by decide)
          · obtain ⟨c', ec'⟩ := hasc x hfr
            have := good x c' ec'
            rw [ec] at this
            cases this
            exact ⟨c, ec', z.keeps old⟩
    · obtain ⟨v, z⟩ := I3.cell x c (good x c e)
      exact ⟨v, z.keeps old⟩
    · show (js.map _).length = N.length
      rw [List.length_map]
      exact jsOk_length hok.js
  have st4 : tn 0 h4 := T.keep _ _ _ st3 fun b _ o e => old b o e
  have stat : ∀ {H' : Hp}, (∀ b ∈ fp, H' b = none) → ∀ b ∈ fp, FpOk (compCxE X scope N s3.heap.objs.size s3 H3 fp xe) [] H' b := fun hn b hb =>
    ⟨hn b hb, Nat.ne_of_lt (lt3 b hb), fun z => (List.mem_cons.mp (I3.stkSub b z)).elim (f2 b hb).2.1 (f2 b hb).2.2.1, .inl hb, fun x c e => (f2 b hb).2.2.2.2.1 x c (good x c e), (fun p hp => by cases hp)⟩
  have fin : ∀ {i m : Nat} {ys : List V} {H5 : Hp} {s6 : Shared}, Inv (compCxE X scope N s3.heap.objs.size s3 H3 fp xe) [] (cst js σ) H5 s6 → R (.ref D) H5 → compPost (model X.prog X.w) X.A X.xe use Q (.ref D) s3.heap.objs.size (.ok .next) s6 := fun {i m ys H5 s6} I6 q => by
    obtain ⟨m6, hn6, _⟩ := I6.loc
    refine hend _ _ _ H5 (I3.call' I6.os I6.base I6.hok I6.bare fun b hb => ⟨(f2 b hb).2.2.2.1, (f2 b hb).2.1, (f2 b hb).2.2.2.2.1, (f2 b hb).2.2.2.2.2⟩) q ⟨m6, hn6⟩ (I3.fpOk (Nat.le_refl _) I6.free)
  have loop : codeAny (model X.prog X.w) X.A (.compLoop (.ListComp elt [⟨tg, iter, ifs, 0⟩] scope pos) 0 (.ref it) (.ref D) (compCxE X scope N s3.heap.objs.size s3 H3 fp xe).env)
      (compPost (model X.prog X.w) X.A X.xe use Q (.ref D) s3.heap.objs.size) { s3 with heap := h4, toks := s3.toks + ([] : List (Str × Value)).length } := by
    refine codeAny_compLoop_goE hxe (fun n s' => ∃ i ys H', Inv (compCxE X scope N s3.heap.objs.size s3 H3 fp xe) [] (cst js σ) H' s' ∧ tn i s'.heap ∧ (∀ b ∈ fp, H' b = none) ∧ H' D = some (.lst ys) ∧ W i n ys H') ?_ m0 ⟨0, [], H3, I4, st4, fr3, hD3, w0⟩
    rintro n s5 ⟨i, ys, H5, I5, st5, fr5, hD5, w5⟩
    rcases turn i n ys H5 w5 hD5 with ⟨stop, q⟩ | ⟨go, step⟩
    · refine thn (T.done (compCxE X scope N s3.heap.objs.size s3 H3 fp xe) rfl rfl rfl hc i [] s5 (cst js σ) H5 _ I5 (stat fr5) st5 stop) fun r s6 ⟨hr, I6⟩ => ?_
      subst hr
      exact fin (i := i) (m := n) (ys := ys) I6 q
    · refine thn (T.item (compCxE X scope N s3.heap.objs.size s3 H3 fp xe) rfl rfl rfl hc i [] s5 (cst js σ) H5 _ I5 (stat fr5) st5 go) fun r s6 ⟨u, hr, h6⟩ => ?_
      subst hr
      refine thn h6 fun _ s7 ⟨x, H7, I7, r7, y7, st7, fr7⟩ => ?_
      have I7' := I7.pinned (stat fr7) (T.obj _ _ st7)
      have again : ∀ {σ8 : St} {H8 : Hp} {s8 : Shared} {zs : List V}, Ext (cst js σ) σ8 → Inv (compCxE X scope N s3.heap.objs.size s3 H3 fp xe) ([] ++ pinsAt fp s7.heap) σ8 H8 s8 → H8 D = some (.lst zs) → (∃ m', m' < n ∧ W (i + 1) m' zs H8) →
          ∃ m, m < n ∧ ∃ i ys H', Inv (compCxE X scope N s3.heap.objs.size s3 H3 fp xe) [] (cst js σ) H' s8 ∧ tn i s8.heap ∧ (∀ b ∈ fp, H' b = none) ∧ H' D = some (.lst ys) ∧ W i m ys H' := fun {σ8 H8 s8 zs} ex I8 hD8 w8 => by
        obtain ⟨m', hm, w8⟩ := w8
        refine ⟨m', hm, i + 1, zs, H8, I8.unpinned.weak ex.1 ex.2, T.keep _ _ _ st7 fun b hb o e => (I8.pin (b, o) (List.mem_append_right _ (List.mem_append_right _ (mem_pinsAt hb e)))).1, fun b hb => ?_, hD8, w8⟩
        obtain ⟨o, e, d⟩ := T.obj _ _ st7 b hb
        exact (I8.pin (b, o) (List.mem_append_right _ (List.mem_append_right _ (mem_pinsAt hb e)))).2.1
      refine thn (hg _ _ _ _ xe _ s7 (cst js σ) H7 x u _ I7' r7 (step x H7 y7)) fun _ s8 ⟨σ8, H8, I8, ex8, q8⟩ => ?_
      refine thn (ht _ _ _ _ xe _ s8 σ8 H8 _ I8 q8) fun c s9 ⟨H9, I9, q9⟩ => ?_
      cases c with
      | false =>
        rw [if_neg (by decide)] at q9 ⊢
        exact again ex8 I9 q9.1 q9.2
      | true =>
        rw [if_pos rfl] at q9 ⊢
        refine thnE (he _ _ _ _ xe pass _ s9 σ8 H9 _ I9 q9) fun y s10 v10 H10 I10 r10 zz5 => ?_
        obtain ⟨hD10, hz10, w10⟩ := zz5
        refine thn (mt_append _ s10 σ8 H10 (.ref D) [v10] (.ref D) [y] (fun _ H11 => H11 = upd H10 D (.lst (ys ++ [v10]))) I10 rfl (.cons r10 .nil) ⟨D, ys, v10, rfl, rfl, hD10, hz10, rfl⟩) fun _ s11 ⟨_, H11, I11, _, e11⟩ => ?_
        subst e11
        exact again ex8 I11 upd_same w10
  exact codeAny_compStart_list loop (T.self _ _ _ _ _ st4 loop)

theorem ps_setCX {i : Nat} {x : Str} {pos' spos : Pos} (hX : XeIs X E) (hk : X.stack = X.env :: X.outer) (hfm : X.env.frame = some X.env.locals) (hex : X.ex = []) (hN : X.N.Nodup) (hx : X.N[i]? = some x) (hl : X.env.scope.names.lookup x = some .local) (hok : compOk X.N X.env.scope scope N js = true) (hc : X.calm = true) (hi : PI X tg iter wi)
    (hg : ∀ C s₃ H₃ fp xe, PG (compCxE X scope N C s₃ H₃ fp xe) tg g) (ht : ∀ C s₃ H₃ fp xe, PTs (compCxE X scope N C s₃ H₃ fp xe) ifs tc) (he : ∀ C s₃ H₃ fp xe, Passes (CXR X.prog X.w) (compCxE X scope N C s₃ H₃ fp xe) E → PE (compCxE X scope N C s₃ H₃ fp xe) elt te)
    (hsw : swapsWith (.ListComp elt [⟨tg, iter, ifs, 0⟩] scope pos) (some (.Name x pos')) spos.line X.env = pure true := by rfl) (hs : ∀ x, foldedSetIterable iter X.env x = pure x := by intro _; rfl) :
    PS X (.Assign [.Name x pos'] (.ListComp elt [⟨tg, iter, ifs, 0⟩] scope pos) spos) (tAsg (tComp js wi g tc te) (gName i)) := by
  intro pins s σ H D I h
  rw [exec_Assign_Name_used _ _ _ _ hsw]
  refine wpAny_bind (wpAny_standAt (wpAny_bind ?_))
  have run := comp_runX (E := E) (pos := pos) (cpos := firstIterPos [⟨tg, iter, ifs, 0⟩] pos) (use := some (assign (.Name x pos') X.env)) (R := fun v H1 => D.nx (σ.set i (some v)) H1) (Q := fun _ s' => SP X pins D .next s') hX hk hfm hex (CompOk.of hok) hc hi hg ht he I h (fun C L s' H' I' q hn hf => ?_) hs
  · show wpAny _ X.A (do let _ ← comprehension (.ListComp elt [⟨tg, iter, ifs, 0⟩] scope pos) scope X.env _ (newList []) false (eval iter X.env) (some (assign (.Name x pos') X.env))) _ _ s
    exact wpAny_bind (wpAny_mono run (fun _ s' hq => wpAny_pure (wpAny_pure hq)) fun _ _ e => e)
  · obtain ⟨m, o, es, ep, ho, hd, hr⟩ := hn
    have I2 : Inv X (pins ++ pinsAt [C] s'.heap) σ H' s' := I'.pinned (fp := [C]) (fun b hb => by rw [List.mem_singleton.mp hb]; exact hf) (fun b hb => by rw [List.mem_singleton.mp hb]; exact ⟨o, ho, fun v z => by rw [hd] at z; cases z⟩)
    refine wpAny_assign_Name (store_ok (v := .ref L) I2 hN hx (.inl hl) rfl (fun s2 I3 => ?_) (.inr hl))
    have hC : s2.heap.get? C = some o := (I3.pin (C, o) (List.mem_append_right _ (List.mem_append_right _ (mem_pinsAt (List.mem_singleton.mpr rfl) ho)))).1
    refine ⟨m, ⟨o, es, ep, hC, hd, hr⟩, fun h' hs' => ⟨_, H', ?_, q⟩⟩
    exact I3.unpinned.turned (t' := s2.toks) (it := C) (fun b o hb e => (hs'.2 b hb).trans e) hf.1 hf.2.1 hf.2.2.2.1 hf.2.2.2.2.1 hf.2.2.2.2.2
end
end L2


namespace My
open PySem L2 PyProof.Rows
noncomputable def top (i : Nat) : Stmt := PySem.Challenge.pw_slipseen_k15_read_or_refused.main.body.getD i (.Pass ⟨0, 0, 0, 0⟩)
noncomputable abbrev sWhole : Stmt := top 13
noncomputable abbrev sTupOf : Stmt := top 14
noncomputable abbrev sRow : Stmt := top 15
noncomputable abbrev sTab : Stmt := top 16
noncomputable abbrev sTabs : Stmt := top 17
noncomputable abbrev sCheck : Stmt := top 18
noncomputable abbrev sCell : Stmt := top 25
noncomputable abbrev sStir : Stmt := top 26
noncomputable abbrev sWeight : Stmt := top 27
noncomputable abbrev sScheme : Stmt := top 28
noncomputable abbrev sLaw : Stmt := top 36

noncomputable def spWhole : Sp := fun vs H Q _ => ∃ v l m : Int, vs = [.int v, .int l, .int m] ∧ Q (.bl (wholeB v l m)) H
noncomputable def spTupOf : Sp := fun vs H Q _ => ∃ (a : Addr) (xs : List V) (l m : Int), vs = [.ref a, .int l, .int m] ∧ H a = some (.tup xs) ∧ Q (.bl (lenB xs l m)) H
noncomputable def spRow : Sp := fun vs H Q _ => ∃ (v : V) (r : List Int) (b n : Int), vs = [v, .int b, .int n] ∧ RowAt H v r ∧ r.length ≤ 1000 ∧ ∀ H', Same H H' → Q (.bl (rowB b n r)) H'
noncomputable def spTab : Sp := fun vs H Q _ => ∃ (v : V) (t : Tab) (b n : Int), vs = [v, .int b, .int n] ∧ TabAt H v t ∧ t.length ≤ 1000 ∧ (∀ r ∈ t, r.length ≤ 1000) ∧ ∀ H', Same H H' → Q (.bl (tabB b n t)) H'
noncomputable def spTabs : Sp := fun vs H Q _ => ∃ (v : V) (ts : List Tab) (b : Int), vs = [v, .int b] ∧ TabsAt H v ts ∧ ts.length ≤ 1000 ∧ (∀ t ∈ ts, t.length ≤ 1000 ∧ ∀ r ∈ t, r.length ≤ 1000) ∧ ∀ H', Same H H' → Q (.bl (tabsB b ts)) H'

structure StartAt (K : PySem.W.Frag) (mg : Str → Option Value) : Prop where
  at' : ∃ a, mg "START" = some (.ref a) ∧ ∀ H, SqT K H a [.int 0, .int 0]
structure Nums (mg : Str → Option Value) : Prop where
  lb : ∃ t, mg "LEAST_BASE" = some (.int 2 t)
  mb : ∃ t, mg "MOST_BASE" = some (.int 10 t)
  mt : ∃ t, mg "MOST_TABLES" = some (.int 6 t)
  ms : ∃ t, mg "MOST_STATES" = some (.int 12 t)
section
variable {P : Program} {w : World} {K : PySem.W.Frag} {mg : Str → Option Value} {base : Heap}

theorem scWhole : FnScope ["value", "least", "most"] ["value", "least", "most"] (defScope sWhole) := ⟨rfl, rfl, rfl, by decide +kernel, rfl, by decide +kernel, by decide +kernel⟩
theorem ok_whole {f : Addr} {fd : FuncData} (F : Fun K "is_whole" "is_whole" sWhole f fd) (B : Blt mg) : FnOk P w K mg base CX0 1 f fd ["value", "least", "most"] spWhole := by
  refine F.ok scWhole (fun vs H Q E h => ?_) (fun cdv A outer s H vs Q E hr h => ?_)
  · obtain ⟨v, l, m, rfl, _⟩ := h
    rfl
  · obtain ⟨v, l, m, rfl, k⟩ := h
    refine ⟨_, pss_cons (ps_if (PW.pt (pw_or (pt_val (pe_callB call_isinst rfl B.isi boot_isinstance (pa_cons (pv 0) (pa_cons (pe_ty B.tBool boot_bool) pa_nil))))
        (pw_or1 (pt_not (pt_val (pe_callB call_isinst rfl B.isi boot_isinstance (pa_cons (pv 0) (pa_cons (pe_ty B.tInt boot_int) pa_nil)))))))) (pss_one (ps_ret pe_bl)) pss_nil)
      (pss_one (ps_ret (pe_chain op_le op_le (pv 1) (pv 0) (pv 2)))), ?_⟩
    refine ⟨_, rfl, _, _, _, _, rfl, .int _, kit_int_bool, _, rfl, iteF ?_⟩
    refine ⟨_, rfl, _, _, _, _, rfl, .int _, kit_int_int, _, rfl, iteF ?_⟩
    refine ⟨_, rfl, _, rfl, _, _, rfl, rfl, _, rfl, ?_⟩
    refine ite2 (fun c => ⟨_, rfl, _, _, rfl, rfl, ?_⟩) (fun c => ?_)
    · have e : wholeB v l m = decide (v ≤ m) := by unfold wholeB; rw [c, Bool.true_and]
      rw [e] at k
      exact k
    · have e : wholeB v l m = false := by unfold wholeB; rw [Bool.eq_false_iff.mpr c, Bool.false_and]
      rw [e] at k
      exact k

theorem scTupOf : FnScope ["value", "least", "most"] ["value", "least", "most"] (defScope sTupOf) := ⟨rfl, rfl, rfl, by decide +kernel, rfl, by decide +kernel, by decide +kernel⟩
theorem ok_tupOf {f : Addr} {fd : FuncData} (F : Fun K "is_tuple_of" "is_tuple_of" sTupOf f fd) (B : Blt mg) : FnOk P w K mg base CX0 1 f fd ["value", "least", "most"] spTupOf := by
  refine F.ok scTupOf (fun vs H Q E h => ?_) (fun cdv A outer s H vs Q E hr h => ?_)
  · obtain ⟨a, xs, l, m, rfl, _⟩ := h
    rfl
  · obtain ⟨a, xs, l, m, rfl, ha, k⟩ := h
    refine ⟨_, pss_one (ps_ret (pe_and (pe_callB call_isinst rfl B.isi boot_isinstance (pa_cons (pv 0) (pa_cons (pe_ty B.tTuple boot_tuple) pa_nil)))
      (pe_one (pe_chain op_le op_le (pv 1) (pe_callB call_len_seq rfl B.len PySem.boot_len (pa_cons (pv 0) pa_nil)) (pv 2))))), ?_⟩
    refine ⟨_, rfl, _, _, _, _, rfl, .tup ha, kit_tup_tup, _, rfl, iteT ?_⟩
    refine ⟨_, rfl, _, rfl, _, _, rfl, .inr (SqT.of ha), _, _, rfl, rfl, _, rfl, ?_⟩
    refine ite2 (fun c => ⟨_, rfl, _, _, rfl, rfl, ?_⟩) (fun c => ?_)
    · have e : lenB xs l m = decide ((xs.length : Int) ≤ m) := by unfold lenB; rw [c, Bool.true_and]
      rw [e] at k
      exact k
    · have e : lenB xs l m = false := by unfold lenB; rw [Bool.eq_false_iff.mpr c, Bool.false_and]
      rw [e] at k
      exact k

theorem scRow : FnScope ["row", "base", "states"] ["row", "base", "states"] (defScope sRow) := ⟨rfl, rfl, rfl, by decide +kernel, rfl, by decide +kernel, by decide +kernel⟩
theorem ok_row {f : Addr} {fd : FuncData} (F : Fun K "is_row" "is_row" sRow f fd) (B : Blt mg) (h1 : Has P w K mg base "is_tuple_of" 1 ["value", "least", "most"] spTupOf) (h2 : Has P w K mg base "is_whole" 1 ["value", "least", "most"] spWhole) :
    FnOk P w K mg base CX0 2 f fd ["row", "base", "states"] spRow := by
  refine F.ok scRow (fun vs H Q E h => ?_) (fun cdv A outer s H vs Q E hr h => ?_)
  · obtain ⟨v, r, b, n, rfl, _⟩ := h
    rfl
  · obtain ⟨v, r, b, n, rfl, ⟨a, rfl, ha⟩, hl, k⟩ := h
    refine ⟨_, pss_one (ps_ret (pe_and (pe_fn h1 hr (pa_cons (pv 0) (pa_cons (pv 1) (pa_cons (pv 1) pa_nil))))
      (pe_one (pe_callB (call_all rfl) rfl B.all boot_all (pa_cons (pe_comp (N := ["state", "states"]) (js := [none, some 2]) rfl rfl (pi_tup (pv 0))
        (fun _ _ _ _ => pg_name (i := 0) (ndOf (N := ["state", "states"]) (by decide +kernel)) rfl (Or.inl rfl)) (fun _ _ _ _ => pts_nil)
        (fun _ _ _ _ => pe_fn h2 hr (pa_cons (pv 0) (pa_cons pe_int (pa_cons (pe_op op_sub (pv 1) pe_int) pa_nil))))) pa_nil))))), ?_⟩
    refine ⟨_, rfl, _, rfl, _, rfl, a, _, b, b, rfl, ha, ?_⟩
    refine ⟨_, rfl, ite2 (fun c => ?_) (fun c => ?_)⟩
    · refine ⟨_, rfl, a, rfl, ⟨_, SqT.of ha⟩, ?_⟩
      have wk := Walk.tup (K := K) (SqT.of ha)
      rw [List.length_map] at wk
      refine block_map wk hl rfl (fun k => .bl (wholeB (r.getD k 0) 0 (n - 1))) (fun k H2 Q' hk s2 q => ?_) (fun D H2 hD s2 hD2 => ?_)
      · refine ⟨_, rfl, _, rfl, _, _, rfl, rfl, r.getD k 0, 0, n - 1, ?_, q _ (Same.refl _)⟩
        rw [show (r.map V.int).getD k .non = V.int (r.getD k 0) by simp [List.getD_eq_getElem?_getD, List.getElem?_map, List.getElem?_eq_getElem hk]]
        rfl
      · refine ⟨D, r.map fun e => wholeB e 0 (n - 1), rfl, SqL.of ?_, ?_⟩
        · rw [hD2, ← range_map_getD r 0 (fun e => wholeB e 0 (n - 1)), List.map_map]
          rfl
        · have e : rowB b n r = (r.map fun e => wholeB e 0 (n - 1)).all id := by
            unfold rowB
            rw [show lenB r b b = true by rw [← c]; simp [lenB], Bool.true_and]
          rw [e] at k
          exact k H2 s2
    · have e : rowB b n r = false := by
        unfold rowB
        rw [show lenB r b b = false by rw [← Bool.eq_false_iff.mpr c]; simp [lenB], Bool.false_and]
      rw [e] at k
      exact k H (Same.refl _)

theorem scTab : FnScope ["table", "base", "states"] ["table", "base", "states"] (defScope sTab) := ⟨rfl, rfl, rfl, by decide +kernel, rfl, by decide +kernel, by decide +kernel⟩
theorem ok_tab {f : Addr} {fd : FuncData} (F : Fun K "is_table" "is_table" sTab f fd) (B : Blt mg) (h1 : Has P w K mg base "is_tuple_of" 1 ["value", "least", "most"] spTupOf) (h2 : Has P w K mg base "is_row" 2 ["row", "base", "states"] spRow) :
    FnOk P w K mg base CX0 3 f fd ["table", "base", "states"] spTab := by
  refine F.ok scTab (fun vs H Q E h => ?_) (fun cdv A outer s H vs Q E hr h => ?_)
  · obtain ⟨v, t, b, n, rfl, _⟩ := h
    rfl
  · obtain ⟨v, t, b, n, rfl, ⟨a, xs, rfl, ha, hp⟩, hl, hl2, k⟩ := h
    have el := paired_length hp
    refine ⟨_, pss_one (ps_ret (pe_and (pe_fn h1 (hr.mono (by decide)) (pa_cons (pv 0) (pa_cons (pv 2) (pa_cons (pv 2) pa_nil))))
      (pe_one (pe_callB (call_all rfl) rfl B.all boot_all (pa_cons (pe_comp (N := ["row", "base", "states"]) (js := [none, some 1, some 2]) rfl rfl (pi_tup (pv 0))
        (fun _ _ _ _ => pg_name (i := 0) (ndOf (N := ["row", "base", "states"]) (by decide +kernel)) rfl (Or.inl rfl)) (fun _ _ _ _ => pts_nil)
        (fun _ _ _ _ => pe_fn h2 hr (pa_cons (pv 0) (pa_cons (pv 1) (pa_cons (pv 2) pa_nil))))) pa_nil))))), ?_⟩
    refine ⟨_, rfl, _, rfl, _, rfl, a, _, n, n, rfl, ha, ?_⟩
    refine ⟨_, rfl, ite2 (fun c => ?_) (fun c => ?_)⟩
    · refine ⟨_, rfl, a, rfl, ⟨_, SqT.of ha⟩, ?_⟩
      have wk := Walk.tup (K := K) (SqT.of ha)
      rw [el] at wk
      refine block_map wk hl rfl (fun k => .bl (rowB b n (t.getD k []))) (fun k H2 Q' hk s2 q => ?_) (fun D H2 hD s2 hD2 => ?_)
      · have ek : t[k]? = some (t.getD k []) := getD_some hk
        obtain ⟨x, ex, hx⟩ := paired_get hp k _ ek
        refine ⟨_, rfl, _, rfl, _, rfl, x, t.getD k [], b, n, ?_, hx.same s2, hl2 _ (List.mem_of_getElem? ek), fun H3 s3 => q H3 s3⟩
        rw [show xs.getD k .non = x by rw [List.getD_eq_getElem?_getD, ex]; rfl]
        rfl
      · refine ⟨D, t.map fun r => rowB b n r, rfl, SqL.of ?_, ?_⟩
        · rw [hD2, ← range_map_getD t [] (fun r => rowB b n r), List.map_map]
          rfl
        · have e : tabB b n t = (t.map fun r => rowB b n r).all id := by
            unfold tabB
            rw [show lenB t n n = true by rw [← c]; simp [lenB, el], Bool.true_and]
          rw [e] at k
          exact k H2 s2
    · have e : tabB b n t = false := by
        unfold tabB
        rw [show lenB t n n = false by rw [← Bool.eq_false_iff.mpr c]; simp [lenB, el], Bool.false_and]
      rw [e] at k
      exact k H (Same.refl _)

theorem scTabs : FnScope ["tables", "base", "states"] ["tables", "base"] (defScope sTabs) := ⟨rfl, rfl, rfl, by decide +kernel, rfl, by decide +kernel, by decide +kernel⟩
theorem ok_tabs {f : Addr} {fd : FuncData} (F : Fun K "are_tables" "are_tables" sTabs f fd) (B : Blt mg) (Nm : Nums mg) (h1 : Has P w K mg base "is_tuple_of" 1 ["value", "least", "most"] spTupOf) (h2 : Has P w K mg base "is_table" 3 ["table", "base", "states"] spTab) :
    FnOk P w K mg base CX0 4 f fd ["tables", "base"] spTabs := by
  refine F.ok scTabs (fun vs H Q E h => ?_) (fun cdv A outer s H vs Q E hr h => ?_)
  · obtain ⟨v, ts, b, rfl, _⟩ := h
    rfl
  · obtain ⟨v, ts, b, rfl, ⟨a, xs, rfl, ha, hp⟩, hl, hl2, k⟩ := h
    have el := paired_length hp
    obtain ⟨t6, m6⟩ := Nm.mt
    obtain ⟨t12, m12⟩ := Nm.ms
    have r1 : Room 1 _ := hr.mono (by decide)
    refine ⟨_, pss_cons (ps_if (PW.pt (pw_or (pt_not (pt_val (pe_fn h1 r1 (pa_cons (pv 0) (pa_cons pe_int (pa_cons (pe_glob (v := .int 6) rfl m6 ⟨_, rfl⟩) pa_nil))))))
        (pw_or1 (pt_not (pt_val (pe_fn h1 r1 (pa_cons (pe_ix ix_tup (pv 0) pe_int (fun _ _ => rfl)) (pa_cons pe_int (pa_cons (pe_glob (v := .int 12) rfl m12 ⟨_, rfl⟩) pa_nil))))))))) (pss_one (ps_ret pe_bl)) pss_nil)
      (pss_cons (ps_set (i := 2) scTabs.nd rfl (Or.inr rfl) (pe_callB call_len_seq rfl B.len PySem.boot_len (pa_cons (pe_ix ix_tup (pv 0) pe_int (fun _ _ => rfl)) pa_nil)))
      (pss_one (ps_ret (pe_callB (call_all rfl) rfl B.all boot_all (pa_cons (pe_comp (N := ["table", "base", "states"]) (js := [none, some 1, some 2]) rfl rfl (pi_tup (pv 0))
        (fun _ _ _ _ => pg_name (i := 0) (ndOf (N := ["table", "base", "states"]) (by decide +kernel)) rfl (Or.inl rfl)) (fun _ _ _ _ => pts_nil)
        (fun _ _ _ _ => pe_fn h2 hr (pa_cons (pv 0) (pa_cons (pv 1) (pa_cons (pv 2) pa_nil))))) pa_nil))))), ?_⟩
    refine ⟨_, rfl, a, xs, 1, 6, rfl, ha, _, rfl, ite2 (fun c => ?_) (fun c => ?_)⟩
    · have e : tabsB b ts = false := by
        unfold tabsB
        have c' : lenB xs 1 6 = false := by simpa using c
        rw [show lenB ts 1 6 = false by rw [← c']; simp [lenB, el]]
        simp
      rw [e] at k
      exact k H (Same.refl _)
    · have c' : lenB ts 1 6 = true := by
        have : lenB xs 1 6 = true := by simpa using c
        rw [← this]
        simp [lenB, el]
      have hne : 0 < ts.length := by
        have := (lenB_iff.mp c').1
        omega
      have e0 : ts[0]? = some (ts.headD []) := by
        cases ts with
        | nil => simp at hne
        | cons t r => rfl
      obtain ⟨x0, ex0, ⟨a0, ys, rfl, ha0, hp0⟩⟩ := paired_get hp 0 _ e0
      have el0 := paired_length hp0
      refine ⟨_, rfl, a, xs, 0, _, rfl, rfl, SqT.of ha, atI_nat ex0, a0, ys, 1, 12, rfl, ha0, _, rfl, ite2 (fun d => ?_) (fun d => ?_)⟩
      · have e : tabsB b ts = false := by
          unfold tabsB
          have d' : lenB ys 1 12 = false := by simpa using d
          rw [show lenB (ts.headD []) 1 12 = false by rw [← d']; simp [lenB, el0]]
          simp
        rw [e] at k
        exact k H (Same.refl _)
      · have d' : lenB (ts.headD []) 1 12 = true := by
          have : lenB ys 1 12 = true := by simpa using d
          rw [← this]
          simp [lenB, el0]
        refine ⟨_, rfl, a, xs, 0, _, rfl, rfl, SqT.of ha, atI_nat ex0, a0, ys, rfl, .inr (SqT.of ha0), ?_⟩
        refine ⟨_, rfl, a, rfl, ⟨_, SqT.of ha⟩, ?_⟩
        have wk := Walk.tup (K := K) (SqT.of ha)
        rw [el] at wk
        refine block_map wk hl rfl (fun k => .bl (tabB b (ys.length : Int) (ts.getD k []))) (fun k H2 Q' hk s2 q => ?_) (fun D H2 hD s2 hD2 => ?_)
        · have ek : ts[k]? = some (ts.getD k []) := getD_some hk
          obtain ⟨x, ex, hx⟩ := paired_get hp k _ ek
          refine ⟨_, rfl, _, rfl, _, rfl, x, ts.getD k [], b, (ys.length : Int), ?_, hx.same s2, (hl2 _ (List.mem_of_getElem? ek)).1, (hl2 _ (List.mem_of_getElem? ek)).2, fun H3 s3 => q H3 s3⟩
          rw [show xs.getD k .non = x by rw [List.getD_eq_getElem?_getD, ex]; rfl]
          rfl
        · refine ⟨D, ts.map fun t => tabB b (ys.length : Int) t, rfl, SqL.of ?_, ?_⟩
          · rw [hD2, ← range_map_getD ts [] (fun t => tabB b (ys.length : Int) t), List.map_map]
            rfl
          · have e : tabsB b ts = (ts.map fun t => tabB b (ys.length : Int) t).all id := by
              unfold tabsB
              rw [c', d', el0]
              simp
            rw [e] at k
            exact k H2 s2




end
end My


namespace My
open PySem L2 PyProof.Rows

noncomputable def cel (ns : List Int) (k : Int) : Int := ns.getD k.toNat 0
noncomputable def spCell (K : PySem.W.Frag) : Sp := fun vs H Q _ => ∃ (a : Addr) (ns : List Int) (k : Int), vs = [.ref a, .int k] ∧ SqL K H a (ns.map V.int) ∧ 0 ≤ k ∧ Q (.int (cel ns k)) H
noncomputable def spStir : Sp := fun vs H Q _ => ∃ c k : Int, vs = [.int c, .int k] ∧ ∀ r, Q (.int r) H
noncomputable def spWeight (K : PySem.W.Frag) : Sp := fun vs H Q _ => ∃ (a : Addr) (ns : List Int) (at' : Int) (t : Nat) (n : Int), vs = [.ref a, .int at', .int t, .int n] ∧ SqL K H a (ns.map V.int) ∧ 0 ≤ at' ∧ t ≤ 1000 ∧ 1 ≤ n ∧ n ≤ 12 ∧
  ∀ r, 0 ≤ r → r < n → Q (.int r) H
noncomputable def spScheme (K : PySem.W.Frag) : Sp := fun vs H Q _ => ∃ (a m : Addr) (ns : List Int) (at' m0 m1 m2 : Int), vs = [.ref a, .int at', .ref m] ∧ SqL K H a (ns.map V.int) ∧ 0 ≤ at' ∧ H m = some (.tup [.int m0, .int m1, .int m2]) ∧
  2 ≤ m0 ∧ m0 ≤ 10 ∧ 1 ≤ m1 ∧ m1 ≤ 12 ∧ 1 ≤ m2 ∧ m2 ≤ 6 ∧ ∀ v b ts H', Same H H' → SchAt H' v b ts → Ok b ts → b ≤ m0 → (nst ts : Int) ≤ m1 → (ts.length : Int) ≤ m2 → Q v H'
section
variable {P : Program} {w : World} {K : PySem.W.Frag} {mg : Str → Option Value} {base : Heap}
theorem scCell : FnScope ["script", "k"] ["script", "k"] (defScope sCell) := ⟨rfl, rfl, rfl, by decide +kernel, rfl, by decide +kernel, by decide +kernel⟩
theorem ok_cell {f : Addr} {fd : FuncData} (F : Fun K "_law_cell_at" "_law_cell_at" sCell f fd) (B : Blt mg) : FnOk P w K mg base CX0 1 f fd ["script", "k"] (spCell K) := by
  refine F.ok scCell (fun vs H Q E h => ?_) (fun cdv A outer s H vs Q E hr h => ?_)
  · obtain ⟨a, ns, k, rfl, _⟩ := h
    rfl
  · obtain ⟨a, ns, k, rfl, hS, h0, q⟩ := h
    refine ⟨_, pss_cons (ps_if (pt_cmpR op_lt (pv 1) (pe_callB call_len_seq rfl B.len PySem.boot_len (pa_cons (pv 0) pa_nil)) (nomark _)) (pss_one (ps_ret (pe_ix ix_list (pv 0) (pv 1) (fun _ _ => rfl)))) pss_nil)
      (pss_one (ps_ret pe_int)), ?_⟩
    refine ⟨_, rfl, _, rfl, a, _, rfl, .inl hS, _, _, rfl, rfl, _, rfl, ite2 (fun c => ?_) (fun c => ?_)⟩
    · have hk : k.toNat < ns.length := by
        have := of_decide_eq_true c
        rw [List.length_map] at this
        omega
      refine ⟨_, rfl, _, rfl, a, _, k, .int (cel ns k), rfl, rfl, hS, atI_int h0 ?_, q⟩
      rw [List.getElem?_map, getD_some (d := 0) hk]
      rfl
    · have e : cel ns k = 0 := by
        have hk : ns.length ≤ k.toNat := by
          have := of_decide_eq_false (Bool.eq_false_iff.mpr c)
          rw [List.length_map] at this
          omega
        unfold cel
        rw [List.getD_eq_getElem?_getD, List.getElem?_eq_none hk]
        rfl
      rw [e] at q
      exact q
theorem scStir : FnScope ["cell", "k", "mixed"] ["cell", "k"] (defScope sStir) := ⟨rfl, rfl, rfl, by decide +kernel, rfl, by decide +kernel, by decide +kernel⟩
theorem ok_stir {f : Addr} {fd : FuncData} (F : Fun K "_law_stirred" "_law_stirred" sStir f fd) : FnOk P w K mg base CX0 1 f fd ["cell", "k"] spStir := by
  refine F.ok scStir (fun vs H Q E h => ?_) (fun cdv A outer s H vs Q E hr h => ?_)
  · obtain ⟨c, k, rfl, _⟩ := h
    rfl
  · obtain ⟨c, k, rfl, q⟩ := h
    refine ⟨_, pss_cons (ps_set (i := 2) scStir.nd rfl (Or.inl rfl) (pe_op op_mod (pe_op op_mul (pe_op op_add (pe_op op_add (pv 0) (pe_op op_mul pe_int (pv 1))) pe_int) pe_int) pe_int))
      (pss_cons (ps_set (i := 2) scStir.nd rfl (Or.inl rfl) (pe_op op_mod (pe_op op_mul (pv 2) (pv 2)) pe_int))
      (pss_one (ps_ret (pe_op op_fdiv (pe_op op_mod (pe_op op_mul (pv 2) pe_int) pe_int) pe_int)))), ?_⟩
    refine ⟨_, rfl, _, rfl, _, _, rfl, rfl, .inl ⟨by decide, by decide⟩, _, _, rfl, rfl, _, _, rfl, rfl, _, _, rfl, rfl, .inr ⟨by decide, by decide⟩, _, _, rfl, rfl, (by show (0 : Int) < 2147483647; decide), ?_⟩
    generalize e : (c + 1009 * k + 17) * 48271 % 2147483647 = x
    have hx : 0 ≤ x ∧ x < 2147483647 := by omega
    refine ⟨_, rfl, _, rfl, _, _, rfl, rfl, .inl ⟨by omega, by omega⟩, _, _, rfl, rfl, (by show (0 : Int) < 2147483647; decide), ?_⟩
    refine ⟨_, rfl, _, _, rfl, rfl, .inr ⟨by decide, by decide⟩, _, _, rfl, rfl, (by show (0 : Int) < 2147483647; decide), _, _, rfl, rfl, ⟨by decide, by decide⟩, ?_⟩
    exact q _
theorem scWeight : FnScope ["script", "at", "turn", "states", "cell", "k"] ["script", "at", "turn", "states"] (defScope sWeight) := ⟨rfl, rfl, rfl, by decide +kernel, rfl, by decide +kernel, by decide +kernel⟩
theorem ok_weight {f : Addr} {fd : FuncData} (F : Fun K "_law_weight" "_law_weight" sWeight f fd) (B : Blt mg) (h1 : Has P w K mg base "_law_cell_at" 1 ["script", "k"] (spCell K)) :
    FnOk P w K mg base CX0 2 f fd ["script", "at", "turn", "states"] (spWeight K) := by
  refine F.ok scWeight (fun vs H Q E h => ?_) (fun cdv A outer s H vs Q E hr h => ?_)
  · obtain ⟨a, ns, at', t, n, rfl, _⟩ := h
    rfl
  · obtain ⟨a, ns, at', t, n, rfl, hS, h0, ht, n1, n2, q⟩ := h
    refine ⟨_, pss_cons (ps_set (i := 4) scWeight.nd rfl (Or.inl rfl) (pe_fn h1 hr (pa_cons (pv 0) (pa_cons (pe_op op_add (pv 1) pe_int) pa_nil))))
      (pss_cons (ps_for PassesOwn.never rfl (pi_range1 rfl B.range (pa_cons (pv 2) pa_nil)) (pg_name (i := 5) scWeight.nd rfl (Or.inl rfl))
        (pss_one (ps_set (i := 4) scWeight.nd rfl (Or.inl rfl) (pe_op op_fdiv (pv 4) (pv 3)))))
      (pss_one (ps_ret (pe_op op_mod (pv 4) (pv 3))))), ?_⟩
    refine ⟨_, rfl, _, rfl, _, _, rfl, rfl, a, ns, at' + 2, rfl, hS, by omega, ?_⟩
    refine ⟨_, rfl, (t : Int), rfl, by omega, by omega, for_range (fun i σ H2 => (∃ c x, σ = [some (.ref a), some (.int at'), some (.int t), some (.int n), some (.int c), x]) ∧ H2 = H) ⟨⟨_, _, rfl⟩, rfl⟩ ?_ ?_⟩
    · rintro i σ H2 hi ⟨⟨c, x, rfl⟩, rfl⟩
      exact ⟨_, rfl, _, rfl, _, _, rfl, rfl, ⟨by omega, by omega⟩, ⟨_, _, rfl⟩, rfl⟩
    · rintro σ H2 ⟨⟨c, x, rfl⟩, rfl⟩
      refine ⟨_, rfl, _, rfl, _, _, rfl, rfl, (by show (0 : Int) < n; omega), q _ (Int.emod_nonneg _ (by omega)) (Int.emod_lt_of_pos _ (by omega))⟩
theorem hide {A : Prop} (h : ∀ G : Prop, (A → G) → G) : A := h A id
theorem sealE {a u : TS} {D : Ends} {σ : L2.St} {H : Hp} (h : ∀ E : Ends, (∀ σ H, D.nx σ H → E.nx σ H) → (∀ v H, D.rt v H → E.rt v H) → tSeq a u E σ H) : tSeq a u D σ H := h D (fun _ _ x => x) fun _ _ x => x

theorem cut1 {a1 u : TS} {D : Ends} {σ : L2.St} {H : Hp} (h : ∀ T : TS, (∀ σ H, u D σ H → T D σ H) → (tSeq a1 T) D σ H) : (tSeq a1 u) D σ H := h u fun _ _ x => x
theorem cut2 {a1 a2 u : TS} {D : Ends} {σ : L2.St} {H : Hp} (h : ∀ T : TS, (∀ σ H, u D σ H → T D σ H) → (tSeq a1 (tSeq a2 T)) D σ H) : (tSeq a1 (tSeq a2 u)) D σ H := h u fun _ _ x => x
theorem cut4 {a1 a2 a3 a4 u : TS} {D : Ends} {σ : L2.St} {H : Hp} (h : ∀ T : TS, (∀ σ H, u D σ H → T D σ H) → (tSeq a1 (tSeq a2 (tSeq a3 (tSeq a4 T)))) D σ H) : (tSeq a1 (tSeq a2 (tSeq a3 (tSeq a4 u)))) D σ H := h u fun _ _ x => x
theorem cut6 {a1 a2 a3 a4 a5 a6 u : TS} {D : Ends} {σ : L2.St} {H : Hp} (h : ∀ T : TS, (∀ σ H, u D σ H → T D σ H) → (tSeq a1 (tSeq a2 (tSeq a3 (tSeq a4 (tSeq a5 (tSeq a6 T)))))) D σ H) : (tSeq a1 (tSeq a2 (tSeq a3 (tSeq a4 (tSeq a5 (tSeq a6 u)))))) D σ H := h u fun _ _ x => x

noncomputable def rowIn (b n : Int) (r : List Int) : Prop := (r.length : Int) = b ∧ ∀ e ∈ r, 0 ≤ e ∧ e < n
noncomputable def tabIn (b n : Int) (t : Tab) : Prop := (t.length : Int) = n ∧ ∀ r ∈ t, rowIn b n r
theorem ok_of {b n : Int} {ts : List Tab} (b1 : 2 ≤ b) (b2 : b ≤ 10) (n1 : 1 ≤ n) (n2 : n ≤ 12) (t1 : 1 ≤ ts.length) (t2 : ts.length ≤ 6) (h : ∀ t ∈ ts, tabIn b n t) : Ok b ts ∧ (nst ts : Int) = n := by
  have hn : (nst ts : Int) = n := by
    cases ts with
    | nil => simp at t1
    | cons t r => exact (h t List.mem_cons_self).1
  refine ⟨⟨b1, b2, t1, t2, by omega, by omega, fun t ht => ?_, fun t ht r hr => ((h t ht).2 r hr).1, fun t ht r hr e he => ?_⟩, hn⟩
  · have := (h t ht).1
    omega
  · have := ((h t ht).2 r hr).2 e he
    omega
theorem mem_snoc {α : Type} {P : α → Prop} {xs : List α} {x : α} (h : ∀ y ∈ xs, P y) (hx : P x) : ∀ y ∈ xs ++ [x], P y := fun y hy => by
  rcases List.mem_append.mp hy with hy | hy
  · exact h y hy
  · rw [List.mem_singleton.mp hy]
    exact hx
theorem scScheme : FnScope ["script", "at", "most", "head", "base", "states", "way", "digits", "tables", "turn", "table", "weight", "state", "row", "figure", "drawn", "some"] ["script", "at", "most"] (defScope sScheme) :=
  ⟨rfl, rfl, rfl, by decide +kernel, rfl, by decide +kernel, by decide +kernel⟩

noncomputable def stS (a m : Addr) (at' hd b n w d : Int) (lT : Addr) (o9 o10 o11 o12 o13 o14 o15 o16 : Option V) : L2.St :=
  [some (.ref a), some (.int at'), some (.ref m), some (.int hd), some (.int b), some (.int n), some (.int w), some (.int d), some (.ref lT), o9, o10, o11, o12, o13, o14, o15, o16]
theorem ok_scheme {f : Addr} {fd : FuncData} (F : Fun K "_law_scheme" "_law_scheme" sScheme f fd) (B : Blt mg) (h1 : Has P w K mg base "_law_cell_at" 1 ["script", "k"] (spCell K)) (h2 : Has P w K mg base "_law_stirred" 1 ["cell", "k"] spStir)
    (h3 : Has P w K mg base "_law_weight" 2 ["script", "at", "turn", "states"] (spWeight K)) : FnOk P w K mg base CX0 3 f fd ["script", "at", "most"] (spScheme K) := by
  refine F.ok scScheme (fun vs H Q E h => ?_) (fun cdv A outer s H vs Q E hr h => ?_)
  · obtain ⟨a, m, ns, at', m0, m1, m2, rfl, _⟩ := h
    rfl
  · obtain ⟨a, m, ns, at', m0, m1, m2, rfl, hS, h0, hm, a0, a1, b0, b1, c0, c1, q⟩ := h
    have r1 : Room 1 _ := hr.mono (by decide)
    have nd := scScheme.nd
    refine ⟨_, pss_cons (ps_set (i := 3) nd rfl (Or.inl rfl) (pe_fn h1 r1 (pa_cons (pv 0) (pa_cons (pv 1) pa_nil))))
      (pss_cons (ps_set (i := 4) nd rfl (Or.inl rfl) (pe_op op_add pe_int (pe_op op_mod (pe_op op_mod (pv 3) pe_int) (pe_op op_sub (pe_ix ix_tup (pv 2) pe_int (fun _ _ => rfl)) pe_int))))
      (pss_cons (ps_set (i := 5) nd rfl (Or.inl rfl) (pe_op op_add pe_int (pe_op op_mod (pe_op op_fdiv (pv 3) pe_int) (pe_ix ix_tup (pv 2) pe_int (fun _ _ => rfl)))))
      (pss_cons (ps_set (i := 6) nd rfl (Or.inl rfl) (pe_op op_mod (pe_fn h1 r1 (pa_cons (pv 0) (pa_cons (pe_op op_add (pv 1) pe_int) pa_nil))) pe_int))
      (pss_cons (ps_set (i := 7) nd rfl (Or.inl rfl) (pe_fn h1 r1 (pa_cons (pv 0) (pa_cons (pe_op op_add (pv 1) pe_int) pa_nil))))
      (pss_cons (ps_set (i := 8) nd rfl (Or.inl rfl) (pe_lst pa_nil))
      (pss_cons (ps_for PassesOwn.never rfl (pi_range1 rfl B.range (pa_cons (pe_op op_add pe_int (pe_op op_mod (pe_op op_fdiv (pv 3) pe_int) (pe_ix ix_tup (pv 2) pe_int (fun _ _ => rfl)))) pa_nil)) (pg_name (i := 9) nd rfl (Or.inl rfl))
        (pss_cons (ps_set (i := 10) nd rfl (Or.inl rfl) (pe_lst pa_nil))
        (pss_cons (ps_set (i := 11) nd rfl (Or.inl rfl) (pe_fn h3 hr (pa_cons (pv 0) (pa_cons (pv 1) (pa_cons (pv 9) (pa_cons (pv 5) pa_nil))))))
        (pss_cons (ps_for PassesOwn.never rfl (pi_range1 rfl B.range (pa_cons (pv 5) pa_nil)) (pg_name (i := 12) nd rfl (Or.inl rfl))
          (pss_cons (ps_set (i := 13) nd rfl (Or.inl rfl) (pe_lst pa_nil))
          (pss_cons (ps_for PassesOwn.never rfl (pi_range1 rfl B.range (pa_cons (pv 4) pa_nil)) (pg_name (i := 14) nd rfl (Or.inl rfl))
            (pss_cons (ps_set (i := 15) nd rfl (Or.inl rfl) (pe_fn h2 r1 (pa_cons (pe_fn h1 r1 (pa_cons (pv 0) (pa_cons (pe_op op_add (pv 1) pe_int) pa_nil)))
              (pa_cons (pe_op op_add (pe_op op_add (pe_op op_mul pe_int (pv 9)) (pe_op op_mul pe_int (pv 12))) (pv 14)) pa_nil))))
            (pss_cons (ps_set (i := 16) nd rfl (Or.inl rfl) (pe_lst (pa_cons (pe_op op_add (pv 12) (pe_op op_mul (pv 11) (pv 14))) (pa_cons (pe_op op_sub (pe_op op_mul (pv 11) (pv 14)) (pv 12)) (pa_cons (pv 15) (pa_cons (pv 7) pa_nil))))))
            (pss_cons (ps_expr (pe_bm PySem.F.plainAttrs_list PySem.F.slot_list_append PySem.F.type_list_append mt_append (pv 13) (pa_cons (pe_op op_mod (pe_ix ix_list (pv 16) (pv 6) (fun _ _ => rfl)) (pv 5)) pa_nil)))
            (pss_one (ps_set (i := 7) nd rfl (Or.inl rfl) (pe_op op_fdiv (pv 7) (pv 5))))))))
          (pss_one (ps_expr (pe_bm PySem.F.plainAttrs_list PySem.F.slot_list_append PySem.F.type_list_append mt_append (pv 10) (pa_cons (pe_callTy call_tuple_of rfl B.tTuple boot_tuple (pa_cons (pv 13) pa_nil)) pa_nil)))))))
        (pss_one (ps_expr (pe_bm PySem.F.plainAttrs_list PySem.F.slot_list_append PySem.F.type_list_append mt_append (pv 8) (pa_cons (pe_callTy call_tuple_of rfl B.tTuple boot_tuple (pa_cons (pv 10) pa_nil)) pa_nil))))))))
      (pss_one (ps_ret (pe_tup (pa_cons (pv 4) (pa_cons (pe_callTy call_tuple_of rfl B.tTuple boot_tuple (pa_cons (pv 8) pa_nil)) pa_nil))))))))))), ?_⟩
    -- head, base, states, way, digits, tables
    refine sealE fun D0 hN0 hR0 => ?_
    refine cut6 fun T1 hT1 => ?_
    refine ⟨_, rfl, _, rfl, a, ns, at', rfl, hS, h0, ?_⟩
    generalize cel ns at' = hd
    refine ⟨_, rfl, _, _, rfl, rfl, (by show (0 : Int) < 9; decide), _, rfl, m, _, 0, _, rfl, rfl, SqT.of hm, rfl, _, _, rfl, rfl, _, _, rfl, rfl, (by show (0 : Int) < m0 - 1; omega), _, _, rfl, rfl, ?_⟩
    have eb : ∃ b, b = 2 + hd % 9 % (m0 - 1) ∧ 2 ≤ b ∧ b ≤ m0 := ⟨_, rfl, by
      have := Int.emod_nonneg (hd % 9) (show m0 - 1 ≠ 0 by omega)
      omega, by
      have := Int.emod_lt_of_pos (hd % 9) (show 0 < m0 - 1 by omega)
      omega⟩
    obtain ⟨b, e, hb1, hb2⟩ := eb
    show gName 4 (V.int (2 + hd % 9 % (m0 - 1))) _ _ _
    rw [← e]
    clear e
    refine ⟨_, rfl, _, _, rfl, rfl, ⟨by decide, by decide⟩, _, rfl, m, _, 1, _, rfl, rfl, SqT.of hm, rfl, _, _, rfl, rfl, (by show (0 : Int) < m1; omega), _, _, rfl, rfl, ?_⟩
    have en : ∃ n, n = 1 + hd / 9 % m1 ∧ 1 ≤ n ∧ n ≤ m1 := ⟨_, rfl, by
      have := Int.emod_nonneg (hd / 9) (show m1 ≠ 0 by omega)
      omega, by
      have := Int.emod_lt_of_pos (hd / 9) (show 0 < m1 by omega)
      omega⟩
    obtain ⟨n, e, hn1, hn2⟩ := en
    show gName 5 (V.int (1 + hd / 9 % m1)) _ _ _
    rw [← e]
    clear e
    refine ⟨_, rfl, _, rfl, _, _, rfl, rfl, a, ns, at' + 1, rfl, hS, by omega, _, _, rfl, rfl, (by show (0 : Int) < 4; decide), ?_⟩
    have ew : ∃ wy, wy = cel ns (at' + 1) % 4 ∧ 0 ≤ wy ∧ wy < 4 := ⟨_, rfl, by omega, by omega⟩
    obtain ⟨wy, e, hw1, hw2⟩ := ew
    show gName 6 (V.int (cel ns (at' + 1) % 4)) _ _ _
    rw [← e]
    clear e
    refine ⟨_, rfl, _, rfl, _, _, rfl, rfl, a, ns, at' + 3, rfl, hS, by omega, ?_⟩
    generalize cel ns (at' + 3) = dg
    refine ⟨(by show 0 ≤ sizeLine; decide), fun lT hlT => hT1 _ _ ?_⟩
    -- for turn in range(..)
    refine ⟨_, rfl, _, _, rfl, rfl, ⟨by decide, by decide⟩, _, rfl, m, _, 2, _, rfl, rfl, SqT.of ((Same.new hlT) _ _ hm), rfl, _, _, rfl, rfl, (by show (0 : Int) < m2; omega), _, _, rfl, rfl, ?_⟩
    have et : ∃ tn : Nat, (tn : Int) = 1 + hd / 108 % m2 ∧ 1 ≤ tn ∧ (tn : Int) ≤ m2 := ⟨(1 + hd / 108 % m2).toNat, by
      have := Int.emod_nonneg (hd / 108) (show m2 ≠ 0 by omega)
      omega, by
      have := Int.emod_nonneg (hd / 108) (show m2 ≠ 0 by omega)
      omega, by
      have := Int.emod_lt_of_pos (hd / 108) (show 0 < m2 by omega)
      have := Int.emod_nonneg (hd / 108) (show m2 ≠ 0 by omega)
      omega⟩
    obtain ⟨tn, e, ht1, ht2⟩ := et
    show ∃ j : Int, [V.int (1 + hd / 108 % m2)] = [V.int j] ∧ _
    rw [← e]
    clear e
    have sb : (100 : Nat) < sizeLine := by decide
    obtain ⟨I1, hI1⟩ : ∃ I1 : Nat → L2.St → Hp → Prop, ∀ i σ H2, I1 i σ H2 ↔ ∃ (d : Int) (o9 o10 o11 o12 o13 o14 o15 o16 : Option V) (vts : List V) (ts : List Tab), σ = stS a m at' hd b n wy d lT o9 o10 o11 o12 o13 o14 o15 o16 ∧ Same H H2 ∧ H2 lT = some (.lst vts) ∧
        Paired (TabAt H2) vts ts ∧ ts.length = i ∧ ∀ t ∈ ts, tabIn b n t := ⟨_, fun _ _ _ => Iff.rfl⟩
    refine ⟨(tn : Int), rfl, by omega, by omega, for_range I1 ((hI1 _ _ _).2 ⟨dg, _, _, _, _, _, _, _, _, [], [], rfl, Same.new hlT, upd_same, .nil, rfl, fun t ht => by cases ht⟩) ?_ ?_⟩
    · intro i σ H2 hi hx
      refine hide fun Gz hGz => ?_
      obtain ⟨d, o9, o10, o11, o12, o13, o14, o15, o16, vts, ts, rfl, s2, hl2, hp2, len2, in2⟩ := (hI1 _ _ _).1 hx
      refine hGz ?_
      rw [show (tn : Int).toNat = tn by omega] at hi
      refine sealE fun D2 hN2 hR2 => ?_
      refine cut2 fun T2 hT2 => ?_
      refine ⟨(by show 0 ≤ sizeLine; decide), fun lR hlR => ?_⟩
      have s3 : Same H2 (upd H2 lR (.lst [])) := Same.new hlR
      refine ⟨_, rfl, _, rfl, _, rfl, _, rfl, a, ns, at', i, n, ?_, (s2.trans s3).seq hS, h0, by omega, hn1, by omega, fun wt w0 w1 => hT2 _ _ ?_⟩
      · rw [Int.zero_add]
        rfl
      have nlR : H lR = none := s2.free hlR
      have hlTR : lT ≠ lR := ne_of_none hl2 hlR
      obtain ⟨I2, hI2⟩ : ∃ I2 : Nat → L2.St → Hp → Prop, ∀ j σ H4, I2 j σ H4 ↔ ∃ (d : Int) (o12 o13 o14 o15 o16 : Option V) (vrs : List V) (t : Tab), σ = stS a m at' hd b n wy d lT (some (.int (0 + (i : Int)))) (some (.ref lR)) (some (.int wt)) o12 o13 o14 o15 o16 ∧
          Same H2 H4 ∧ H4 lR = some (.lst vrs) ∧ Paired (RowAt H4) vrs t ∧ t.length = j ∧ ∀ r ∈ t, rowIn b n r := ⟨_, fun _ _ _ => Iff.rfl⟩
      refine ⟨_, rfl, n, rfl, by omega, by omega, for_range I2 ((hI2 _ _ _).2 ⟨d, _, _, _, _, _, [], [], rfl, s3, upd_same, .nil, rfl, fun t ht => by cases ht⟩) ?_ ?_⟩
      · intro j σ H4 hj hx
        refine hide fun Gz hGz => ?_
        obtain ⟨d4, p12, p13, p14, p15, p16, vrs, t, rfl, s4, hl4, hp4, len4, in4⟩ := (hI2 _ _ _).1 hx
        refine hGz ?_
        refine sealE fun D3 hN3 hR3 => ?_
        refine cut1 fun T3 hT3 => ?_
        refine ⟨(by show 0 ≤ sizeLine; decide), fun lE hlE => hT3 _ _ ?_⟩
        have s5 : Same H4 (upd H4 lE (.lst [])) := Same.new hlE
        have nlE : H2 lE = none := s4.free hlE
        have hlRE : lR ≠ lE := ne_of_none hl4 hlE
        obtain ⟨I3, hI3⟩ : ∃ I3 : Nat → L2.St → Hp → Prop, ∀ k σ H6, I3 k σ H6 ↔ ∃ (d : Int) (o14 o15 o16 : Option V) (es : List Int), σ = stS a m at' hd b n wy d lT (some (.int (0 + (i : Int)))) (some (.ref lR)) (some (.int wt)) (some (.int (0 + (j : Int)))) (some (.ref lE)) o14 o15 o16 ∧
            Same H4 H6 ∧ H6 lE = some (.lst (es.map V.int)) ∧ es.length = k ∧ ∀ e ∈ es, 0 ≤ e ∧ e < n := ⟨_, fun _ _ _ => Iff.rfl⟩
        refine ⟨_, rfl, b, rfl, by omega, by omega, for_range I3 ((hI3 _ _ _).2 ⟨d4, _, _, _, [], rfl, s5, upd_same, rfl, fun t ht => by cases ht⟩) ?_ ?_⟩
        · intro k σ H6 hk hx
          refine hide fun Gz hGz => ?_
          obtain ⟨d6, q14, q15, q16, es, rfl, s6, hl6, len6, in6⟩ := (hI3 _ _ _).1 hx
          refine hGz ?_
          have sA : Same H H6 := (s2.trans s4).trans s6
          refine sealE fun D4 hN4 hR4 => ?_
          refine cut1 fun T4 hT4 => ?_
          refine ⟨_, rfl, _, rfl, _, _, rfl, rfl, a, ns, at' + 3, rfl, sA.seq hS, by omega, _, rfl, _, _, rfl, rfl, .inl ⟨by decide, by decide⟩, _, rfl, _, _, rfl, rfl, .inl ⟨by decide, by decide⟩, _, _, rfl, rfl, _, rfl, _, _, rfl, rfl, _, _, rfl, fun dr => hT4 _ _ (cut1 fun T5 hT5 => ?_)⟩
          refine ⟨_, rfl, _, rfl, _, rfl, _, _, rfl, rfl, .inl ⟨by omega, by omega⟩, _, _, rfl, rfl, _, rfl, _, rfl, _, _, rfl, rfl, .inl ⟨by omega, by omega⟩, _, rfl, _, _, rfl, rfl, _, rfl, _, rfl, (by show 4 ≤ sizeLine; decide), fun lS hlS => hT5 _ _ ?_⟩
          have s7 := Same.new (o := HO.lst [V.int (0 + (j : Int) + wt * (0 + (k : Int))), V.int (wt * (0 + (k : Int)) - (0 + (j : Int))), V.int dr, V.int d6]) hlS
          have hsome : ∃ z, atI [V.int (0 + (j : Int) + wt * (0 + (k : Int))), V.int (wt * (0 + (k : Int)) - (0 + (j : Int))), V.int dr, V.int d6] wy = some (V.int z) := by
            have : wy = 0 ∨ wy = 1 ∨ wy = 2 ∨ wy = 3 := by omega
            rcases this with rfl | rfl | rfl | rfl
            · exact ⟨_, rfl⟩
            · exact ⟨_, rfl⟩
            · exact ⟨_, rfl⟩
            · exact ⟨_, rfl⟩
          obtain ⟨z, hz⟩ := hsome
          refine ⟨_, rfl, .inl ⟨rfl, _, SqL.of (s7 _ _ hl6)⟩, _, rfl, _, rfl, lS, _, wy, _, rfl, rfl, SqL.of upd_same, hz, _, rfl, _, _, rfl, rfl, (by show (0 : Int) < n; omega), lE, _, _, rfl, rfl, s7 _ _ hl6, ?_, ?_⟩
          · rw [List.length_map]
            omega
          · refine ⟨_, rfl, _, rfl, _, _, rfl, rfl, ⟨by omega, by omega⟩, ?_⟩
            refine hN4 _ _ ((hI3 _ _ _).2 ?_)
            refine ⟨_, _, _, _, es ++ [z % n], rfl, (s6.trans s7).put (hlE), ?_, by simp [len6], mem_snoc in6 ⟨Int.emod_nonneg _ (by omega), Int.emod_lt_of_pos _ (by omega)⟩⟩
            rw [upd_same, List.map_append]
            rfl
        · intro σ H6 hx
          refine hide fun Gz hGz => ?_
          obtain ⟨d6, q14, q15, q16, es, rfl, s6, hl6, len6, in6⟩ := (hI3 _ _ _).1 hx
          refine hGz ?_
          have hl6' : H6 lR = some (.lst vrs) := s6 _ _ hl4
          refine ⟨_, rfl, .inl ⟨rfl, _, SqL.of hl6'⟩, _, rfl, lE, _, rfl, .inl ⟨SqL.of hl6, fun lU hlU => ?_⟩⟩
          have s8 := Same.new (o := HO.tup (es.map V.int)) hlU
          refine ⟨lR, vrs, _, rfl, rfl, s8 _ _ hl6', ?_, ?_⟩
          · have := paired_length hp4
            omega
          · have sB : Same H4 (upd H6 lU (.tup (es.map V.int))) := s6.trans s8
            have nR : H2 lR = none := hlR
            refine hN3 _ _ ((hI2 _ _ _).2 ?_)
            refine ⟨d6, _, _, _, _, _, vrs ++ [.ref lU], t ++ [es], rfl, (s4.trans sB).put nR, upd_same, paired_snoc (paired_imp (fun x r hx => ?_) hp4) ?_, by simp [len4], mem_snoc in4 ⟨?_, in6⟩⟩
            · obtain ⟨y, e, hy⟩ := hx
              refine ⟨y, e, ?_⟩
              have hy' := sB _ _ hy
              rw [upd_ne]
              · exact hy'
              · exact ne_of hy' (s8 _ _ hl6') (by intro z; cases z)
            · refine ⟨lU, rfl, ?_⟩
              rw [upd_ne (ne_of_none hl6' hlU).symm]
              exact upd_same
            · omega
      · intro σ H4 hx
        refine hide fun Gz hGz => ?_
        obtain ⟨d4, p12, p13, p14, p15, p16, vrs, t, rfl, s4, hl4, hp4, len4, in4⟩ := (hI2 _ _ _).1 hx
        refine hGz ?_
        have hl4' : H4 lT = some (.lst vts) := s4 _ _ hl2
        refine ⟨_, rfl, .inl ⟨rfl, _, SqL.of hl4'⟩, _, rfl, lR, _, rfl, .inl ⟨SqL.of hl4, fun lU hlU => ?_⟩⟩
        have s8 := Same.new (o := HO.tup vrs) hlU
        refine ⟨lT, vts, _, rfl, rfl, s8 _ _ hl4', ?_, ?_⟩
        · have := paired_length hp2
          omega
        · have sB : Same H4 (upd H4 lU (.tup vrs)) := s8
          have keepT : ∀ {x : Addr} {u : List V}, (upd H4 lU (.tup vrs)) x = some (.tup u) → upd (upd H4 lU (.tup vrs)) lT (.lst (vts ++ [.ref lU])) x = some (.tup u) := fun {x u} hx => by
            rw [upd_ne]
            · exact hx
            · exact ne_of hx (s8 _ _ hl4') (by intro z; cases z)
          refine hN2 _ _ ((hI1 _ _ _).2 ?_)
          refine ⟨d4, _, _, _, _, _, _, _, _, vts ++ [.ref lU], ts ++ [t], rfl, (s2.trans (s4.trans sB)).put hlT, upd_same, paired_snoc (paired_imp (fun x r hx => ?_) hp2) ?_, by simp [len2], mem_snoc in2 ⟨?_, in4⟩⟩
          · obtain ⟨y, us, e, hy, hp⟩ := hx
            refine ⟨y, us, e, keepT (sB _ _ (s4 _ _ hy)), paired_imp (fun x' r' hx' => ?_) hp⟩
            obtain ⟨y', e', hy'⟩ := hx'
            exact ⟨y', e', keepT (sB _ _ (s4 _ _ hy'))⟩
          · refine ⟨lU, vrs, rfl, keepT upd_same, paired_imp (fun x' r' hx' => ?_) hp4⟩
            obtain ⟨y', e', hy'⟩ := hx'
            exact ⟨y', e', keepT (sB _ _ hy')⟩
          · omega
    · intro σ H2 hx
      refine hide fun Gz hGz => ?_
      obtain ⟨d, o9, o10, o11, o12, o13, o14, o15, o16, vts, ts, rfl, s2, hl2, hp2, len2, in2⟩ := (hI1 _ _ _).1 hx
      refine hGz ?_
      refine ⟨_, rfl, _, rfl, lT, _, rfl, .inl ⟨SqL.of hl2, fun lU hlU => ⟨(by show 2 ≤ sizeLine; decide), fun lV hlV => ?_⟩⟩⟩
      have s8 := Same.new (o := HO.tup vts) hlU
      have s9 := Same.new (o := HO.tup [V.int b, V.ref lU]) hlV
      have hl : ts.length = tn := by omega
      obtain ⟨ok, hn⟩ := ok_of hb1 (by omega) hn1 (by omega) (by omega) (by omega) in2
      refine hR0 _ _ (q _ b ts _ ((s2.trans s8).trans s9) ⟨lV, _, rfl, upd_same, lU, vts, rfl, s9 _ _ upd_same, paired_imp (fun x r hx => hx.same (s8.trans s9)) hp2⟩ ok hb2 (by omega) (by omega))


end
end My

namespace My

inductive Kd where
  | one | swap | twin | jump | out
  deriving DecidableEq

noncomputable def figsOf (b : Int) : List Int := (List.range b.toNat).map fun k : Nat => (k : Int)
noncomputable def fstI (w : List Int) : Int := w.headD 0
noncomputable def lstI (w : List Int) : Int := w.getLastD 0
noncomputable def midI (w : List Int) : List Int := (w.drop 1).take (w.length - 2)
noncomputable def othersI (b f : Int) : List Int := (figsOf b).filter fun g => decide (g ≠ f)

noncomputable def wr (b : Int) (k : Kd) (w : List Int) : List (List Int) := match k with
  | .out => [[]]
  | .one => (othersI b (fstI w)).map fun g => [g]
  | .twin => if fstI w = lstI w then (othersI b (fstI w)).map fun g => [g, g] else []
  | .swap | .jump => if fstI w = lstI w then [] else [[lstI w] ++ midI w ++ [fstI w]]
noncomputable def spliced (fs : List Int) (p n : Nat) (m : List Int) : List Int := fs.take p ++ m ++ fs.drop (p + n)

noncomputable def mk (b : Int) (k : Kd) (w : List Int) : List (List Int) :=
  ((figsOf b).flatMap fun g => (if k = .one ∧ g ≠ fstI w then [[g]] else []) ++ (if k = .twin ∧ fstI w = w.getD 1 0 ∧ g ≠ fstI w then [[g, g]] else [])) ++
  (if k = .out then [[]] else []) ++ (if (k = .swap ∨ k = .jump) ∧ fstI w ≠ lstI w then [w.reverse] else [])
end My

set_option maxHeartbeats 1000000

namespace L2
open PySem PySem.Spec PyProof.Rows
theorem ifN {c : Bool} {A B : Prop} (h : c = false) (b : B) : if c = true then A else B := by
  subst h
  exact iteF b
theorem ifY {c : Bool} {A B : Prop} (h : c = true) (a : A) : if c = true then A else B := by
  subst h
  exact iteT a
theorem smallM {n : Nat} (h : n ≤ 1000000) : n < sizeLine := Nat.lt_of_le_of_lt h (by rw [sizeLine_eq]; decide)

theorem block_rel {J : It} {H1 : Hp} {n : Nat} {item : Nat → V} {js : List (Option Nat)} {i : Nat} {tc : TT} {te : TE} {σ : St} {R : VK} (Wk : Walk J H1 n (fun k x _ => x = item k)) (hn : n ≤ 1000) (hi : (cst js σ)[i]? = some none)
    (p : Nat → Bool) (Y : Addr → Nat → V → Hp → Prop)
    (mono : ∀ D k v ys H H', (∀ b o, b ≠ D → H b = some o → H' b = some o) → H D = some (.lst ys) → Y D k v H → Y D k v H')
    (test : ∀ k H2 (Q : Bool → Hp → Prop), k < n → Same H1 H2 → (∀ H3, Same H2 H3 → Q (p k) H3) → tc ((cst js σ).set i (some (item k))) H2 Q)
    (step : ∀ D k ys H2 (Q : VK), k < n → p k = true → H1 D = none → H2 D = some (.lst ys) → Same H1 H2 → (∀ y H3, Same H2 H3 → Y D k y H3 → Q y H3) → te ((cst js σ).set i (some (item k))) H2 Q)
    (fin : ∀ D ys H2, H1 D = none → Same H1 H2 → H2 D = some (.lst ys) → Paired (fun y k => Y D k y H2) ys ((List.range n).filter p) → R (.ref D) H2) : tBlock js (gName i) tc te σ R J H1 := by
  refine block_gen Wk (fun D k ys H2 => H2 D = some (.lst ys) ∧ Paired (fun y k => Y D k y H2) ys ((List.range k).filter p)) (fun D hD => ⟨upd_same, .nil⟩) (fun D k x ys H1' H2 Keep Drop hD hk s1 s2 hys e ex keep drop => ?_) (fun D ys H2 hD s hys e => fin D ys H2 hD s hys e.2)
  subst ex
  obtain ⟨e0, e⟩ := e
  have s := s1.trans s2
  have hl0 : ys.length ≤ k := by
    rw [My.paired_length e]
    exact Nat.le_trans (List.length_filter_le _ _) (by simp)
  have hl : ys.length < sizeLine := Nat.lt_of_le_of_lt hl0 (small1000 (by omega))
  have e1 : List.range (k + 1) = List.range k ++ [k] := List.range_succ
  refine ⟨Ext.set hi, test k H2 _ hk s fun H3 s3 => ?_⟩
  have up : ∀ {H4}, Same H2 H4 → Paired (fun y k => Y D k y H4) ys ((List.range k).filter p) := fun {H4} s4 => My.paired_imp (fun y j hy => mono D j y ys H1' H4 (fun b o _ hb => s4 _ _ (s2 _ _ hb)) e0 hy) e
  cases hp : p k with
  | true =>
    rw [if_pos rfl]
    refine step D k ys H3 _ hk hp hD (s3 _ _ hys) (s.trans s3) fun y H4 s4 hy => keep _ _ (s3.trans s4) hl ⟨upd_same, ?_⟩
    rw [e1, List.filter_append]
    have hD4 : H4 D = some (.lst ys) := s4 _ _ (s3 _ _ hys)
    have fr : ∀ b o, b ≠ D → H4 b = some o → (upd H4 D (.lst (ys ++ [y]))) b = some o := fun b o hb h => by
      rw [upd_ne hb]
      exact h
    have : [k].filter p = [k] := by simp [hp]
    rw [this]
    exact My.paired_snoc (My.paired_imp (fun y j hy => mono D j y ys H4 _ fr hD4 hy) (up (s3.trans s4))) (mono D k y ys H4 _ fr hD4 hy)
  | false =>
    rw [if_neg (by decide)]
    refine drop _ s3 ⟨s3 _ _ hys, ?_⟩
    have : [k].filter p = [] := by simp [hp]
    rw [e1, List.filter_append, this, List.append_nil]
    exact up s3
end L2
namespace My
open PySem L2 PyProof.Rows

noncomputable def WD : List (Str × Int) := [("one", 1), ("swap", 2), ("twin", 2), ("jump", 3), ("out", 1)]
structure WidthsAt (P : Program) (w : World) (K : PySem.W.Frag) (mg : Str → Option Value) : Prop where
  at' : ∃ a, mg "WIDTHS" = some (.ref a) ∧ TabK P w K a WD

noncomputable def LL (H : Hp) (as : List Addr) (yss : List (List Int)) : Prop := Paired (fun a ys => H a = some (.lst (ys.map V.int))) as yss

structure Told (H0 H : Hp) (D : Addr) (as : List Addr) (yss : List (List Int)) : Prop where
  at' : H D = some (.lst (as.map V.ref))
  newD : H0 D = none
  nd : as.Nodup
  new : ∀ a ∈ as, H0 a = none ∧ a ≠ D
  ll : LL H as yss
theorem int_getD {ns : List Int} {k : Nat} (h : k < ns.length) : (ns.map V.int).getD k .non = V.int (ns.getD k 0) := by
  simp [List.getD_eq_getElem?_getD, List.getElem?_map, List.getElem?_eq_getElem h]

theorem cut_upto (xs : List V) (k : Nat) : cutV xs none (some (k : Int)) = xs.take k := by
  unfold cutV
  rw [HT.sIx_none, HT.sIx_nat, List.drop_zero, Nat.sub_zero, ← List.take_take, List.take_length]
theorem cut_from (xs : List V) (k : Nat) : cutV xs (some (k : Int)) none = xs.drop k := by
  unfold cutV
  rw [HT.sIx_none, HT.sIx_nat]
  by_cases h : k ≤ xs.length
  · rw [Nat.min_eq_left h, List.take_of_length_le (by simp)]
  · rw [Nat.min_eq_right (by omega), List.drop_eq_nil_of_le (by omega), List.drop_eq_nil_of_le (by omega), List.take_nil]
theorem cut_run (xs : List V) {p q : Nat} (h : q ≤ xs.length) : cutV xs (some (p : Int)) (some (q : Int)) = (xs.drop p).take (q - p) := by
  unfold cutV
  rw [HT.sIx_nat, HT.sIx_nat, Nat.min_eq_left h]
  by_cases hp : p ≤ xs.length
  · rw [Nat.min_eq_left hp]
  · rw [Nat.min_eq_right (by omega), List.drop_eq_nil_of_le (by omega), List.drop_eq_nil_of_le (by omega), List.take_nil, List.take_nil]

section
variable {P : Program} {w : World} {K : PySem.W.Frag} {mg : Str → Option Value} {base : Heap}
end
end My


set_option maxHeartbeats 2000000
namespace My
open PySem L2 PyProof.Rows
noncomputable def kitRow (K : PySem.W.Frag) (C : Addr) : List Addr → List Bool → Bool
  | c :: cs, b :: bs => PySem.W.kitOne K (.ref C) (.ref c) == some b && kitRow K C cs bs
  | _, _ => true
noncomputable def errOne (K : PySem.W.Frag) (S : Addr) (cs : List Addr) (C : Addr) (bs : List Bool) : Bool :=
  PySem.W.excIn K C bmVE "ValueError.__new__" && ((mroT K C).contains (.ref S) && (PySem.W.findIn K (.ref C) "__getattribute__" == some (some (.builtin "BaseException.__getattribute__")) && (PySem.W.findIn K (.ref C) "__getattr__" == some none && (PySem.W.findIn K (.ref C) "__class__" == some (some (.builtin "object.__class__")) && (PySem.W.mroIn K C (.type "BaseException") == some true && (PySem.W.mroIn K C (.type "object") == some true && ((PySem.W.clsIn K C).isSome && (kitRow K C cs bs && PySem.W.kitOne K (.ref C) (.type "ValueError") == some true))))))))
structure ErrOk (K : PySem.W.Frag) (S : Addr) (cs : List Addr) (C : Addr) (bs : List Bool) : Prop where
  exc : ExcAt K C (mroT K C)
  has : (mroT K C).contains (.ref S) = true
  is : ExcIs K C
  kit : kitRow K C cs bs = true
  ve : PySem.W.kitOne K (.ref C) (.type "ValueError") = some true
theorem errOne_ok {K : PySem.W.Frag} {S C : Addr} {cs : List Addr} {bs : List Bool} (e : errOne K S cs C bs = true) : ErrOk K S cs C bs := by
  unfold errOne at e
  simp only [Bool.and_eq_true, beq_iff_eq] at e
  obtain ⟨e2, e3, e4, e5, e6, e7, e8, e9, e10, e11⟩ := e
  exact ⟨⟨e2, rfl⟩, e3, ⟨e4, e5, e6, e7, e8, e9⟩, e10, e11⟩
theorem kitRow_cons {K : PySem.W.Frag} {C c : Addr} {cs : List Addr} {b : Bool} {bs : List Bool} (h : kitRow K C (c :: cs) (b :: bs) = true) : PySem.W.kitOne K (.ref C) (.ref c) = some b ∧ kitRow K C cs bs = true := by
  unfold kitRow at h
  simpa only [Bool.and_eq_true, beq_iff_eq] using h
noncomputable def errsAB (K : PySem.W.Frag) (S c1 c2 c3 c4 c5 c6 : Addr) : Bool :=
  PySem.W.excIn K S bmVE "ValueError.__new__" && (errOne K S [c1, c2, c3, c4, c5, c6] c1 [true, false, false, false, false, false] && (errOne K S [c1, c2, c3, c4, c5, c6] c2 [false, true, false, false, false, false] && (errOne K S [c1, c2, c3, c4, c5, c6] c3 [false, false, true, false, false, false] &&
    (errOne K S [c1, c2, c3, c4, c5, c6] c4 [false, false, false, true, false, false] && (errOne K S [c1, c2, c3, c4, c5, c6] c5 [false, false, false, false, true, false] && errOne K S [c1, c2, c3, c4, c5, c6] c6 [false, false, false, false, false, true])))))

structure ErrsA (K : PySem.W.Frag) (mg : Str → Option Value) : Prop where
  at' : ∃ S c1 c2 c3 c4 c5 c6, mg "SlipError" = some (.ref S) ∧ mg "NoScheme" = some (.ref c1) ∧ mg "OtherBase" = some (.ref c2) ∧ mg "NoRoom" = some (.ref c3) ∧ mg "NoKind" = some (.ref c4) ∧ mg "NoFigure" = some (.ref c5) ∧ mg "NoNote" = some (.ref c6) ∧ mg "ValueError" = none ∧
    ExcAt K S (mroT K S) ∧ ErrOk K S [c1, c2, c3, c4, c5, c6] c1 [true, false, false, false, false, false] ∧ ErrOk K S [c1, c2, c3, c4, c5, c6] c2 [false, true, false, false, false, false] ∧ ErrOk K S [c1, c2, c3, c4, c5, c6] c3 [false, false, true, false, false, false] ∧
    ErrOk K S [c1, c2, c3, c4, c5, c6] c4 [false, false, false, true, false, false] ∧ ErrOk K S [c1, c2, c3, c4, c5, c6] c5 [false, false, false, false, true, false] ∧ ErrOk K S [c1, c2, c3, c4, c5, c6] c6 [false, false, false, false, false, true]
theorem errsA_mk {K : PySem.W.Frag} {mg : Str → Option Value} {S c1 c2 c3 c4 c5 c6 : Addr} (m0 : mg "SlipError" = some (.ref S)) (m1 : mg "NoScheme" = some (.ref c1)) (m2 : mg "OtherBase" = some (.ref c2)) (m3 : mg "NoRoom" = some (.ref c3)) (m4 : mg "NoKind" = some (.ref c4)) (m5 : mg "NoFigure" = some (.ref c5)) (m6 : mg "NoNote" = some (.ref c6)) (mv : mg "ValueError" = none) (e : errsAB K S c1 c2 c3 c4 c5 c6 = true) : ErrsA K mg := by
  unfold errsAB at e
  simp only [Bool.and_eq_true] at e
  obtain ⟨e0, e1, e2, e3, e4, e5, e6⟩ := e
  exact ⟨S, c1, c2, c3, c4, c5, c6, m0, m1, m2, m3, m4, m5, m6, mv, ⟨e0, rfl⟩, errOne_ok e1, errOne_ok e2, errOne_ok e3, errOne_ok e4, errOne_ok e5, errOne_ok e6⟩
structure BltM (mg : Str → Option Value) : Prop where
  min : mg "min" = none
  max : mg "max" = none
end My


set_option maxHeartbeats 2000000
namespace L2
open PySem PySem.Spec PyProof.Rows
end L2
namespace My
open PySem L2 PyProof.Rows
structure BltT (mg : Str → Option Value) : Prop where
  tStr : mg "str" = none
  tDict : mg "dict" = none

noncomputable def numT (i : Int) : Str := Str.ofString (toString i)

noncomputable def lineT (ns : List Int) : Str := Str.join " " (ns.map numT)
theorem numT_len {i : Int} (h0 : 0 ≤ i) (h1 : i ≤ 12) : (numT i).length ≤ 2 := by
  have : i = 0 ∨ i = 1 ∨ i = 2 ∨ i = 3 ∨ i = 4 ∨ i = 5 ∨ i = 6 ∨ i = 7 ∨ i = 8 ∨ i = 9 ∨ i = 10 ∨ i = 11 ∨ i = 12 := by omega
  rcases this with h | h | h | h | h | h | h | h | h | h | h | h | h <;> (subst h; decide +kernel)
section
variable {P : Program} {w : World} {K : PySem.W.Frag} {mg : Str → Option Value} {base : Heap}
end
end My


set_option maxHeartbeats 2000000
namespace My
open PySem L2 PyProof.Rows

noncomputable def KN : List (Str × Int) := (List.range 13).map fun k : Nat => (numT (k : Int), (k : Int))
theorem KN_nodup : (KN.map (·.1)).Nodup := by decide +kernel
theorem refs_of {H : Hp} {f : Nat → Str × Int} : ∀ {ys : List V} {ks : List Nat}, Paired (fun y k => ∃ a, y = V.ref a ∧ H a = some (.tup [.str (f k).1, .int (f k).2])) ys ks → ∃ as : List Addr, ys = as.map V.ref ∧ Paired (fun a p => H a = some (.tup [.str p.1, .int p.2])) as (ks.map f)
  | _, _, .nil => ⟨[], rfl, .nil⟩
  | _, _, .cons ⟨a, e, h⟩ r => by
    obtain ⟨as, e2, h2⟩ := refs_of r
    exact ⟨a :: as, by rw [e, e2]; rfl, .cons h h2⟩
noncomputable def spByWord (P : Program) (w : World) : Sp := fun vs H Q _ => vs = [] ∧ ∀ d H', Same H H' → H' d = some (.ext (tφ P w d KN)) → Q (.ref d) H'
section
variable {P : Program} {w : World} {K : PySem.W.Frag} {mg : Str → Option Value} {base : Heap}
noncomputable abbrev s_numbers_by_word : Stmt := top 20
theorem sc_numbers_by_word : FnScope [] [] (defScope s_numbers_by_word) := ⟨rfl, rfl, rfl, by decide +kernel, rfl, by decide +kernel, by decide +kernel⟩
theorem ok_numbers_by_word {f : Addr} {fd : FuncData} (F : Fun K "numbers_by_word" "numbers_by_word" s_numbers_by_word f fd) (B : Blt mg) (Nm : Nums mg) (Tz : BltT mg)  :
    FnOk P w K mg base CX0 1 f fd [] (spByWord P w) := by
  refine F.ok sc_numbers_by_word (fun vs H Q E h => ?_) (fun cdv A outer s H vs Q E hr h => ?_)
  · obtain ⟨rfl, _⟩ := h
    rfl
  · obtain ⟨rfl, q⟩ := h
    have nd := sc_numbers_by_word.nd
    obtain ⟨t12, m12⟩ := Nm.ms
    refine ⟨_, (pss_one (ps_ret (pe_callTy (call_dictP rfl) rfl Tz.tDict boot_dict (pa_cons (pe_comp (N := ["number"]) (js := [none]) rfl rfl (pi_range1 rfl B.range (pa_cons (pe_op op_add (pe_glob (v := .int 12) rfl m12 ⟨_, rfl⟩) pe_int) pa_nil)) (fun _ _ _ _ => (pg_name (i := 0) (ndOf (N := ["number"]) (by decide +kernel)) rfl (Or.inl rfl))) (fun _ _ _ _ => pts_nil) (fun _ _ _ _ => (pe_tup (pa_cons (pe_callTy call_str_int rfl Tz.tStr boot_str (pa_cons (pv 0) pa_nil)) (pa_cons (pv 0) pa_nil))))) pa_nil)))), ?_⟩
    refine ⟨_, _, rfl, rfl, 13, rfl, by omega, by omega, ?_⟩
    refine block_rel (Walk.rng 0 13) (by omega) rfl (fun _ => true) (fun D k y H' => ∃ a, y = V.ref a ∧ H' a = some (.tup [.str (numT (k : Int)), .int (k : Int)])) (fun D k v ys H1 H2 fr hD h => ?_) (fun k H3 Q' _ _ q' => q' _ (Same.refl _)) (fun D k ys H3 Q' hk' _ hD hD3 s3 q' => ?_) (fun D ys H3 hD s3 hDl pr => ?_)
    · obtain ⟨a, e, h⟩ := h
      exact ⟨a, e, fr _ _ (ne_of h hD (by intro z; cases z)) h⟩
    · refine ⟨_, rfl, _, rfl, ?_, _, rfl, (by show 2 ≤ sizeLine; decide), fun l hl => q' _ _ (Same.new hl) ⟨l, rfl, ?_⟩⟩
      · have h2 : (0 + (k : Int)).natAbs ≤ 12 := by omega
        exact Nat.lt_of_le_of_lt (Nat.log2_le_self _) (by omega)
      · rw [upd_same, Int.zero_add]
        rfl
    · rw [List.filter_eq_self.mpr (fun _ _ => rfl)] at pr
      obtain ⟨as, e, h2⟩ := refs_of (f := fun k : Nat => (numT (k : Int), (k : Int))) pr
      rw [e] at hDl
      refine ⟨D, as, KN, rfl, hDl, h2, KN_nodup, Nat.le_of_lt (small1000 (by decide)), fun d hd => q d _ (s3.trans (Same.new hd)) upd_same⟩
end
end My


set_option maxHeartbeats 2000000
namespace My
open PySem L2 PyProof.Rows
theorem numT_look {i : Int} (h0 : 0 ≤ i) (h1 : i ≤ 12) : PySem.Spec.lookup (.str (numT i)) (tabD KN) = some (.int i) := by
  have : i = 0 ∨ i = 1 ∨ i = 2 ∨ i = 3 ∨ i = 4 ∨ i = 5 ∨ i = 6 ∨ i = 7 ∨ i = 8 ∨ i = 9 ∨ i = 10 ∨ i = 11 ∨ i = 12 := by omega
  rcases this with h | h | h | h | h | h | h | h | h | h | h | h | h <;> (subst h; with_unfolding_all rfl)
end My


set_option maxHeartbeats 4000000
namespace L2
open PySem PySem.Spec PyProof.Rows
theorem pe_fn0 {X : Cx} {x : Str} {p pos : Pos} {k : Nat} {ps : List Str} {sp : Sp} (h : Has X.prog X.w X.K X.mg X.base x k ps sp) (hr : Room k X.A) (hg : Gl X x := by rfl) (hdb : (x == ("__debug__" : Str)) = false := by decide) : PE X (.Call (.Name x p) [] [] pos) (tCall sp [] E0 tNil) := by
  obtain ⟨f, fd, hm, hk, hb, F⟩ := h
  exact pe_call0 F hr hg hm hk hb .nil pass0 hdb
theorem sl_listK {X : Cx} (K : PySem.W.Frag) (hK : X.K = K := by rfl) : SlR X (rSlL K) := hK ▸ sl_list
theorem call_tuple_ofK {X : Cx} (K : PySem.W.Frag) (hK : X.K = K := by rfl) : CallR X (.type "tuple") (fun xs H Q => ∃ p ys, xs = [.ref p] ∧ ((SqL K H p ys ∧ ∀ l, H l = none → Q (.ref l) (upd H l (.tup ys))) ∨ (SqT K H p ys ∧ Q (.ref p) H))) := hK ▸ call_tuple_of
theorem str_alen (a b : Str) : (a ++ b).length = a.length + b.length := by
  show (a.cps ++ b.cps).size = _
  rw [Array.size_append]
  rfl
theorem apT {s t : Str} {m n : Nat} (h1 : s.length ≤ m) (h2 : t.length ≤ n) : (s ++ t).length ≤ m + n := by
  rw [str_alen]
  omega
end L2
namespace My
open PySem L2 PyProof.Rows
theorem szT {s t : Str} {m n : Nat} (h1 : s.length ≤ m) (h2 : t.length ≤ n) (h : m + n ≤ 1000000) : s.length + t.length ≤ sizeLine := Nat.le_of_lt (smallM (by omega))
theorem TabAt.frN {H H' : Hp} {D : Addr} {ys : List V} {v : V} {t : Tab} (fr : ∀ b o, b ≠ D → H b = some o → H' b = some o) (hD : H D = some (.lst ys)) (h : TabAt H v t) : TabAt H' v t := by
  have tp : ∀ a xs, H a = some (.tup xs) → H' a = some (.tup xs) := fun a xs e => fr _ _ (ne_of e hD (by intro z; cases z)) e
  obtain ⟨a2, vs2, e2, h2, p2⟩ := h
  refine ⟨a2, vs2, e2, tp _ _ h2, paired_imp (fun x r hx => ?_) p2⟩
  obtain ⟨a3, e3, h3⟩ := hx
  exact ⟨a3, e3, tp _ _ h3⟩
theorem paired_mapN {α β γ : Type} {F : α → γ → Prop} {G : α → β → Prop} {f : β → γ} (h : ∀ a b, G a b → F a (f b)) : ∀ {l : List α} {m : List β}, Paired G l m → Paired F l (m.map f)
  | _, _, .nil => .nil
  | _, _, .cons a t => .cons (h _ _ a) (paired_mapN h t)
theorem paired_takeN {α β : Type} {F : α → β → Prop} : ∀ {l : List α} {m : List β}, Paired F l m → ∀ n, Paired F (l.take n) (m.take n)
  | _, _, .nil, n => by rw [List.take_nil, List.take_nil]; exact .nil
  | _, _, .cons _ _, 0 => .nil
  | _, _, .cons h t, n + 1 => .cons h (paired_takeN t n)
theorem paired_dropN {α β : Type} {F : α → β → Prop} : ∀ {l : List α} {m : List β}, Paired F l m → ∀ n, Paired F (l.drop n) (m.drop n)
  | _, _, .nil, n => by rw [List.drop_nil, List.drop_nil]; exact .nil
  | _, _, .cons h t, 0 => .cons h t
  | _, _, .cons _ t, n + 1 => paired_dropN t n
theorem drop_app {α : Type} : ∀ (t r : List α) (m : Nat), (t ++ r).drop (t.length + m) = r.drop m
  | [], r, m => by rw [List.length_nil, Nat.zero_add]; rfl
  | x :: t, r, m => by
    rw [List.length_cons, show t.length + 1 + m = (t.length + m) + 1 by omega, List.cons_append, List.drop_succ_cons]
    exact drop_app t r m
theorem flat_cut {n : Nat} : ∀ {ts : List Tab} (k : Nat), (∀ t ∈ ts, t.length = n) → (ts.flatten.drop (k * n)).take n = ts.getD k []
  | [], k, _ => by simp
  | t :: ts, 0, h => by
    have e := h t List.mem_cons_self
    rw [Nat.zero_mul, List.drop_zero, List.flatten_cons, List.take_append_of_le_length (by omega), List.take_of_length_le (by omega)]
    rfl
  | t :: ts, k + 1, h => by
    have e := h t List.mem_cons_self
    rw [List.flatten_cons, Nat.add_mul, Nat.one_mul, Nat.add_comm, show n + k * n = t.length + k * n by omega, drop_app, flat_cut k fun x hx => h x (List.mem_cons_of_mem _ hx)]
    rfl
theorem flat_len {n : Nat} : ∀ {ts : List Tab}, (∀ t ∈ ts, t.length = n) → ts.flatten.length = ts.length * n
  | [], _ => by simp
  | t :: ts, h => by
    rw [List.flatten_cons, List.length_append, h t List.mem_cons_self, flat_len fun x hx => h x (List.mem_cons_of_mem _ hx), List.length_cons, Nat.add_mul, Nat.one_mul, Nat.add_comm]

noncomputable def GoodL (ns : List Int) : Prop := ns ≠ [] ∧ ns.length ≤ 12 ∧ ∀ n ∈ ns, 0 ≤ n ∧ n ≤ 12
theorem good_row {b : Int} {ts : List Tab} (o : Ok b ts) {t : Tab} (ht : t ∈ ts) {r : List Int} (hr : r ∈ t) : GoodL r := by
  have h1 := o.figs t ht r hr
  have := o.b1
  have := o.b2
  have := o.n2
  refine ⟨fun z => ?_, by omega, fun n hn => ?_⟩
  · rw [z] at h1
    simp at h1
    omega
  · have := o.ents t ht r hr n hn
    omega
theorem nl_len : ("\n" : Str).length = 1 := by decide +kernel
theorem bl_len : (" " : Str).length = 1 := by decide +kernel
noncomputable def spCut : Sp := fun vs H Q _ => ∃ (l : Addr) (rs : List V) (ts : List Tab) (n : Nat), vs = [.ref l, .int (n : Int)] ∧ H l = some (.lst rs) ∧ Paired (RowAt H) rs ts.flatten ∧ (∀ t ∈ ts, t.length = n) ∧ 1 ≤ n ∧ n ≤ 12 ∧ ts.length ≤ 12 ∧ ∀ x H', Same H H' → TabsAt H' x ts → Q x H'
section
variable {P : Program} {w : World} {K : PySem.W.Frag} {mg : Str → Option Value} {base : Heap}
noncomputable abbrev s_cut : Stmt := top 22
theorem sc_cut : FnScope ["rows", "states"] ["rows", "states"] (defScope s_cut) := ⟨rfl, rfl, rfl, by decide +kernel, rfl, by decide +kernel, by decide +kernel⟩
theorem ok_cut {f : Addr} {fd : FuncData} (F : Fun K "cut" "cut" s_cut f fd) (B : Blt mg)   :
    FnOk P w K mg base CX0 1 f fd ["rows", "states"] spCut := by
  refine F.ok sc_cut (fun vs H Q E h => ?_) (fun cdv A outer s H vs Q E hr h => ?_)
  · obtain ⟨_, _, _, _, rfl, _⟩ := h
    rfl
  · obtain ⟨l, rs, ts, n, rfl, hl, pR, hn, n1, n2, tl, q⟩ := h
    have nd := sc_cut.nd
    have el := (paired_length pR).trans (flat_len hn)
    have ei : (rs.length : Int) = (ts.length : Int) * (n : Int) := by rw [el]; exact Int.natCast_mul _ _
    refine ⟨_, (pss_one (ps_ret (pe_callTy call_tuple_of rfl B.tTuple boot_tuple (pa_cons (pe_comp (N := ["at", "rows", "states"]) (js := [none, some 0, some 1]) rfl rfl (pi_rangeS rfl B.range (pa_cons pe_int (pa_cons (pe_callB call_len_seq rfl B.len PySem.boot_len (pa_cons (pv 0) pa_nil)) (pa_cons (pv 1) pa_nil)))) (fun _ _ _ _ => (pg_name (i := 0) (ndOf (N := ["at", "rows", "states"]) (by decide +kernel)) rfl (Or.inl rfl))) (fun _ _ _ _ => pts_nil) (fun _ _ _ _ => (pe_callTy (call_tuple_ofK K) rfl B.tTuple boot_tuple (pa_cons (pe_slice (sl_listK K) (pv 1) (po_some (pv 0)) (po_some (pe_op op_add (pv 0) (pv 2)))) pa_nil)))) pa_nil)))), ?_⟩
    refine ⟨_, rfl, l, rs, rfl, .inl (SqL.of hl), _, rfl, n, ts.length, (show [V.int 0, V.int (rs.length : Int), V.int (n : Int)] = _ by rw [ei]), ⟨n1, by omega, by omega⟩, ?_⟩
    refine block_rel (Walk.stp n ts.length) (by omega) rfl (fun _ => true) (fun D k y H' => TabAt H' y (ts.getD k [])) (fun D k v ys H1 H2 fr hD h => h.frN fr hD) (fun k H3 Q' _ _ q' => q' _ (Same.refl _)) (fun D k ys H3 Q' hk' _ hD hD3 s3 q' => ?_) (fun D ys H3 hD s3 hDl pr => ?_)
    · refine ⟨_, rfl, _, rfl, _, rfl, _, rfl, _, rfl, _, _, rfl, rfl, _, rfl, l, rs, rfl, SqL.of (s3 _ _ hl), fun p hp => ?_⟩
      have hkn : k * n + n ≤ ts.length * n := by
        have := Nat.mul_le_mul_right n (show k + 1 ≤ ts.length by omega)
        rw [Nat.add_mul, Nat.one_mul] at this
        exact this
      have ecut : cutV rs (some ((k : Int) * (n : Int))) (some ((k : Int) * (n : Int) + (n : Int))) = (rs.drop (k * n)).take n := by
        rw [show (k : Int) * (n : Int) = ((k * n : Nat) : Int) from (Int.natCast_mul _ _).symm, show ((k * n : Nat) : Int) + (n : Int) = ((k * n + n : Nat) : Int) from (Int.natCast_add _ _).symm, cut_run _ (by omega), Nat.add_sub_cancel_left]
      have pk : Paired (RowAt H) ((rs.drop (k * n)).take n) (ts.getD k []) := by
        have := paired_takeN (paired_dropN pR (k * n)) n
        rw [flat_cut k hn] at this
        exact this
      refine ⟨p, _, rfl, .inl ⟨SqL.of upd_same, fun t ht => ?_⟩⟩
      have u1 := Same.new (o := HO.lst (cutV rs (some ((k : Int) * (n : Int))) (some ((k : Int) * (n : Int) + (n : Int))))) hp
      have u2 := Same.new (o := HO.tup (cutV rs (some ((k : Int) * (n : Int))) (some ((k : Int) * (n : Int) + (n : Int))))) ht
      refine q' _ _ (u1.trans u2) ⟨t, _, rfl, upd_same, ?_⟩
      rw [ecut] at u1 u2 ⊢
      exact paired_imp (fun _ _ x => x.same ((s3.trans u1).trans u2)) pk
    · rw [List.filter_eq_self.mpr (fun _ _ => rfl)] at pr
      refine ⟨D, ys, rfl, .inl ⟨SqL.of hDl, fun t ht => ?_⟩⟩
      have u := Same.new (o := HO.tup ys) ht
      refine q (.ref t) _ (s3.trans u) ⟨t, ys, rfl, upd_same, ?_⟩
      have e : (List.range ts.length).map (fun k => ts.getD k []) = ts := (range_map_getD ts [] id).trans (List.map_id _)
      have p2 := paired_mapN (F := TabAt H3) (f := fun k => ts.getD k []) (fun _ _ h => h) pr
      rw [e] at p2
      exact paired_imp (fun _ _ x => x.same u) p2
end
end My


set_option maxHeartbeats 2000000
namespace My
open PySem L2 PyProof.Rows

noncomputable def rowD (r : List Int) : PyData := .tuple (r.map PyData.int)
noncomputable def tabD2 (t : Tab) : PyData := .tuple (t.map rowD)
noncomputable def schD (b : Int) (ts : List Tab) : PyData := .tuple [.int b, .tuple (ts.map tabD2)]
theorem repAll_paired {α : Type} {K : PySem.W.Frag} {H : Hp} {F : V → α → Prop} {D : α → PyData} (f : ∀ v x, F v x → Rep K H v (D x)) {vs : List V} {xs : List α} (p : Paired F vs xs) : RepAll K H vs (xs.map D) := by
  induction p with
  | nil => exact .nil
  | cons h _ ih => exact .cons (f _ _ h) ih
theorem rep_row {K : PySem.W.Frag} {H : Hp} {v : V} {r : List Int} (h : RowAt H v r) : Rep K H v (rowD r) := by
  obtain ⟨a, rfl, h⟩ := h
  exact .tup (SqT.of h) (RepAll.ints r)
theorem rep_tab {K : PySem.W.Frag} {H : Hp} {v : V} {t : Tab} (h : TabAt H v t) : Rep K H v (tabD2 t) := by
  obtain ⟨a, vs, rfl, h, p⟩ := h
  exact .tup (SqT.of h) (repAll_paired (D := rowD) (fun _ _ h => rep_row h) p)
theorem rep_sch {K : PySem.W.Frag} {H : Hp} {v : V} {b : Int} {ts : List Tab} (h : SchAt H v b ts) : Rep K H v (schD b ts) := by
  obtain ⟨a, w', rfl, h, a2, vs, rfl, h2, p⟩ := h
  exact .tup (SqT.of h) (.cons (.int b) (.cons (.tup (SqT.of h2) (repAll_paired (D := tabD2) (fun _ _ h => rep_tab h) p)) .nil))
theorem lay_map {α : Type} {D : α → PyData} (h : ∀ x, (D x).canLay0 = true) : ∀ xs : List α, PyData.canLayAll0 (xs.map D) = true
  | [] => by simp [PyData.canLayAll0]
  | x :: xs => by simp [PyData.canLayAll0, h x, lay_map h xs]
theorem depth_map {α : Type} {D : α → PyData} {c : Nat} (h : ∀ x, (D x).depth ≤ c) : ∀ xs : List α, PyData.depthAll (xs.map D) ≤ c
  | [] => by simp [PyData.depthAll]
  | x :: xs => by
    have h1 := h x
    have h2 := depth_map h xs
    simp only [List.map_cons, PyData.depthAll]
    omega
theorem eqv_map {α : Type} {D : α → PyData} (h : ∀ x, PyData.eqv (D x) (D x) = true) : ∀ xs : List α, PyData.eqvAll (xs.map D) (xs.map D) = true
  | [] => by simp [PyData.eqvAll]
  | x :: xs => by simp [PyData.eqvAll, h x, eqv_map h xs]
theorem lay_row (r : List Int) : (rowD r).canLay0 = true := by simp [rowD, PyData.canLay0, L2.canLay_ints]
theorem lay_tab (t : Tab) : (tabD2 t).canLay0 = true := by
  unfold tabD2
  simp [PyData.canLay0, lay_map lay_row]
theorem depth_row (r : List Int) : (rowD r).depth ≤ 10 := by simp [rowD, PyData.depth, L2.depthAll_ints]
theorem depth_tab (t : Tab) : (tabD2 t).depth ≤ 20 := by
  have := depth_map depth_row t
  unfold tabD2
  simp only [PyData.depth]
  omega
theorem eqv_row (r : List Int) : PyData.eqv (rowD r) (rowD r) = true := by simp [rowD, PyData.eqv, L2.eqv_ints]
theorem eqv_tab (t : Tab) : PyData.eqv (tabD2 t) (tabD2 t) = true := by
  unfold tabD2
  simp [PyData.eqv, eqv_map eqv_row]
theorem plain_sch (b : Int) (ts : List Tab) : Plain (schD b ts) := by
  refine ⟨?_, ?_⟩
  · simp [schD, PyData.canLay0, PyData.canLayAll0, lay_map lay_tab]
  · have := depth_map depth_tab ts
    simp only [schD, PyData.depth, PyData.depthAll]
    omega
theorem eqv_sch (b : Int) (ts : List Tab) : PyData.eqv (schD b ts) (schD b ts) = true := by simp [schD, PyData.eqv, PyData.eqvAll, eqv_map eqv_tab]
end My


set_option maxHeartbeats 2000000
namespace My
open PySem L2 PyProof.Rows

theorem numT_inj {m n : Nat} (hm : m < 100) (hn : n < 100) (h : numT (m : Int) = numT (n : Int)) : m = n := by
  have h1 := PySem.W.KIN.num_reads (n := (m : Int)) (by omega) (by omega)
  have h2 := PySem.W.KIN.num_reads (n := (n : Int)) (by omega) (by omega)
  have h' : PySem.Str.ofString (toString (m : Int)) = PySem.Str.ofString (toString (n : Int)) := h
  rw [h', h2] at h1
  have := Option.some.inj h1
  omega
noncomputable def lawNum (w : Str) : Int := match (List.range 100).find? (fun n : Nat => decide (numT (n : Int) = w)) with
  | some n => (n : Int)
  | none => -1
theorem lawNum_num {n : Nat} (h : n < 100) : lawNum (numT (n : Int)) = (n : Int) := by
  unfold lawNum
  cases e : (List.range 100).find? (fun k : Nat => decide (numT (k : Int) = numT (n : Int))) with
  | none =>
    have := List.find?_eq_none.mp e n (List.mem_range.mpr h)
    simp at this
  | some k =>
    have h1 := List.find?_some e
    have h2 := List.mem_range.mp (List.mem_of_find?_eq_some e)
    have := numT_inj h2 h (of_decide_eq_true h1)
    rw [this]
theorem lawNum_no {w : Str} (h : ∀ n : Nat, n < 100 → w ≠ numT (n : Int)) : lawNum w = -1 := by
  unfold lawNum
  cases e : (List.range 100).find? (fun k : Nat => decide (numT (k : Int) = w)) with
  | none => rfl
  | some k =>
    have h1 := List.find?_some e
    have h2 := List.mem_range.mp (List.mem_of_find?_eq_some e)
    exact absurd (of_decide_eq_true h1).symm (h k h2)
theorem lawNum_ge {w : Str} (h : 0 ≤ lawNum w) : ∃ n : Nat, n < 100 ∧ w = numT (n : Int) ∧ lawNum w = (n : Int) := by
  by_cases z : ∃ n : Nat, n < 100 ∧ w = numT (n : Int)
  · obtain ⟨n, hn, rfl⟩ := z
    exact ⟨n, hn, rfl, lawNum_num hn⟩
  · have := lawNum_no (w := w) fun n hn e => z ⟨n, hn, e⟩
    omega
noncomputable def dig (c : Nat) : Bool := decide (48 ≤ c) && decide (c ≤ 57)
noncomputable def goodW : List Nat → Bool
  | [a] => dig a
  | [a, b] => !(a == 48) && (dig a && dig b)
  | _ => false
theorem one_num : ∀ d : Nat, d < 10 → numT ((d : Nat) : Int) = ⟨#[48 + d]⟩ := by decide +kernel
theorem two_num : ∀ d : Nat, d < 10 → d ≠ 0 → ∀ e : Nat, e < 10 → numT ((d * 10 + e : Nat) : Int) = ⟨#[48 + d, 48 + e]⟩ := by decide +kernel
theorem num_good : ∀ n : Nat, n < 100 → goodW (numT (n : Int)).cps.toList = true := by decide +kernel
theorem dig_iff {c : Nat} : dig c = true ↔ 48 ≤ c ∧ c ≤ 57 := by simp [dig]
theorem good_num {w : Str} (h : goodW w.cps.toList = true) : ∃ n : Nat, n < 100 ∧ w = numT (n : Int) := by
  match e : w.cps.toList with
  | [] => rw [e] at h; cases h
  | [a] =>
    rw [e] at h
    have h : dig a = true := h
    obtain ⟨h1, h2⟩ := dig_iff.mp h
    refine ⟨a - 48, by omega, ?_⟩
    rw [one_num (a - 48) (by omega)]
    refine cps_inj ?_
    rw [e]
    show [a] = [48 + (a - 48)]
    rw [show 48 + (a - 48) = a by omega]
  | [a, b] =>
    rw [e] at h
    have h : (!(a == 48) && (dig a && dig b)) = true := h
    simp only [Bool.and_eq_true, Bool.not_eq_true', beq_eq_false_iff_ne] at h
    obtain ⟨h0, h1, h2⟩ := h
    have h1 := dig_iff.mp h1
    have h2 := dig_iff.mp h2
    refine ⟨(a - 48) * 10 + (b - 48), by omega, ?_⟩
    rw [two_num (a - 48) (by omega) (by omega) (b - 48) (by omega)]
    refine cps_inj ?_
    rw [e]
    show [a, b] = [48 + (a - 48), 48 + (b - 48)]
    rw [show 48 + (a - 48) = a by omega, show 48 + (b - 48) = b by omega]
  | _ :: _ :: _ :: _ => rw [e] at h; cases h
theorem lawNum_bad {w : Str} (h : goodW w.cps.toList = false) : lawNum w = -1 := lawNum_no fun n hn e => by
  have := num_good n hn
  rw [← e, h] at this
  cases this
theorem lookup_no {w : Str} : ∀ {D : List (Str × Int)}, (∀ p ∈ D, p.1 ≠ w) → PySem.Spec.lookup (.str w) (tabD D) = none
  | [], _ => rfl
  | (a, i) :: D, h => by
    have h1 := h (a, i) List.mem_cons_self
    show (if PySem.Spec.same (.str a) (.str w) = true then some (PyData.int i) else PySem.Spec.lookup (.str w) (tabD D)) = none
    rw [if_neg (by simpa [PySem.Spec.same] using h1)]
    exact lookup_no fun p hp => h p (List.mem_cons_of_mem _ hp)
theorem look_KN (w : Str) : PySem.Spec.lookup (.str w) (tabD KN) = if 0 ≤ lawNum w ∧ lawNum w ≤ 12 then some (.int (lawNum w)) else none := by
  by_cases z : ∃ k : Nat, k ≤ 12 ∧ w = numT (k : Int)
  · obtain ⟨k, hk, rfl⟩ := z
    rw [numT_look (by omega) (by omega), lawNum_num (by omega), if_pos ⟨by omega, by omega⟩]
  · rw [if_neg]
    · refine lookup_no fun p hp e => ?_
      unfold KN at hp
      obtain ⟨k, hk, rfl⟩ := List.mem_map.mp hp
      exact z ⟨k, by have := List.mem_range.mp hk; omega, e.symm⟩
    · rintro ⟨h1, h2⟩
      obtain ⟨n, hn, e, e2⟩ := lawNum_ge h1
      exact z ⟨n, by omega, e⟩

noncomputable def tot (ts : List Str) : Nat := (ts.map (·.length)).sum + ts.length
theorem tot_append (a b : List Str) : tot (a ++ b) = tot a + tot b := by
  unfold tot
  rw [List.map_append, List.sum_append, List.length_append]
  omega
theorem tot_cons (x : Str) (b : List Str) : tot (x :: b) = x.length + 1 + tot b := by
  unfold tot
  rw [List.map_cons, List.sum_cons, List.length_cons]
  omega
theorem tot_take (a : List Str) (n : Nat) : tot (a.take n) + tot (a.drop n) = tot a := by rw [← tot_append, List.take_append_drop]
theorem str_len (s : Str) : s.length = s.cps.toList.length := Array.length_toList.symm
theorem join_tot {sep : Str} (h1 : sep.length = 1) : ∀ {ts : List Str}, ts ≠ [] → (Str.join sep ts).length + 1 = tot ts
  | [], h => absurd rfl h
  | [x], _ => by
    rw [tot_cons]
    rfl
  | x :: y :: r, _ => by
    have ih := join_tot h1 (ts := y :: r) (List.cons_ne_nil _ _)
    rw [tot_cons, ← ih, str_len, join_cons2, List.length_append, List.length_append, ← str_len, ← str_len, ← str_len, h1]
    omega
theorem mem_tot {t : Str} : ∀ {ts : List Str}, t ∈ ts → t.length + 1 ≤ tot ts
  | x :: ts, h => by
    rw [tot_cons]
    rcases List.mem_cons.mp h with rfl | h
    · omega
    · have := mem_tot h
      omega
theorem split_tot {z sep : Str} (h1 : sep.length = 1) : tot (Txt.split z sep) = z.length + 1 := by
  have h := StrLaws.join_split z sep
  have hp := PyProof.Rows.split_pos z sep
  rw [← join_tot h1 (ts := Txt.split z sep) (fun e => by rw [e] at hp; simp at hp), h]
theorem split_mem_len {z sep t : Str} (h1 : sep.length = 1) (h : t ∈ Txt.split z sep) : t.length ≤ z.length := by
  have := mem_tot h
  rw [split_tot h1] at this
  omega

noncomputable def chunks (n : Nat) : Nat → List (List Int) → List Tab
  | 0, _ => []
  | m + 1, rs => rs.take n :: chunks n m (rs.drop n)
theorem chunks_len (n : Nat) : ∀ (m : Nat) (rs : List (List Int)), (chunks n m rs).length = m
  | 0, _ => rfl
  | m + 1, rs => by
    show (chunks n m (rs.drop n)).length + 1 = m + 1
    rw [chunks_len n m]
theorem chunks_all {n : Nat} : ∀ {m : Nat} {rs : List (List Int)}, rs.length = m * n → (chunks n m rs).flatten = rs ∧ ∀ t ∈ chunks n m rs, t.length = n
  | 0, rs, h => by
    rw [Nat.zero_mul] at h
    rw [List.length_eq_zero_iff.mp h]
    exact ⟨rfl, fun t ht => by cases ht⟩
  | m + 1, rs, h => by
    rw [Nat.add_mul, Nat.one_mul] at h
    obtain ⟨h1, h2⟩ := chunks_all (n := n) (m := m) (rs := rs.drop n) (by rw [List.length_drop]; omega)
    refine ⟨?_, fun t ht => ?_⟩
    · show rs.take n ++ (chunks n m (rs.drop n)).flatten = rs
      rw [h1, List.take_append_drop]
    · rcases List.mem_cons.mp ht with rfl | ht
      · rw [List.length_take]
        omega
      · exact h2 t ht
theorem chunks_get {n : Nat} : ∀ {m : Nat} (rs : List (List Int)) (k : Nat), k < m → (chunks n m rs)[k]? = some ((rs.drop (k * n)).take n)
  | 0, _, k, h => by omega
  | m + 1, rs, 0, _ => by
    rw [Nat.zero_mul]
    rfl
  | m + 1, rs, k + 1, h => by
    show (chunks n m (rs.drop n))[k]? = _
    rw [chunks_get (rs.drop n) k (by omega), List.drop_drop, Nat.add_mul, Nat.one_mul, Nat.add_comm n]

structure Writes (R : List (List Int)) (b : Int) (ts : List Tab) : Prop where
  ex : ∃ (n m : Nat) (rs : List (List Int)), R = [b, (n : Int), (m : Int)] :: rs ∧ 1 ≤ rs.length ∧ rs.length = m * n ∧ ts = chunks n m rs ∧ Ok b ts ∧ ∀ r ∈ R, ∀ e ∈ r, 0 ≤ e ∧ e ≤ 12
theorem chunks_nst {n m : Nat} {rs : List (List Int)} (h : rs.length = m * n) (hm : 1 ≤ m) : nst (chunks n m rs) = n := by
  obtain ⟨_, h2⟩ := chunks_all h
  unfold nst
  cases m with
  | zero => omega
  | succ m => exact h2 _ List.mem_cons_self

structure Conds (R : List (List Int)) (b : Int) (n m : Nat) (rs : List (List Int)) : Prop where
  R' : R = [b, (n : Int), (m : Int)] :: rs
  b1 : 2 ≤ b
  b2 : b ≤ 10
  n1 : 1 ≤ n
  n2 : n ≤ 12
  m1 : 1 ≤ m
  m2 : m ≤ 6
  len : rs.length = n * m
  row : ∀ r ∈ rs, (r.length : Int) = b ∧ ∀ e ∈ r, 0 ≤ e ∧ e < (n : Int)
theorem conds_writes {R : List (List Int)} {b : Int} {n m : Nat} {rs : List (List Int)} (h : Conds R b n m rs) : Writes R b (chunks n m rs) := by
  have hl : rs.length = m * n := by rw [h.len, Nat.mul_comm]
  have hp : 1 ≤ rs.length := by
    have := Nat.mul_le_mul h.m1 h.n1
    omega
  obtain ⟨c1, c2⟩ := chunks_all hl
  have cn := chunks_nst hl h.m1
  have cl := chunks_len n m rs
  have b1 := h.b1
  have b2 := h.b2
  have n1 := h.n1
  have n2 := h.n2
  have m1 := h.m1
  have m2 := h.m2
  have mem : ∀ t ∈ chunks n m rs, ∀ r ∈ t, r ∈ rs := fun t ht r hr => by
    rw [← c1]
    exact List.mem_flatten.mpr ⟨t, ht, hr⟩
  refine ⟨n, m, rs, h.R', hp, hl, rfl, ⟨b1, b2, by omega, by omega, by omega, by omega, fun t ht => by rw [cn]; exact c2 t ht, fun t ht r hr => (h.row r (mem t ht r hr)).1, fun t ht r hr e he => by rw [cn]; exact (h.row r (mem t ht r hr)).2 e he⟩, fun r hr e he => ?_⟩
  rw [h.R'] at hr
  rcases List.mem_cons.mp hr with rfl | hr
  · rcases List.mem_cons.mp he with rfl | he
    · omega
    rcases List.mem_cons.mp he with rfl | he
    · omega
    rcases List.mem_cons.mp he with rfl | he
    · omega
    cases he
  · have := (h.row r hr).2 e he
    omega
theorem writes_conds {R : List (List Int)} {b : Int} {ts : List Tab} (h : Writes R b ts) : ∃ n m rs, Conds R b n m rs ∧ ts = chunks n m rs := by
  obtain ⟨n, m, rs, hR, hp, hl, rfl, ok, ha⟩ := h.ex
  have hm : 1 ≤ m := by
    cases m with
    | zero => rw [Nat.zero_mul] at hl; omega
    | succ m => omega
  have cn := chunks_nst hl hm
  obtain ⟨c1, c2⟩ := chunks_all hl
  have cl := chunks_len n m rs
  have t2 := ok.t2
  have n1 := ok.n1
  have n2 := ok.n2
  refine ⟨n, m, rs, ⟨hR, ok.b1, ok.b2, by omega, by omega, hm, by omega, by rw [hl, Nat.mul_comm], fun r hr => ?_⟩, rfl⟩
  rw [← c1] at hr
  obtain ⟨t, ht, hr⟩ := List.mem_flatten.mp hr
  refine ⟨ok.figs t ht r hr, fun e he => ?_⟩
  have := ok.ents t ht r hr e he
  rw [cn] at this
  exact this
theorem writes_one {R : List (List Int)} {b b' : Int} {ts ts' : List Tab} (h : Writes R b ts) (h' : Writes R b' ts') : b = b' ∧ ts = ts' := by
  obtain ⟨n, m, rs, hR, _, _, rfl, _⟩ := h.ex
  obtain ⟨n', m', rs', hR', _, _, rfl, _⟩ := h'.ex
  rw [hR] at hR'
  obtain ⟨e1, e2⟩ := List.cons.inj hR'
  obtain ⟨e3, e4⟩ := List.cons.inj e1
  obtain ⟨e5, e6⟩ := List.cons.inj e4
  obtain ⟨e7, _⟩ := List.cons.inj e6
  have e5 : n = n' := by omega
  have e7 : m = m' := by omega
  subst e2 e3 e5 e7
  exact ⟨rfl, rfl⟩
noncomputable def rowsOf (t : Str) : List (List Int) := (Txt.split t "\n").map fun l => (Txt.split l " ").map lawNum
end My


set_option maxHeartbeats 4000000
namespace My
open PySem L2 PyProof.Rows
noncomputable def spCheckF (mg : Str → Option Value) : Sp := fun vs H Q E => ∃ (v : V) (ts : List Tab) (b : Int), vs = [v] ∧ SchAt H v b ts ∧ ts.length ≤ 1000 ∧ (∀ t ∈ ts, t.length ≤ 1000 ∧ ∀ r ∈ t, r.length ≤ 1000) ∧ (Ok b ts → ∀ H', Same H H' → Q .non H') ∧ (¬ Ok b ts → ∀ C H', mg "NoScheme" = some (.ref C) → Same H H' → E (.ref C) none H')

noncomputable def Known (ns : List Int) : Prop := ∀ n ∈ ns, 0 ≤ n ∧ n ≤ 12
noncomputable def spNumOfX (P : Program) (w : World) (mg : Str → Option Value) : Sp := fun vs H Q E => ∃ (d : Addr) (z : Str), vs = [.str z, .ref d] ∧ H d = some (.ext (tφ P w d KN)) ∧ z.length ≤ 998 ∧
  (Known ((Txt.split z " ").map lawNum) → ∀ x H', Same H H' → RowAt H' x ((Txt.split z " ").map lawNum) → Q x H') ∧ (¬ Known ((Txt.split z " ").map lawNum) → ∀ C H', mg "NoNote" = some (.ref C) → Same H H' → E (.ref C) none H')
noncomputable def spReadX (mg : Str → Option Value) : Sp := fun vs H Q E => ∃ z : Str, vs = [.str z] ∧ z.length ≤ 998 ∧ (∀ b ts, Writes (rowsOf z) b ts → ∀ x H', Same H H' → SchAt H' x b ts → Q x H') ∧ ((¬ ∃ b ts, Writes (rowsOf z) b ts) → ∀ C H', mg "NoNote" = some (.ref C) → Same H H' → E (.ref C) none H')
theorem dneR {x y : V} (h : x = y) : (!decide (x = y)) = false := by
  rw [decide_eq_true h]
  rfl
theorem str_getD {ws : List Str} {k : Nat} (hk : k < ws.length) : (ws.map V.str).getD k .non = V.str (ws.getD k ⟨#[]⟩) := by
  rw [List.getD_eq_getElem?_getD, List.getD_eq_getElem?_getD, List.getElem?_map, List.getElem?_eq_getElem hk]
  rfl
section
variable {P : Program} {w : World} {K : PySem.W.Frag} {mg : Str → Option Value} {base : Heap}
theorem sc_check_scheme : FnScope ["scheme"] ["scheme"] (defScope sCheck) := ⟨rfl, rfl, rfl, by decide +kernel, rfl, by decide +kernel, by decide +kernel⟩
theorem ok_check_scheme {f : Addr} {fd : FuncData} (F : Fun K "check_scheme" "check_scheme" sCheck f fd) (B : Blt mg) (Nm : Nums mg) (Ea : ErrsA K mg) (h_is_tuple_of : Has P w K mg base "is_tuple_of" 1 ["value", "least", "most"] spTupOf) (h_is_whole : Has P w K mg base "is_whole" 1 ["value", "least", "most"] spWhole) (h_are_tables : Has P w K mg base "are_tables" 4 ["tables", "base"] spTabs) :
    FnOk P w K mg base (CXF P w) 5 f fd ["scheme"] (spCheckF mg) := by
  refine F.okF sc_check_scheme (fun vs H Q E h => ?_) (fun cdv A outer s H vs Q E hr h L => ?_)
  · obtain ⟨_, _, _, rfl, _⟩ := h
    rfl
  · obtain ⟨v, ts, b, rfl, ⟨a, wv, rfl, ha, hT⟩, l1, l2, q, qE⟩ := h
    have nd := sc_check_scheme.nd
    obtain ⟨t2, m2⟩ := Nm.lb
    obtain ⟨t10, m10⟩ := Nm.mb
    obtain ⟨_, c_NoScheme, _, _, _, _, _, _, m_NoScheme, _, _, _, _, _, _, _, e_NoScheme, _⟩ := Ea.at'
    have x_NoScheme := e_NoScheme.exc
    refine ⟨_, (pss_cons (ps_if (pt_not (pt_val (pe_fn h_is_tuple_of (hr.mono (by decide)) (pa_cons (pv 0) (pa_cons pe_int (pa_cons pe_int pa_nil)))))) (pss_one (ps_raiseF L rfl rfl m_NoScheme x_NoScheme (pa_cons pe_str pa_nil))) pss_nil)
      (pss_cons (ps_if (pt_not (pt_val (pe_fn h_is_whole (hr.mono (by decide)) (pa_cons (pe_ix ix_tup (pv 0) pe_int (fun _ _ => rfl)) (pa_cons (pe_glob (v := .int 2) rfl m2 ⟨_, rfl⟩) (pa_cons (pe_glob (v := .int 10) rfl m10 ⟨_, rfl⟩) pa_nil)))))) (pss_one (ps_raiseF L rfl rfl m_NoScheme x_NoScheme (pa_cons pe_str pa_nil))) pss_nil)
      (pss_one (ps_if (pt_not (pt_val (pe_fn h_are_tables (hr.mono (by decide)) (pa_cons (pe_ix ix_tup (pv 0) pe_int (fun _ _ => rfl)) (pa_cons (pe_ix ix_tup (pv 0) pe_int (fun _ _ => rfl)) pa_nil))))) (pss_one (ps_raiseF L rfl rfl m_NoScheme x_NoScheme (pa_cons pe_str pa_nil))) pss_nil)))), ?_⟩
    refine ⟨_, rfl, a, _, 2, 2, rfl, ha, _, rfl, iteF ?_⟩
    refine ⟨_, rfl, a, _, 0, _, rfl, rfl, SqT.of ha, rfl, b, 2, 10, rfl, _, rfl, ite2 (fun c => ?_) (fun c => ?_)⟩
    · refine ⟨(by show 1 ≤ sizeLine; decide), qE (fun ok => ?_) _ _ m_NoScheme (Same.refl _)⟩
      have := wholeB_iff.mpr ⟨ok.b1, ok.b2⟩
      rw [this] at c
      cases c
    · have c' : wholeB b 2 10 = true := by simpa using c
      refine ⟨_, rfl, a, _, 1, _, rfl, rfl, SqT.of ha, rfl, _, rfl, a, _, 0, _, rfl, rfl, SqT.of ha, rfl, wv, ts, b, rfl, hT, l1, l2, fun H' s' => ⟨_, rfl, ite2 (fun c2 => ?_) (fun c2 => ?_)⟩⟩
      · refine ⟨(by show 1 ≤ sizeLine; decide), qE (fun ok => ?_) _ _ m_NoScheme s'⟩
        have := schB_iff.mpr ok
        unfold schB at this
        rw [c', Bool.true_and] at this
        rw [this] at c2
        cases c2
      · refine q (schB_iff.mp ?_) H' s'
        unfold schB
        rw [c', Bool.true_and]
        simpa using c2
noncomputable abbrev s_numbers_of : Stmt := top 21
theorem sc_numbers_of : FnScope ["line", "known", "words"] ["line", "known"] (defScope s_numbers_of) := ⟨rfl, rfl, rfl, by decide +kernel, rfl, by decide +kernel, by decide +kernel⟩
theorem ok_numbers_of {f : Addr} {fd : FuncData} (F : Fun K "numbers_of" "numbers_of" s_numbers_of f fd) (B : Blt mg) (Ea : ErrsA K mg)  :
    FnOk P w K mg base (CXR P w) 1 f fd ["line", "known"] (spNumOfX P w mg) := by
  refine F.okX sc_numbers_of (fun vs H Q E h => ?_) (fun cdv A outer s H vs Q E hr h L => ?_)
  · obtain ⟨_, _, rfl, _⟩ := h
    rfl
  · obtain ⟨d, z, rfl, hd, hzl, q, qE⟩ := h
    have nd := sc_numbers_of.nd
    obtain ⟨_, _, _, _, _, _, c_NoNote, _, _, _, _, _, _, m_NoNote, _, _, _, _, _, _, _, e_NoNote⟩ := Ea.at'
    have x_NoNote := e_NoNote.exc
    obtain ⟨ws, ews⟩ : ∃ ws, ws = Txt.split z " " := ⟨_, rfl⟩
    have hwl : ws.length ≤ 1000 := by
      have := PyProof.Rows.split_le z " "
      rw [ews]
      omega
    rw [← ews] at q qE
    refine ⟨_, (pss_cons (ps_set (i := 2) nd rfl (Or.inl rfl) (pe_bm PySem.F.plainAttrs_str PySem.F.slot_str_split PySem.F.type_str_split mt_split (pv 0) (pa_cons pe_str pa_nil)))
      (pss_cons (ps_if (pt_not (pt_val (pe_callB (call_all rfl) rfl B.all boot_all (pa_cons (pe_comp (N := ["word", "known"]) (js := [none, some 1]) rfl rfl (pi_list (pv 2)) (fun _ _ _ _ => (pg_name (i := 0) (ndOf (N := ["word", "known"]) (by decide +kernel)) rfl (Or.inl rfl))) (fun _ _ _ _ => pts_nil) (fun _ _ _ _ => (pe_cmpR (op_in_dTK P w) (pv 0) (pv 1) rfl))) pa_nil)))) (pss_one (ps_raise L rfl rfl m_NoNote x_NoNote (pa_cons pe_str pa_nil))) pss_nil)
      (pss_one (ps_ret (pe_callTy call_tuple_of rfl B.tTuple boot_tuple (pa_cons (pe_comp (N := ["word", "known"]) (js := [none, some 1]) rfl rfl (pi_list (pv 2)) (fun _ _ _ _ => (pg_name (i := 0) (ndOf (N := ["word", "known"]) (by decide +kernel)) rfl (Or.inl rfl))) (fun _ _ _ _ => pts_nil) (fun _ _ _ _ => (pe_dIxK P w (pv 1) (pv 0) (fun _ _ => rfl)))) pa_nil)))))), ?_⟩
    refine ⟨_, rfl, rfl, z, " ", rfl, rfl, by decide +kernel, Nat.le_of_lt (smallM (by omega)), fun W hW => ?_⟩
    rw [← ews]
    have u1 := Same.new (o := HO.lst (ws.map V.str)) hW
    have hd1 := u1 _ _ hd
    have hS1 : SqL K (upd H W (.lst (ws.map V.str))) W (ws.map V.str) := SqL.of upd_same
    generalize upd H W (.lst (ws.map V.str)) = H1 at u1 hd1 hS1 ⊢
    have wk := Walk.lst (K := K) hS1
    rw [List.length_map] at wk
    have kn : ∀ k, k < ws.length → ws.getD k ⟨#[]⟩ ∈ ws := fun k hk => by
      rw [List.getD_eq_getElem?_getD, List.getElem?_eq_getElem hk]
      exact List.getElem_mem hk
    refine ⟨_, rfl, W, rfl, ⟨_, hS1⟩, ?_⟩
    refine block_map wk hwl rfl (fun k => .bl (decide (0 ≤ lawNum (ws.getD k ⟨#[]⟩) ∧ lawNum (ws.getD k ⟨#[]⟩) ≤ 12))) (fun k H2 Q' hk s2 q' => ?_) (fun D H2 hD s2 hDl => ?_)
    · rw [str_getD hk]
      refine ⟨_, rfl, _, rfl, ws.getD k ⟨#[]⟩, d, KN, rfl, rfl, s2 _ _ hd1, ?_⟩
      rw [look_KN]
      have e : (if 0 ≤ lawNum (ws.getD k ⟨#[]⟩) ∧ lawNum (ws.getD k ⟨#[]⟩) ≤ 12 then some (PyData.int (lawNum (ws.getD k ⟨#[]⟩))) else none).isSome = decide (0 ≤ lawNum (ws.getD k ⟨#[]⟩) ∧ lawNum (ws.getD k ⟨#[]⟩) ≤ 12) := by
        by_cases h : 0 ≤ lawNum (ws.getD k ⟨#[]⟩) ∧ lawNum (ws.getD k ⟨#[]⟩) ≤ 12
        · rw [if_pos h, decide_eq_true h]
          rfl
        · rw [if_neg h, decide_eq_false h]
          rfl
      rw [e]
      exact q' _ (Same.refl _)
    rw [range_map_getD ws ⟨#[]⟩ (fun w => V.bl (decide (0 ≤ lawNum w ∧ lawNum w ≤ 12)))] at hDl
    have hDl' : H2 D = some (.lst ((ws.map fun w => decide (0 ≤ lawNum w ∧ lawNum w ≤ 12)).map V.bl)) := by
      rw [hDl, List.map_map]
      rfl
    refine ⟨D, ws.map fun w => decide (0 ≤ lawNum w ∧ lawNum w ≤ 12), rfl, SqL.of hDl', _, rfl, ite2 (fun c => ?_) (fun c => ?_)⟩
    · refine ⟨(by show 1 ≤ sizeLine; decide), qE (fun kn' => ?_) _ _ m_NoNote (u1.trans s2)⟩
      have : (ws.map fun w => decide (0 ≤ lawNum w ∧ lawNum w ≤ 12)).all id = true := by
        rw [List.all_eq_true]
        intro x hx
        obtain ⟨y, hy, rfl⟩ := List.mem_map.mp hx
        exact decide_eq_true (kn' _ (List.mem_map.mpr ⟨y, hy, rfl⟩))
      rw [this] at c
      cases c
    · have hall : (ws.map fun w => decide (0 ≤ lawNum w ∧ lawNum w ≤ 12)).all id = true := by simpa using c
      have hk' : ∀ y ∈ ws, 0 ≤ lawNum y ∧ lawNum y ≤ 12 := fun y hy => by
        have := List.all_eq_true.mp hall _ (List.mem_map.mpr ⟨y, hy, rfl⟩)
        exact of_decide_eq_true this
      have hS2 := s2.seq hS1
      have wk2 := Walk.lst (K := K) hS2
      rw [List.length_map] at wk2
      refine ⟨_, rfl, W, rfl, ⟨_, hS2⟩, ?_⟩
      refine block_map wk2 hwl rfl (fun k => .int (lawNum (ws.getD k ⟨#[]⟩))) (fun k H3 Q' hk s3 q' => ?_) (fun D2 H3 hD2 s3 hDl2 => ?_)
      · rw [str_getD hk]
        have h1 := hk' _ (kn k hk)
        refine ⟨_, rfl, _, rfl, d, ws.getD k ⟨#[]⟩, KN, lawNum (ws.getD k ⟨#[]⟩), rfl, rfl, (s2.trans s3) _ _ hd1, ?_, q' _ (Same.refl _)⟩
        rw [look_KN, if_pos h1]
      · rw [range_map_getD ws ⟨#[]⟩ (fun w => V.int (lawNum w))] at hDl2
        have hDl3 : H3 D2 = some (.lst ((ws.map lawNum).map V.int)) := by
          rw [hDl2, List.map_map]
          rfl
        refine ⟨D2, _, rfl, .inl ⟨SqL.of hDl3, fun l hl2 => ?_⟩⟩
        refine q (fun n hn => ?_) (.ref l) _ (((u1.trans s2).trans s3).trans (Same.new hl2)) ⟨l, rfl, upd_same⟩
        obtain ⟨y, hy, rfl⟩ := List.mem_map.mp hn
        exact hk' y hy
noncomputable abbrev s_read : Stmt := top 23
theorem sc_read : FnScope ["text", "known", "lines", "heading", "rows", "scheme"] ["text"] (defScope s_read) := ⟨rfl, rfl, rfl, by decide +kernel, rfl, by decide +kernel, by decide +kernel⟩
theorem ok_read {f : Addr} {fd : FuncData} (F : Fun K "read" "read" s_read f fd) (B : Blt mg) (Ea : ErrsA K mg) (h_numbers_by_word : Has P w K mg base "numbers_by_word" 1 [] (spByWord P w)) (h_numbers_of : HasX P w K mg base "numbers_of" 1 ["line", "known"] (spNumOfX P w mg)) (h_cut : Has P w K mg base "cut" 1 ["rows", "states"] spCut) (h_check_scheme : HasF P w K mg base "check_scheme" 5 ["scheme"] (spCheckF mg)) :
    FnOk P w K mg base (CXR P w) 6 f fd ["text"] (spReadX mg) := by
  refine F.okX sc_read (fun vs H Q E h => ?_) (fun cdv A outer s H vs Q E hr h L => ?_)
  · obtain ⟨_, rfl, _⟩ := h
    rfl
  · obtain ⟨z, rfl, hzl, q, qE⟩ := h
    have nd := sc_read.nd
    obtain ⟨_, c_NoScheme, _, _, _, _, c_NoNote, _, m_NoScheme, _, _, _, _, m_NoNote, _, _, e_NoScheme, _, _, _, _, e_NoNote⟩ := Ea.at'
    have x_NoScheme := e_NoScheme.exc
    have x_NoNote := e_NoNote.exc
    obtain ⟨ls, els⟩ : ∃ ls, ls = Txt.split z "\n" := ⟨_, rfl⟩
    have hll : ls.length ≤ 1000 := by
      have := PyProof.Rows.split_le z "\n"
      rw [els]
      omega
    have hl1 : 1 ≤ ls.length := by rw [els]; exact PyProof.Rows.split_pos z "\n"
    have hmem : ∀ l ∈ ls, l.length ≤ 998 := fun l hl => by
      rw [els] at hl
      exact Nat.le_trans (split_mem_len nl_len hl) hzl
    obtain ⟨R, eR⟩ : ∃ R, R = rowsOf z := ⟨_, rfl⟩
    have eR2 : R = ls.map fun l => (Txt.split l " ").map lawNum := by rw [eR, els]; rfl
    have hRl : R.length = ls.length := by rw [eR2, List.length_map]
    rw [← eR] at q qE
    have qN : ∀ (no : ¬ ∃ b ts, Writes R b ts) {H'}, Same H H' → E (.ref c_NoNote) none H' := fun no H' s' => qE no c_NoNote H' m_NoNote s'
    have getR : ∀ k, k < ls.length → R.getD k [] = (Txt.split (ls.getD k ⟨#[]⟩) " ").map lawNum := fun k hk => by
      rw [eR2, List.getD_eq_getElem?_getD, List.getD_eq_getElem?_getD, List.getElem?_map, List.getElem?_eq_getElem hk]
      rfl
    refine ⟨_, (pss_cons (ps_set (i := 1) nd rfl (Or.inr rfl) (pe_fn0 h_numbers_by_word (hr.mono (by decide))))
      (pss_cons (ps_setCX (i := 2) (N := ["line", "known"]) (js := [none, some 1]) rfl rfl rfl rfl nd rfl rfl rfl rfl (pi_list (pe_bm PySem.F.plainAttrs_str PySem.F.slot_str_split PySem.F.type_str_split mt_split (pv 0) (pa_cons pe_str pa_nil))) (fun _ _ _ _ _ => (pg_name (i := 0) (ndOf (N := ["line", "known"]) (by decide +kernel)) rfl (Or.inl rfl))) (fun _ _ _ _ _ => pts_nil) (fun _ _ _ _ _ hp => (pe_fnX h_numbers_of (hr.mono (by decide)) hp (pa_cons (pv 0) (pa_cons (pv 1) pa_nil)))))
      (pss_cons (ps_set (i := 3) nd rfl (Or.inl rfl) (pe_ix ix_list (pv 2) pe_int (fun _ _ => rfl)))
      (pss_cons (ps_set (i := 4) nd rfl (Or.inl rfl) (pe_slice sl_list (pv 2) (po_some pe_int) po_none))
      (pss_cons (ps_if (PW.pt (pw_or (pt_cmpR op_ne (pe_callB call_len_seq rfl B.len PySem.boot_len (pa_cons (pv 3) pa_nil)) pe_int (nomark _)) (pw_or (pt_cmpR op_eq (pe_callB call_len_seq rfl B.len PySem.boot_len (pa_cons (pv 4) pa_nil)) pe_int (nomark _)) (pw_or1 (pt_cmpR op_ne (pe_callB call_len_seq rfl B.len PySem.boot_len (pa_cons (pv 4) pa_nil)) (pe_op op_mul (pe_ix ix_tup (pv 3) pe_int (fun _ _ => rfl)) (pe_ix ix_tup (pv 3) pe_int (fun _ _ => rfl))) (nomark _)))))) (pss_one (ps_raise L rfl rfl m_NoNote x_NoNote (pa_cons pe_str pa_nil))) pss_nil)
      (pss_cons (ps_set (i := 5) nd rfl (Or.inl rfl) (pe_tup (pa_cons (pe_ix ix_tup (pv 3) pe_int (fun _ _ => rfl)) (pa_cons (pe_fn h_cut (hr.mono (by decide)) (pa_cons (pv 4) (pa_cons (pe_ix ix_tup (pv 3) pe_int (fun _ _ => rfl)) pa_nil))) pa_nil))))
      (pss_cons (ps_tryR rfl (fun _ _ _ hp => (pss_one (ps_expr (pe_fnF h_check_scheme (hr.mono (by decide)) hp (pa_cons (pv 5) pa_nil))))) rfl rfl rfl rfl m_NoScheme x_NoScheme rfl m_NoNote x_NoNote)
      (pss_one (ps_ret (pv 5)))))))))), ?_⟩
    refine ⟨rfl, fun d H1 s1 hd1 => ?_⟩
    refine ⟨_, rfl, rfl, z, "\n", rfl, rfl, by decide +kernel, Nat.le_of_lt (smallM (by omega)), fun W hW => ?_⟩
    rw [← els]
    have u1 := Same.new (o := HO.lst (ls.map V.str)) hW
    have hd2 := u1 _ _ hd1
    have hS1 : SqL K (upd H1 W (.lst (ls.map V.str))) W (ls.map V.str) := SqL.of upd_same
    have s02 := s1.trans u1
    generalize upd H1 W (.lst (ls.map V.str)) = H2 at u1 hd2 hS1 s02 ⊢
    have wk := Walk.lst (K := K) hS1
    rw [List.length_map] at wk
    refine ⟨W, rfl, ⟨_, hS1⟩, ?_⟩
    refine block_rel wk hll rfl (fun _ => true) (fun D k y H' => RowAt H' y (R.getD k []) ∧ Known (R.getD k [])) (fun D k v ys H1 H2 fr hD h => ?_) (fun k H3 Q' _ _ q' => q' _ (Same.refl _)) (fun D k ys H3 Q' hk' _ hD hD3 s3 q' => ?_) (fun D ys H3 hD s3 hDl pr => ?_)
    · obtain ⟨⟨x, e, h⟩, hk⟩ := h
      exact ⟨⟨x, e, fr _ _ (ne_of h hD (by intro z; cases z)) h⟩, hk⟩
    · rw [str_getD hk']
      have gm : ls.getD k ⟨#[]⟩ ∈ ls := by
        rw [List.getD_eq_getElem?_getD, List.getElem?_eq_getElem hk']
        exact List.getElem_mem hk'
      have gR := getR k hk'
      rw [gR] at q'
      refine ⟨_, rfl, _, rfl, d, ls.getD k ⟨#[]⟩, rfl, s3 _ _ hd2, hmem _ gm, fun kn x H' s' hx => q' x H' s' ⟨hx, kn⟩, fun kn C H' mC s' => ?_⟩
      rw [m_NoNote] at mC
      cases mC
      refine qN (fun ⟨b, ts, wr⟩ => kn ?_) ((s02.trans s3).trans s')
      obtain ⟨_, _, _, _, _, _, _, _, ha⟩ := wr.ex
      rw [← gR]
      refine ha _ ?_
      rw [List.getD_eq_getElem?_getD, List.getElem?_eq_getElem (show k < R.length by omega)]
      exact List.getElem_mem _
    rw [List.filter_eq_self.mpr (fun _ _ => rfl)] at pr
    have eM : (List.range ls.length).map (fun k => R.getD k []) = R := by rw [← hRl]; exact (range_map_getD R [] id).trans (List.map_id _)
    have p2 := paired_mapN (F := RowAt H3) (f := fun k => R.getD k []) (fun _ _ h => h.1) pr
    have p3 := paired_mapN (F := fun (_ : V) ns => Known ns) (f := fun k => R.getD k []) (fun _ _ h => h.2) pr
    rw [eM] at p2 p3
    clear pr eM
    have hKn : ∀ r ∈ R, Known r := fun r hr => by
      obtain ⟨i, hi, e⟩ := List.getElem_of_mem hr
      obtain ⟨_, _, h⟩ := paired_get p3 i r (by rw [List.getElem?_eq_getElem hi, e])
      exact h
    clear p3
    obtain ⟨hd, rs, eRc⟩ : ∃ hd rs, R = hd :: rs := by
      cases eq : R with
      | nil => rw [eq] at hRl; simp at hRl; omega
      | cons a b => exact ⟨a, b, rfl⟩
    rw [eRc] at p2
    obtain ⟨y0, yr, rfl, ⟨aH, rfl, haH⟩, pR⟩ : ∃ y0 yr, ys = y0 :: yr ∧ RowAt H3 y0 hd ∧ Paired (RowAt H3) yr rs := by
      cases p2 with
      | cons h t => exact ⟨_, _, rfl, h, t⟩
    have hyl : yr.length = rs.length := paired_length pR
    refine ⟨_, rfl, D, _, 0, _, rfl, rfl, SqL.of hDl, atI_nat (j := 0) rfl, ?_⟩
    refine ⟨_, rfl, _, rfl, D, _, rfl, SqL.of hDl, fun Rl hRl' => ?_⟩
    rw [show cutV (V.ref aH :: yr) (some 1) none = yr from cut_from (V.ref aH :: yr) 1]
    have u4 := Same.new (o := HO.lst yr) hRl'
    have hR4 : upd H3 Rl (.lst yr) Rl = some (.lst yr) := upd_same
    have haH4 := u4 _ _ haH
    have pR4 := paired_imp (fun _ _ x => RowAt.same u4 x) pR
    have s04 := (s02.trans s3).trans u4
    generalize upd H3 Rl (.lst yr) = H4 at u4 hR4 haH4 pR4 s04 ⊢
    have noW : (∀ b ts (n m : Nat), R = [b, (n : Int), (m : Int)] :: rs → 1 ≤ rs.length → rs.length = m * n → ts = chunks n m rs → Ok b ts → False) → ¬ ∃ b ts, Writes R b ts := fun h ⟨b, ts, wr⟩ => by
      obtain ⟨n, m, rs', e, h1, h2, h3, h4, _⟩ := wr.ex
      have e2 : rs' = rs := by
        rw [eRc] at e
        exact (List.cons.inj e).2.symm
      subst e2
      exact h b ts n m e h1 h2 h3 h4
    refine ⟨_, rfl, aH, _, rfl, .inr (SqT.of haH4), rfl, _, rfl, ite2 (fun c => ?_) (fun c => ?_)⟩
    · refine ⟨(by show 1 ≤ sizeLine; decide), qN (noW fun b ts n m e _ _ _ _ => ?_) s04⟩
      rw [eRc] at e
      rw [(List.cons.inj e).1] at c
      rw [dneR (show V.int (([b, (n : Int), (m : Int)].map V.int).length : Int) = V.int 3 from rfl)] at c
      cases c
    have hd3 : hd.length = 3 := by
      have c' : ¬ ((hd.map V.int).length : Int) ≠ 3 := by simpa using c
      rw [List.length_map] at c'
      omega
    obtain ⟨b, n', m', rfl⟩ : ∃ b n m, hd = [b, n, m] := by
      match hd, hd3 with
      | [b, n, m], _ => exact ⟨b, n, m, rfl⟩
    have hKh := hKn [b, n', m'] (by rw [eRc]; exact List.mem_cons_self)
    have kb := hKh b List.mem_cons_self
    have kn := hKh n' (List.mem_cons_of_mem _ List.mem_cons_self)
    have km := hKh m' (List.mem_cons_of_mem _ (List.mem_cons_of_mem _ List.mem_cons_self))
    obtain ⟨n, rfl⟩ : ∃ n : Nat, n' = (n : Int) := ⟨n'.toNat, by omega⟩
    obtain ⟨m, rfl⟩ : ∃ m : Nat, m' = (m : Int) := ⟨m'.toNat, by omega⟩
    have inj3 : ∀ {b' : Int} {n1 m1 : Nat}, R = [b', (n1 : Int), (m1 : Int)] :: rs → b' = b ∧ n1 = n ∧ m1 = m := fun e => by
      rw [eRc] at e
      obtain ⟨e1, _⟩ := List.cons.inj e
      obtain ⟨e3, e4⟩ := List.cons.inj e1
      obtain ⟨e5, e6⟩ := List.cons.inj e4
      obtain ⟨e7, _⟩ := List.cons.inj e6
      exact ⟨e3.symm, by omega, by omega⟩
    refine ⟨_, rfl, Rl, _, rfl, .inl (SqL.of hR4), rfl, _, rfl, ite2 (fun c => ?_) (fun c2 => ?_)⟩
    · refine ⟨(by show 1 ≤ sizeLine; decide), qN (noW fun b' ts n1 m1 _ h1 _ _ _ => ?_) s04⟩
      have c' : (yr.length : Int) = 0 := by simpa using c
      omega
    have hpos : 1 ≤ yr.length := by
      have c' : ¬ (yr.length : Int) = 0 := by simpa using c2
      omega
    refine ⟨_, rfl, Rl, _, rfl, .inl (SqL.of hR4), _, rfl, aH, _, 1, _, rfl, rfl, SqT.of haH4, rfl, _, rfl, aH, _, 2, _, rfl, rfl, SqT.of haH4, rfl, _, _, rfl, rfl, .inl ⟨by omega, by omega⟩, rfl, _, rfl, ite2 (fun c4 => ?_) (fun c3 => ?_)⟩
    · refine ⟨(by show 1 ≤ sizeLine; decide), qN (noW fun b' ts n1 m1 e _ h2 _ _ => ?_) s04⟩
      obtain ⟨rfl, rfl, rfl⟩ := inj3 e
      rw [dneR (show V.int (yr.length : Int) = V.int ((n1 : Int) * (m1 : Int)) from congrArg V.int (by rw [hyl, h2, Nat.mul_comm]; exact Int.natCast_mul _ _))] at c4
      cases c4
    have emul : rs.length = m * n := by
      have c' : (yr.length : Int) = (n : Int) * (m : Int) := by simpa using c3
      rw [← hyl, Nat.mul_comm]
      have := Int.natCast_mul n m
      omega
    have hn1 : 1 ≤ n := by
      cases n with
      | zero => rw [Nat.mul_zero] at emul; omega
      | succ n => omega
    obtain ⟨ck1, ck2⟩ := chunks_all emul
    have ckl := chunks_len n m rs
    rw [← ck1] at pR4
    refine ⟨_, rfl, aH, _, 0, _, rfl, rfl, SqT.of haH4, rfl, _, rfl, _, rfl, aH, _, 1, _, rfl, rfl, SqT.of haH4, rfl, Rl, yr, chunks n m rs, n, rfl, hR4, pR4, ck2, hn1, by omega, by omega, fun x H5 s5 hx => ⟨(by show 2 ≤ sizeLine; decide), fun S hS => ?_⟩⟩
    have u6 := Same.new (o := HO.tup [V.int b, x]) hS
    have hSch : SchAt (upd H5 S (.tup [V.int b, x])) (.ref S) b (chunks n m rs) := ⟨S, x, rfl, upd_same, hx.same u6⟩
    have rowLen : ∀ t ∈ chunks n m rs, ∀ r ∈ t, r.length ≤ 1000 := fun t ht r hr => by
      have h1 : r ∈ R := by
        rw [eRc, ← ck1]
        exact List.mem_cons_of_mem _ (List.mem_flatten.mpr ⟨t, ht, hr⟩)
      rw [eR2] at h1
      obtain ⟨l, hl, rfl⟩ := List.mem_map.mp h1
      rw [List.length_map]
      have := PyProof.Rows.split_le l " "
      have := hmem l hl
      omega
    refine ⟨_, rfl, .ref S, chunks n m rs, b, rfl, hSch, by omega, fun t ht => ⟨by have := ck2 t ht; omega, rowLen t ht⟩, fun ok H7 s7 => ?_, fun nok C H7 mC s7 => ?_⟩
    · refine ⟨_, rfl, q b (chunks n m rs) ⟨n, m, rs, eRc, by omega, emul, rfl, ok, fun r hr e he => hKn r hr e he⟩ _ _ (((s04.trans s5).trans u6).trans s7) (hSch.same s7)⟩
    · rw [m_NoScheme] at mC
      cases mC
      refine ⟨c_NoScheme, _, rfl, x_NoScheme, by rw [List.contains_cons]; simp, qN (noW fun b' ts n1 m1 e _ _ h3 h4 => ?_) (((s04.trans s5).trans u6).trans s7)⟩
      obtain ⟨rfl, rfl, rfl⟩ := inj3 e
      rw [h3] at h4
      exact nok h4
end
end My


set_option maxHeartbeats 4000000
namespace L2
open PySem PySem.Spec PyProof.Rows
theorem pi_listK {X : Cx} {tg l : Expr} {tl : TE} (K : PySem.W.Frag) (hl : PE X l tl) (hK : X.K = K := by rfl) : PI X tg l (iList K tl) := hK ▸ pi_list hl
theorem toBM {X : Cx} {c : Expr} {T : String} {r : V → List V → Hp → VK → Prop} {to : TE} {t : TA} (K : PySem.W.Frag) (h : PE X c (tBM X.K T r to t)) (hK : X.K = K := by rfl) : PE X c (tBM K T r to t) := hK ▸ h
end L2
namespace My
open PySem L2 PyProof.Rows
theorem good_iff {l : List Nat} : goodW l = true ↔ ((l.length = 1 ∨ (l.length = 2 ∧ l[0]? ≠ some 48)) ∧ ∀ c ∈ l, dig c = true) := by
  match l with
  | [] => simp [goodW]
  | [a] => simp [goodW]
  | [a, b] => simp [goodW]
  | a :: b :: c :: r => simp [goodW]
theorem digits_are : ("0123456789" : Str).cps.toList = [48, 49, 50, 51, 52, 53, 54, 55, 56, 57] := by decide +kernel
theorem mem_digits {c : Nat} : c ∈ ("0123456789" : Str).cps.toList ↔ dig c = true := by
  rw [digits_are, dig_iff]
  constructor
  · intro h
    simp at h
    omega
  · intro h
    have : c = 48 ∨ c = 49 ∨ c = 50 ∨ c = 51 ∨ c = 52 ∨ c = 53 ∨ c = 54 ∨ c = 55 ∨ c = 56 ∨ c = 57 := by omega
    simpa using this
theorem zero_is : ("0" : Str) = ⟨#[48]⟩ := by decide +kernel
noncomputable def spNumber : Sp := fun vs H Q _ => ∃ z : Str, vs = [.str z] ∧ z.length ≤ 998 ∧ Q (.int (lawNum z)) H
noncomputable def spDue : Sp := fun vs H Q _ => ∃ z : Str, vs = [.str z] ∧ z.length ≤ 998 ∧ (∀ b ts, Writes (rowsOf z) b ts → ∀ x H', Same H H' → SchAt H' x b ts → Q x H') ∧ ((¬ ∃ b ts, Writes (rowsOf z) b ts) → ∀ H', Same H H' → Q .non H')

noncomputable def LRow (D : Addr) (H : Hp) (v : V) (r : List Int) : Prop := ∃ a, v = .ref a ∧ a ≠ D ∧ H a = some (.lst (r.map V.int))
theorem LRow.same {D : Addr} {H H' : Hp} {v : V} {r : List Int} (s : Same H H') (h : LRow D H v r) : LRow D H' v r := by
  obtain ⟨a, e, n, h⟩ := h
  exact ⟨a, e, n, s _ _ h⟩
section
variable {P : Program} {w : World} {K : PySem.W.Frag} {mg : Str → Option Value} {base : Heap}
noncomputable abbrev s__law_number : Stmt := top 33
theorem sc__law_number : FnScope ["word", "mark"] ["word"] (defScope s__law_number) := ⟨rfl, rfl, rfl, by decide +kernel, rfl, by decide +kernel, by decide +kernel⟩
theorem ok__law_number {f : Addr} {fd : FuncData} (F : Fun K "_law_number" "_law_number" s__law_number f fd) (B : Blt mg)   :
    FnOk P w K mg base CX0 1 f fd ["word"] spNumber := by
  refine F.ok sc__law_number (fun vs H Q E h => ?_) (fun cdv A outer s H vs Q E hr h => ?_)
  · obtain ⟨_, rfl, _⟩ := h
    rfl
  · obtain ⟨z, rfl, hzl, q⟩ := h
    have nd := sc__law_number.nd
    have hsz : z.length ≤ sizeLine := Nat.le_of_lt (smallM (by omega))
    have hlc : z.cps.toList.length = z.length := (str_len z).symm
    have bad : goodW z.cps.toList = false → Q (.int (-1)) H := fun h => by
      rw [lawNum_bad h] at q
      exact q
    have notGood : ¬ (goodW z.cps.toList = true) → Q (.int (-1)) H := fun h => bad (by simpa using h)
    refine ⟨_, (pss_cons (ps_if (PW.pt (pw_or (pt_cmpR op_lt (pe_callB call_len_str rfl B.len PySem.boot_len (pa_cons (pv 0) pa_nil)) pe_int (nomark _)) (pw_or (pt_cmpR op_gt (pe_callB call_len_str rfl B.len PySem.boot_len (pa_cons (pv 0) pa_nil)) pe_int (nomark _)) (pw_or1 (PW.pt (pw_and (pt_cmpR op_eq (pe_callB call_len_str rfl B.len PySem.boot_len (pa_cons (pv 0) pa_nil)) pe_int (nomark _)) (pw_and1 (pt_cmpR op_eq (pe_ix ix_str (pv 0) pe_int (fun _ _ => rfl)) pe_str (nomark _))))))))) (pss_one (ps_ret (pe_un un_neg pe_int))) pss_nil)
      (pss_cons (ps_for PassesOwn.never rfl (pi_str (pv 0)) (pg_name (i := 1) nd rfl (Or.inl rfl)) (pss_one (ps_if (pt_cmpR op_notIn_str (pv 1) pe_str rfl) (pss_one (ps_ret (pe_un un_neg pe_int))) pss_nil)))
      (pss_one (ps_ret (pe_callTy call_int_text rfl B.tInt boot_int (pa_cons (pv 0) pa_nil)))))), ?_⟩
    refine cut1 fun T1 hT1 => ?_
    refine (fun rest : (1 ≤ z.length → z.length ≤ 2 → (z.length = 2 → z.cps.toList[0]? ≠ some 48) → T1 _ [some (.str z), none] H) => ?_) (fun l1 l2 hno => hT1 _ _ ?_)
    · refine ⟨_, rfl, z, rfl, hsz, _, _, rfl, rfl, _, rfl, ite2 (fun c => ?_) (fun c1 => ?_)⟩
      · refine ⟨_, rfl, notGood fun g => ?_⟩
        have h1 := of_decide_eq_true c
        rcases (good_iff.mp g).1 with g | g <;> omega
      refine ⟨_, rfl, z, rfl, hsz, _, _, rfl, rfl, _, rfl, ite2 (fun c => ?_) (fun c2 => ?_)⟩
      · refine ⟨_, rfl, notGood fun g => ?_⟩
        have h1 := of_decide_eq_true c
        rcases (good_iff.mp g).1 with g | g <;> omega
      have l1 : 1 ≤ z.length := by
        have : ¬ (z.length : Int) < 1 := by simpa using c1
        omega
      have l2 : z.length ≤ 2 := by
        have : ¬ (2 : Int) < (z.length : Int) := by simpa using c2
        omega
      have rest := rest l1 l2
      refine ⟨_, rfl, z, rfl, hsz, rfl, _, rfl, ite2 (fun c3 => ?_) (fun c3 => ?_)⟩
      · have e2 : z.length = 2 := by
          have : (z.length : Int) = 2 := by simpa using c3
          omega
        obtain ⟨ch, hch⟩ : ∃ ch, z.cps.toList[0]? = some ch := ⟨_, List.getElem?_eq_getElem (by omega)⟩
        refine ⟨_, rfl, z, 0, ch, rfl, rfl, hsz, atI_nat (j := 0) hch, rfl, _, rfl, ite2 (fun c4 => ?_) (fun c4 => ?_)⟩
        · refine ⟨_, rfl, notGood fun g => ?_⟩
          have h4 : V.str ⟨#[ch]⟩ = V.str "0" := of_decide_eq_true c4
          rw [zero_is] at h4
          cases h4
          rcases (good_iff.mp g).1 with g | g
          · omega
          · exact g.2 hch
        · refine rest fun _ h => ?_
          rw [hch] at h
          have h4 : ¬ V.str ⟨#[ch]⟩ = V.str "0" := of_decide_eq_false (by simpa using c4)
          rw [zero_is] at h4
          cases h
          exact h4 rfl
      · refine iteF (rest fun e2 => ?_)
        have : ¬ (z.length : Int) = 2 := by simpa using c3
        omega
    · have gn : (∀ c ∈ z.cps.toList, dig c = true) → ∃ n : Nat, n < 100 ∧ z = numT (n : Int) := fun h2 => by
        refine good_num (good_iff.mpr ⟨?_, h2⟩)
        by_cases h : z.length = 2
        · exact .inr ⟨by omega, hno h⟩
        · exact .inl (by omega)
      obtain ⟨I1, hI1⟩ : ∃ I1 : Nat → L2.St → Hp → Prop, ∀ i σ H4, I1 i σ H4 ↔ ∃ o1, σ = [some (.str z), o1] ∧ H4 = H ∧ ∀ c ∈ z.cps.toList.take i, dig c = true := ⟨_, fun _ _ _ => Iff.rfl⟩
      refine ⟨_, rfl, z, rfl, for_str (z := z) I1 ((hI1 _ _ _).2 ⟨_, rfl, rfl, fun c hc => by rw [List.take_zero] at hc; cases hc⟩) ?_ ?_⟩
      · intro i c σ H4 hi zz
        obtain ⟨o1, rfl, rfl, hd⟩ := (hI1 _ _ _).1 zz
        clear zz
        have hc' : z.cps.toList[i]? = some c := by simpa using hi
        refine ⟨_, rfl, ⟨#[c]⟩, "0123456789", rfl, rfl, _, rfl, ?_⟩
        rw [StrLaws.found_one]
        refine ite2 (fun c5 => ?_) (fun c5 => ?_)
        · refine ⟨_, rfl, notGood fun g => ?_⟩
          have h1 := mem_digits.mpr ((good_iff.mp g).2 c (List.mem_of_getElem? hc'))
          rw [decide_eq_true h1] at c5
          cases c5
        · refine (hI1 _ _ _).2 ⟨_, rfl, rfl, fun x hx => ?_⟩
          rw [take_succ_get hc'] at hx
          rcases List.mem_append.mp hx with hx | hx
          · exact hd x hx
          · rw [List.mem_singleton.mp hx]
            refine mem_digits.mp ?_
            simpa using c5
      · intro σ H4 zz
        obtain ⟨o1, rfl, rfl, hd⟩ := (hI1 _ _ _).1 zz
        rw [show z.cps.size = z.cps.toList.length from Array.length_toList.symm, List.take_length] at hd
        obtain ⟨n, hn, rfl⟩ := gn hd
        rw [lawNum_num hn] at q
        exact ⟨_, rfl, _, (n : Int), rfl, PySem.W.KIN.num_reads (by omega) (by omega), by omega, q⟩
end
end My


set_option maxHeartbeats 8000000
namespace My
open PySem L2 PyProof.Rows
theorem no_writes {R : List (List Int)} (h : ∀ b n m rs, Conds R b n m rs → False) : ¬ ∃ b ts, Writes R b ts := fun ⟨_, _, wr⟩ => by
  obtain ⟨n, m, rs, c, _⟩ := writes_conds wr
  exact h _ n m rs c
theorem conds_head {hd : List Int} {rs rs' : List (List Int)} {b : Int} {n m : Nat} (h : Conds (hd :: rs) b n m rs') : hd = [b, (n : Int), (m : Int)] ∧ rs' = rs := by
  obtain ⟨e1, e2⟩ := List.cons.inj h.R'
  exact ⟨e1, e2.symm⟩
section
variable {P : Program} {w : World} {K : PySem.W.Frag} {mg : Str → Option Value} {base : Heap}
noncomputable abbrev s__law_due : Stmt := top 34
theorem sc__law_due : FnScope ["text", "rows", "head", "row", "tables", "turn", "first"] ["text"] (defScope s__law_due) := ⟨rfl, rfl, rfl, by decide +kernel, rfl, by decide +kernel, by decide +kernel⟩
theorem ok__law_due {f : Addr} {fd : FuncData} (F : Fun K "_law_due" "_law_due" s__law_due f fd) (B : Blt mg) (Mm : BltM mg) (h__law_number : Has P w K mg base "_law_number" 1 ["word"] spNumber) :
    FnOk P w K mg base CX0 2 f fd ["text"] spDue := by
  refine F.ok sc__law_due (fun vs H Q E h => ?_) (fun cdv A outer s H vs Q E hr h => ?_)
  · obtain ⟨_, rfl, _⟩ := h
    rfl
  · obtain ⟨z, rfl, hzl, q, qN⟩ := h
    have nd := sc__law_due.nd
    obtain ⟨ls, els⟩ : ∃ ls, ls = Txt.split z "\n" := ⟨_, rfl⟩
    have hll : ls.length ≤ 1000 := by
      have := PyProof.Rows.split_le z "\n"
      rw [els]
      omega
    have hl1 : 1 ≤ ls.length := by rw [els]; exact PyProof.Rows.split_pos z "\n"
    have hmem : ∀ l ∈ ls, l.length ≤ 998 := fun l hl => by
      rw [els] at hl
      exact Nat.le_trans (split_mem_len nl_len hl) hzl
    obtain ⟨R, eR⟩ : ∃ R, R = rowsOf z := ⟨_, rfl⟩
    have eR2 : R = ls.map fun l => (Txt.split l " ").map lawNum := by rw [eR, els]; rfl
    have hRl : R.length = ls.length := by rw [eR2, List.length_map]
    rw [← eR] at q qN
    have getR : ∀ k, k < ls.length → R.getD k [] = (Txt.split (ls.getD k ⟨#[]⟩) " ").map lawNum := fun k hk => by
      rw [eR2, List.getD_eq_getElem?_getD, List.getD_eq_getElem?_getD, List.getElem?_map, List.getElem?_eq_getElem hk]
      rfl
    refine ⟨_, (pss_cons (ps_setC (i := 1) (N := ["line"]) (js := [none]) nd rfl rfl rfl rfl (pi_list (pe_bm PySem.F.plainAttrs_str PySem.F.slot_str_split PySem.F.type_str_split mt_split (pv 0) (pa_cons pe_str pa_nil))) (fun _ _ _ _ => (pg_name (i := 0) (ndOf (N := ["line"]) (by decide +kernel)) rfl (Or.inl rfl))) (fun _ _ _ _ => pts_nil) (fun _ _ _ _ => (pe_comp (N := ["word"]) (js := [none]) rfl rfl (pi_listK K (toBM K (pe_bm PySem.F.plainAttrs_str PySem.F.slot_str_split PySem.F.type_str_split mt_split (pv 0) (pa_cons pe_str pa_nil)))) (fun _ _ _ _ => (pg_name (i := 0) (ndOf (N := ["word"]) (by decide +kernel)) rfl (Or.inl rfl))) (fun _ _ _ _ => pts_nil) (fun _ _ _ _ => (pe_fn h__law_number (hr.mono (by decide)) (pa_cons (pv 0) pa_nil))))))
      (pss_cons (ps_set (i := 2) nd rfl (Or.inl rfl) (pe_ix ix_list (pv 1) pe_int (fun _ _ => rfl)))
      (pss_cons (ps_if (PW.pt (pw_or (pt_cmpR op_ne (pe_callB call_len_seq rfl B.len PySem.boot_len (pa_cons (pv 2) pa_nil)) pe_int (nomark _)) (pw_or (pt_not (pt_chain op_le op_le pe_int (pe_ix ix_list (pv 2) pe_int (fun _ _ => rfl)) pe_int)) (pw_or (pt_not (pt_chain op_le op_le pe_int (pe_ix ix_list (pv 2) pe_int (fun _ _ => rfl)) pe_int)) (pw_or1 (pt_not (pt_chain op_le op_le pe_int (pe_ix ix_list (pv 2) pe_int (fun _ _ => rfl)) pe_int))))))) (pss_one (ps_ret pe_non)) pss_nil)
      (pss_cons (ps_if (pt_cmpR op_ne (pe_callB call_len_seq rfl B.len PySem.boot_len (pa_cons (pv 1) pa_nil)) (pe_op op_add pe_int (pe_op op_mul (pe_ix ix_list (pv 2) pe_int (fun _ _ => rfl)) (pe_ix ix_list (pv 2) pe_int (fun _ _ => rfl)))) (nomark _)) (pss_one (ps_ret pe_non)) pss_nil)
      (pss_cons (ps_for PassesOwn.never rfl (pi_list (pe_slice sl_list (pv 1) (po_some pe_int) po_none)) (pg_name (i := 3) nd rfl (Or.inl rfl)) (pss_one (ps_if (PW.pt (pw_or (pt_cmpR op_ne (pe_callB call_len_seq rfl B.len PySem.boot_len (pa_cons (pv 3) pa_nil)) (pe_ix ix_list (pv 2) pe_int (fun _ _ => rfl)) (nomark _)) (pw_or (pt_cmpR op_lt (pe_callB (call_minL rfl) rfl Mm.min boot_min (pa_cons (pv 3) pa_nil)) pe_int (nomark _)) (pw_or1 (pt_cmpR op_ge (pe_callB (call_maxL rfl) rfl Mm.max boot_max (pa_cons (pv 3) pa_nil)) (pe_ix ix_list (pv 2) pe_int (fun _ _ => rfl)) (nomark _)))))) (pss_one (ps_ret pe_non)) pss_nil)))
      (pss_cons (ps_set (i := 4) nd rfl (Or.inl rfl) (pe_lst pa_nil))
      (pss_cons (ps_for PassesOwn.never rfl (pi_range1 rfl B.range (pa_cons (pe_ix ix_list (pv 2) pe_int (fun _ _ => rfl)) pa_nil)) (pg_name (i := 5) nd rfl (Or.inl rfl)) (pss_cons (ps_set (i := 6) nd rfl (Or.inl rfl) (pe_op op_add pe_int (pe_op op_mul (pv 5) (pe_ix ix_list (pv 2) pe_int (fun _ _ => rfl)))))
      (pss_one (ps_expr (pe_bm PySem.F.plainAttrs_list PySem.F.slot_list_append PySem.F.type_list_append mt_append (pv 4) (pa_cons (pe_callTy call_tuple_of rfl B.tTuple boot_tuple (pa_cons (pe_comp (N := ["row"]) (js := [none]) rfl rfl (pi_list (pe_slice sl_list (pv 1) (po_some (pv 6)) (po_some (pe_op op_add (pv 6) (pe_ix ix_list (pv 2) pe_int (fun _ _ => rfl)))))) (fun _ _ _ _ => (pg_name (i := 0) (ndOf (N := ["row"]) (by decide +kernel)) rfl (Or.inl rfl))) (fun _ _ _ _ => pts_nil) (fun _ _ _ _ => (pe_callTy (call_tuple_ofK K) rfl B.tTuple boot_tuple (pa_cons (pv 0) pa_nil)))) pa_nil)) pa_nil))))))
      (pss_one (ps_ret (pe_tup (pa_cons (pe_ix ix_list (pv 2) pe_int (fun _ _ => rfl)) (pa_cons (pe_callTy call_tuple_of rfl B.tTuple boot_tuple (pa_cons (pv 4) pa_nil)) pa_nil)))))))))))), ?_⟩
    refine ⟨_, rfl, rfl, z, "\n", rfl, rfl, by decide +kernel, Nat.le_of_lt (smallM (by omega)), fun W hW => ?_⟩
    rw [← els]
    have u1 := Same.new (o := HO.lst (ls.map V.str)) hW
    have hS1 : SqL K (upd H W (.lst (ls.map V.str))) W (ls.map V.str) := SqL.of upd_same
    generalize upd H W (.lst (ls.map V.str)) = H2 at u1 hS1 ⊢
    have wk := Walk.lst (K := K) hS1
    rw [List.length_map] at wk
    refine ⟨W, rfl, ⟨_, hS1⟩, ?_⟩
    refine block_rel wk hll rfl (fun _ => true) (fun D k y H' => LRow D H' y (R.getD k [])) (fun D k v ys H1 H2 fr hD h => ?_) (fun k H3 Q' _ _ q' => q' _ (Same.refl _)) (fun D k ys H3 Q' hk' _ hD hD3 s3 q' => ?_) (fun D ys H3 hD s3 hDl pr => ?_)
    · obtain ⟨x, e, n, h⟩ := h
      exact ⟨x, e, n, fr _ _ n h⟩
    · rw [str_getD hk']
      have gm : ls.getD k ⟨#[]⟩ ∈ ls := by
        rw [List.getD_eq_getElem?_getD, List.getElem?_eq_getElem hk']
        exact List.getElem_mem hk'
      have gR := getR k hk'
      rw [gR] at q'
      have hlen := hmem _ gm
      obtain ⟨l, el⟩ : ∃ l, l = ls.getD k ⟨#[]⟩ := ⟨_, rfl⟩
      rw [← el] at q' hlen ⊢
      obtain ⟨ws, ews⟩ : ∃ ws, ws = Txt.split l " " := ⟨_, rfl⟩
      have hwl : ws.length ≤ 1000 := by
        have := PyProof.Rows.split_le l " "
        rw [ews]
        omega
      refine ⟨_, rfl, rfl, l, " ", rfl, rfl, by decide +kernel, Nat.le_of_lt (smallM (by omega)), fun W2 hW2 => ?_⟩
      rw [← ews] at q' ⊢
      have u4 := Same.new (o := HO.lst (ws.map V.str)) hW2
      have hS4 : SqL K (upd H3 W2 (.lst (ws.map V.str))) W2 (ws.map V.str) := SqL.of upd_same
      have hD4 := u4 _ _ hD3
      generalize upd H3 W2 (.lst (ws.map V.str)) = H4 at u4 hS4 hD4 ⊢
      have wk4 := Walk.lst (K := K) hS4
      rw [List.length_map] at wk4
      refine ⟨W2, rfl, ⟨_, hS4⟩, ?_⟩
      refine block_map wk4 hwl rfl (fun j => .int (lawNum (ws.getD j ⟨#[]⟩))) (fun j H5 Q2 hj s5 q2 => ?_) (fun D2 H5 hD2 s5 hDl2 => ?_)
      · rw [str_getD hj]
        have gm2 : ws.getD j ⟨#[]⟩ ∈ ws := by
          rw [List.getD_eq_getElem?_getD, List.getElem?_eq_getElem hj]
          exact List.getElem_mem hj
        refine ⟨_, rfl, ws.getD j ⟨#[]⟩, rfl, ?_, q2 _ (Same.refl _)⟩
        rw [ews] at gm2
        have := split_mem_len bl_len gm2
        rw [← ews] at this
        omega
      · rw [range_map_getD ws ⟨#[]⟩ (fun w => V.int (lawNum w))] at hDl2
        have hDl3 : H5 D2 = some (.lst ((ws.map lawNum).map V.int)) := by
          rw [hDl2, List.map_map]
          rfl
        exact q' (.ref D2) H5 (u4.trans s5) ⟨D2, rfl, (fun e => by rw [e, hD4] at hD2; cases hD2), hDl3⟩
    rw [List.filter_eq_self.mpr (fun _ _ => rfl)] at pr
    have eM : (List.range ls.length).map (fun k => R.getD k []) = R := by rw [← hRl]; exact (range_map_getD R [] id).trans (List.map_id _)
    have p2 := paired_mapN (F := LRow D H3) (f := fun k => R.getD k []) (fun _ _ h => h) pr
    rw [eM] at p2
    clear pr eM
    obtain ⟨hd, rs, eRc⟩ : ∃ hd rs, R = hd :: rs := by
      cases eq : R with
      | nil => rw [eq] at hRl; simp at hRl; omega
      | cons a b => exact ⟨a, b, rfl⟩
    have s03 : Same H H3 := u1.trans s3
    rw [eRc] at p2 q qN
    have hrl : rs.length ≤ 1000 := by
      rw [eRc, List.length_cons] at hRl
      omega
    have rowLen : ∀ r ∈ rs, r.length ≤ 1000 := fun r hr => by
      have h1 : r ∈ R := by rw [eRc]; exact List.mem_cons_of_mem _ hr
      rw [eR2] at h1
      obtain ⟨l, hl, rfl⟩ := List.mem_map.mp h1
      rw [List.length_map]
      have := PyProof.Rows.split_le l " "
      have := hmem l hl
      omega
    clear hRl getR eR eR2 eRc R hmem hll hl1 els wk hS1 u1 s3
    obtain ⟨y0, yr, rfl, ⟨aH, rfl, _, haH⟩, pR⟩ : ∃ y0 yr, ys = y0 :: yr ∧ LRow D H3 y0 hd ∧ Paired (LRow D H3) yr rs := by
      cases p2 with
      | cons h t => exact ⟨_, _, rfl, h, t⟩
    have hyl : yr.length = rs.length := paired_length pR
    refine ⟨_, rfl, D, _, 0, _, rfl, rfl, SqL.of hDl, atI_nat (j := 0) rfl, ?_⟩
    refine cut4 fun T1 hT1 => ?_
    refine ⟨_, rfl, aH, _, rfl, .inl (SqL.of haH), rfl, _, rfl, ite2 (fun c => ?_) (fun c => ?_)⟩
    · refine qN (no_writes fun b n m rs' cd => ?_) _ s03
      obtain ⟨e, _⟩ := conds_head cd
      rw [e] at c
      rw [dneR (show V.int (([b, (n : Int), (m : Int)].map V.int).length : Int) = V.int 3 from rfl)] at c
      cases c
    have hd3 : hd.length = 3 := by
      have c' : ¬ ((hd.map V.int).length : Int) ≠ 3 := by simpa using c
      rw [List.length_map] at c'
      omega
    obtain ⟨b, n', m', rfl⟩ : ∃ b n m, hd = [b, n, m] := by
      match hd, hd3 with
      | [b, n, m], _ => exact ⟨b, n, m, rfl⟩
    clear c hd3
    have inj3 : ∀ {b' : Int} {n1 m1 : Nat} {rs'}, Conds ([b, n', m'] :: rs) b' n1 m1 rs' → b = b' ∧ n' = (n1 : Int) ∧ m' = (m1 : Int) ∧ rs' = rs := fun cd => by
      obtain ⟨e1, e2⟩ := conds_head cd
      obtain ⟨e3, e4⟩ := List.cons.inj e1
      obtain ⟨e5, e6⟩ := List.cons.inj e4
      obtain ⟨e7, _⟩ := List.cons.inj e6
      exact ⟨e3, e5, e7, e2⟩
    have out : (∀ b' (n1 m1 : Nat), b = b' → n' = (n1 : Int) → m' = (m1 : Int) → Conds ([b, n', m'] :: rs) b' n1 m1 rs → False) → Q .non H3 := fun h => qN (no_writes fun b' n1 m1 rs' cd => by
      obtain ⟨e1, e2, e3, e4⟩ := inj3 cd
      rw [e4] at cd
      exact h b' n1 m1 e1 e2 e3 cd) _ s03
    refine ⟨_, rfl, aH, _, 0, _, rfl, rfl, SqL.of haH, rfl, _, _, rfl, rfl, _, rfl, ite2 (fun c1 => ⟨_, _, rfl, rfl, _, rfl, ite2 (fun c2 => ?_) (fun c2 => ?_)⟩) (fun c1 => ⟨_, rfl, iteT ?_⟩)⟩
    · refine out fun b' n1 m1 e1 e2 e3 cd => ?_
      have := cd.b2
      have h2 : ¬ b ≤ 10 := by simpa using c2
      omega
    rotate_left
    · refine out fun b' n1 m1 e1 e2 e3 cd => ?_
      have := cd.b1
      have h2 : ¬ 2 ≤ b := by simpa using c1
      omega
    have b1 : 2 ≤ b := of_decide_eq_true c1
    have b2 : b ≤ 10 := by simpa using c2
    clear c1 c2
    refine ⟨_, rfl, aH, _, 1, _, rfl, rfl, SqL.of haH, rfl, _, _, rfl, rfl, _, rfl, ite2 (fun c1 => ⟨_, _, rfl, rfl, _, rfl, ite2 (fun c2 => ?_) (fun c2 => ?_)⟩) (fun c1 => ⟨_, rfl, iteT ?_⟩)⟩
    · refine out fun b' n1 m1 e1 e2 e3 cd => ?_
      have := cd.n2
      have h2 : ¬ n' ≤ 12 := by simpa using c2
      omega
    rotate_left
    · refine out fun b' n1 m1 e1 e2 e3 cd => ?_
      have := cd.n1
      have h2 : ¬ 1 ≤ n' := by simpa using c1
      omega
    have n1 : 1 ≤ n' := of_decide_eq_true c1
    have n2 : n' ≤ 12 := by simpa using c2
    clear c1 c2
    refine ⟨_, rfl, aH, _, 2, _, rfl, rfl, SqL.of haH, rfl, _, _, rfl, rfl, _, rfl, ite2 (fun c1 => ⟨_, _, rfl, rfl, _, rfl, ite2 (fun c2 => ?_) (fun c2 => ?_)⟩) (fun c1 => ⟨_, rfl, iteT ?_⟩)⟩
    · refine out fun b' n1 m1 e1 e2 e3 cd => ?_
      have := cd.m2
      have h2 : ¬ m' ≤ 6 := by simpa using c2
      omega
    rotate_left
    · refine out fun b' n1 m1 e1 e2 e3 cd => ?_
      have := cd.m1
      have h2 : ¬ 1 ≤ m' := by simpa using c1
      omega
    have m1 : 1 ≤ m' := of_decide_eq_true c1
    have m2 : m' ≤ 6 := by simpa using c2
    clear c1 c2
    obtain ⟨n, rfl⟩ : ∃ n : Nat, n' = (n : Int) := ⟨n'.toNat, by omega⟩
    obtain ⟨m, rfl⟩ : ∃ m : Nat, m' = (m : Int) := ⟨m'.toNat, by omega⟩
    refine ⟨_, rfl, D, _, rfl, .inl (SqL.of hDl), _, rfl, aH, _, 1, _, rfl, rfl, SqL.of haH, rfl, _, rfl, aH, _, 2, _, rfl, rfl, SqL.of haH, rfl, _, _, rfl, rfl, .inl ⟨by omega, by omega⟩, _, _, rfl, rfl, rfl, _, rfl, ite2 (fun c => ?_) (fun c => ?_)⟩
    · refine out fun b' n1 m1 e1 e2 e3 cd => ?_
      have e4 : n = n1 := by omega
      have e5 : m = m1 := by omega
      subst e4 e5
      have hl := cd.len
      rw [dneR (show V.int (((V.ref aH :: yr).length : Nat) : Int) = V.int (1 + (n : Int) * (m : Int)) from congrArg V.int (by rw [List.length_cons, hyl, hl, Int.natCast_add, Int.natCast_mul, Int.add_comm]; rfl))] at c
      cases c
    have emul : rs.length = n * m := by
      have c' : (((V.ref aH :: yr).length : Nat) : Int) = 1 + (n : Int) * (m : Int) := by simpa using c
      rw [List.length_cons, hyl] at c'
      have := Int.natCast_mul n m
      omega
    clear c
    -- each row
    refine ⟨_, rfl, _, rfl, D, _, rfl, SqL.of hDl, fun Rl hRl' => ?_⟩
    rw [show cutV (V.ref aH :: yr) (some 1) none = yr from cut_from (V.ref aH :: yr) 1]
    have u4 := Same.new (o := HO.lst yr) hRl'
    have hR4 : upd H3 Rl (.lst yr) Rl = some (.lst yr) := upd_same
    have haH4 := u4 _ _ haH
    have hDl4 := u4 _ _ hDl
    have pR4 := paired_imp (fun _ _ x => LRow.same u4 x) pR
    have s04 := s03.trans u4
    generalize upd H3 Rl (.lst yr) = H4 at u4 hR4 haH4 hDl4 pR4 s04 ⊢
    have out4 : (∀ b' (n1 m1 : Nat), b = b' → n = n1 → m = m1 → Conds ([b, (n : Int), (m : Int)] :: rs) b' n1 m1 rs → False) → Q .non H4 := fun h => qN (no_writes fun b' n1 m1 rs' cd => by
      obtain ⟨e1, e2, e3, e4⟩ := inj3 cd
      rw [e4] at cd
      exact h b' n1 m1 e1 (by omega) (by omega) cd) _ s04
    obtain ⟨I1, hI1⟩ : ∃ I1 : Nat → L2.St → Hp → Prop, ∀ i σ H5, I1 i σ H5 ↔ ∃ o3, σ = [some (.str z), some (.ref D), some (.ref aH), o3, none, none, none] ∧ H5 = H4 ∧ ∀ r ∈ rs.take i, (r.length : Int) = b ∧ ∀ e ∈ r, 0 ≤ e ∧ e < (n : Int) := ⟨_, fun _ _ _ => Iff.rfl⟩
    refine ⟨Rl, rfl, ⟨_, SqL.of hR4⟩, for_list (K := K) (a := Rl) (xs := yr) I1 ((hI1 _ _ _).2 ⟨_, rfl, rfl, fun r hr => by rw [List.take_zero] at hr; cases hr⟩) (fun i σ H5 _ zz => by
      obtain ⟨_, _, rfl, _⟩ := (hI1 _ _ _).1 zz
      exact SqL.of hR4) ?_ ?_⟩
    · intro i y σ H5 hi zz
      obtain ⟨o3, rfl, rfl, hok⟩ := (hI1 _ _ _).1 zz
      clear zz
      obtain ⟨r, er, ⟨ar, rfl, _, har⟩⟩ := paired_getL pR4 i _ hi
      have hrm := List.mem_of_getElem? er
      refine ⟨_, rfl, ar, _, rfl, .inl (SqL.of har), _, rfl, aH, _, 0, _, rfl, rfl, SqL.of haH4, rfl, rfl, _, rfl, ite2 (fun c => ?_) (fun c => ?_)⟩
      · refine out4 fun b' n1 m1 e1 e2 e3 cd => ?_
        have h1 := (cd.row r hrm).1
        rw [dneR (show V.int (((r.map V.int).length : Nat) : Int) = V.int b from congrArg V.int (by rw [List.length_map, e1]; exact h1))] at c
        cases c
      have hrb : (r.length : Int) = b := by
        have c' : (((r.map V.int).length : Nat) : Int) = b := by simpa using c
        rw [List.length_map] at c'
        exact c'
      have hne : r ≠ [] := fun e => by
        rw [e] at hrb
        simp at hrb
        omega
      refine ⟨_, rfl, ar, r, rfl, SqL.of har, hne, fun mn hmn hmin => ⟨_, _, rfl, rfl, _, rfl, ite2 (fun c1 => ?_) (fun c1 => ?_)⟩⟩
      · refine out4 fun b' n1 m1 e1 e2 e3 cd => ?_
        have h1 := (cd.row r hrm).2 mn hmn
        have h2 : mn < 0 := of_decide_eq_true c1
        omega
      have hmn0 : 0 ≤ mn := by
        have : ¬ mn < 0 := by simpa using c1
        omega
      refine ⟨_, rfl, ar, r, rfl, SqL.of har, hne, fun mx hmx hmax => ⟨_, rfl, aH, _, 1, _, rfl, rfl, SqL.of haH4, rfl, _, _, rfl, rfl, _, rfl, ite2 (fun c2 => ?_) (fun c2 => ?_)⟩⟩
      · refine out4 fun b' n1 m1 e1 e2 e3 cd => ?_
        have h1 := (cd.row r hrm).2 mx hmx
        have h2 : (n : Int) ≤ mx := of_decide_eq_true c2
        omega
      have hmxn : mx < (n : Int) := by
        have : ¬ (n : Int) ≤ mx := by simpa using c2
        omega
      refine (hI1 _ _ _).2 ⟨_, rfl, rfl, fun x hx => ?_⟩
      rw [take_succ_get er] at hx
      rcases List.mem_append.mp hx with hx | hx
      · exact hok x hx
      · rw [List.mem_singleton.mp hx]
        refine ⟨hrb, fun e he => ?_⟩
        have h1 := hmin e he
        have h2 := hmax e he
        omega
    intro σ H5 zz
    obtain ⟨o3, rfl, rfl, hok⟩ := (hI1 _ _ _).1 zz
    clear zz hI1
    rw [hyl, List.take_length] at hok
    refine hT1 _ _ ?_
    clear hT1
    have cd : Conds ([b, (n : Int), (m : Int)] :: rs) b n m rs := ⟨rfl, b1, b2, by omega, by omega, by omega, by omega, emul, hok⟩
    have emul2 : rs.length = m * n := by rw [emul, Nat.mul_comm]
    refine ⟨(by show 0 ≤ sizeLine; decide), fun lT hlT => ?_⟩
    have uT := Same.new (o := HO.lst []) hlT
    obtain ⟨I2, hI2⟩ : ∃ I2 : Nat → L2.St → Hp → Prop, ∀ i σ H6, I2 i σ H6 ↔ ∃ vs o5 o6, σ = [some (.str z), some (.ref D), some (.ref aH), o3, some (.ref lT), o5, o6] ∧ Same H5 H6 ∧ H6 lT = some (.lst vs) ∧ Paired (TabAt H6) vs ((chunks n m rs).take i) := ⟨_, fun _ _ _ => Iff.rfl⟩
    have ckl := chunks_len n m rs
    refine ⟨_, rfl, aH, _, 2, _, rfl, rfl, SqL.of (uT _ _ haH4), rfl, (m : Int), rfl, by omega, by omega, ?_⟩
    refine for_range I2 ((hI2 _ _ _).2 ⟨[], _, _, rfl, uT, upd_same, .nil⟩) ?_ ?_
    · intro i σ H6 hi zz
      obtain ⟨vs, o5, o6, rfl, s6, hT6, p6⟩ := (hI2 _ _ _).1 zz
      clear zz
      have hi : i < m := by omega
      have hvl : vs.length ≤ 6 := by
        rw [paired_length p6, List.length_take]
        omega
      have haH6 := s6 _ _ haH4
      refine ⟨_, rfl, _, rfl, aH, _, 1, _, rfl, rfl, SqL.of haH6, rfl, _, _, rfl, rfl, .inl ⟨by omega, by omega⟩, _, _, rfl, rfl, ?_⟩
      have hDl6 := s6 _ _ hDl4
      refine ⟨_, rfl, .inl ⟨rfl, _, SqL.of hT6⟩, _, rfl, _, rfl, _, rfl, _, rfl, _, rfl, aH, _, 1, _, rfl, rfl, SqL.of haH6, rfl, _, _, rfl, rfl, _, rfl, D, _, rfl, SqL.of hDl6, fun Cl hCl => ?_⟩
      have hin : i * n + n ≤ m * n := by
        have := Nat.mul_le_mul_right n (show i + 1 ≤ m by omega)
        rw [Nat.add_mul, Nat.one_mul] at this
        exact this
      have ecut : cutV (V.ref aH :: yr) (some (1 + (0 + (i : Int)) * (n : Int))) (some (1 + (0 + (i : Int)) * (n : Int) + (n : Int))) = (yr.drop (i * n)).take n := by
        have e1 : (1 + (0 + (i : Int)) * (n : Int)) = ((1 + i * n : Nat) : Int) := by
          rw [Int.zero_add, Int.natCast_add, Int.natCast_mul]
          rfl
        have e2 : ((1 + i * n : Nat) : Int) + (n : Int) = ((1 + i * n + n : Nat) : Int) := (Int.natCast_add _ _).symm
        rw [e1, e2, cut_run _ (by rw [List.length_cons, hyl, emul2]; omega), Nat.add_sub_cancel_left, Nat.add_comm 1, List.drop_succ_cons]
      rw [ecut]
      have u7 := Same.new (o := HO.lst ((yr.drop (i * n)).take n)) hCl
      have hC7 : upd H6 Cl (.lst ((yr.drop (i * n)).take n)) Cl = some (.lst ((yr.drop (i * n)).take n)) := upd_same
      have hT7 := u7 _ _ hT6
      have s7 := s6.trans u7
      have p7 := paired_imp (fun _ _ x => TabAt.same u7 x) p6
      generalize upd H6 Cl (.lst ((yr.drop (i * n)).take n)) = H7 at u7 hC7 hT7 s7 p7 ⊢
      have pk : Paired (LRow D H7) ((yr.drop (i * n)).take n) ((rs.drop (i * n)).take n) := paired_imp (fun _ _ x => LRow.same s7 x) (paired_takeN (paired_dropN pR4 (i * n)) n)
      obtain ⟨cs, ecs⟩ : ∃ cs, cs = (yr.drop (i * n)).take n := ⟨_, rfl⟩
      obtain ⟨t, et⟩ : ∃ t, t = (rs.drop (i * n)).take n := ⟨_, rfl⟩
      rw [← ecs] at hC7
      rw [← ecs, ← et] at pk
      have ecl : cs.length = t.length := paired_length pk
      have htl : t.length ≤ 12 := by rw [et, List.length_take]; omega
      have wk7 := Walk.lst (K := K) (SqL.of hC7)
      rw [ecl] at wk7
      refine ⟨Cl, rfl, ⟨_, SqL.of hC7⟩, ?_⟩
      refine block_rel wk7 (by omega) rfl (fun _ => true) (fun D2 k y H' => RowAt H' y (t.getD k [])) (fun D2 k v ys H1 H2 fr hD h => ?_) (fun k H3 Q' _ _ q' => q' _ (Same.refl _)) (fun D2 k ys H8 Q' hk' _ hD2 hD8 s8 q' => ?_) (fun D2 ys H8 hD2 s8 hDl8 pr => ?_)
      · obtain ⟨x, e, h⟩ := h
        exact ⟨x, e, fr _ _ (ne_of h hD (by intro z; cases z)) h⟩
      · obtain ⟨r', er'⟩ : ∃ r', t[k]? = some r' := ⟨_, List.getElem?_eq_getElem hk'⟩
        obtain ⟨x, ex, ⟨ar, rfl, _, har⟩⟩ := paired_get pk k _ er'
        have ed : cs.getD k .non = V.ref ar := by rw [List.getD_eq_getElem?_getD, ex]; rfl
        have ed' : t.getD k [] = r' := by rw [List.getD_eq_getElem?_getD, er']; rfl
        rw [ed]
        rw [ed'] at q'
        exact ⟨_, rfl, ar, _, rfl, .inl ⟨SqL.of (s8 _ _ har), fun l hl => q' _ _ (Same.new hl) ⟨l, rfl, upd_same⟩⟩⟩
      · rw [List.filter_eq_self.mpr (fun _ _ => rfl)] at pr
        have e : (List.range t.length).map (fun k => t.getD k []) = t := (range_map_getD t [] id).trans (List.map_id _)
        have p8 := paired_mapN (F := RowAt H8) (f := fun k => t.getD k []) (fun _ _ h => h) pr
        rw [e] at p8
        refine ⟨D2, ys, rfl, .inl ⟨SqL.of hDl8, fun tT htT => ?_⟩⟩
        have u9 := Same.new (o := HO.tup ys) htT
        have hT9 := u9 _ _ (s8 _ _ hT7)
        refine ⟨lT, _, _, rfl, rfl, hT9, smallM (by omega), (hI2 _ _ _).2 ⟨vs ++ [.ref tT], _, _, rfl, ((s7.trans s8).trans u9).put hlT, upd_same, ?_⟩⟩
        have fr : ∀ c o, c ≠ lT → upd H8 tT (.tup ys) c = some o → upd (upd H8 tT (.tup ys)) lT (.lst (vs ++ [.ref tT])) c = some o := fun c o n e => by rw [upd_ne n]; exact e
        rw [take_succ_get (chunks_get rs i hi), ← et]
        exact paired_snoc (paired_imp (fun _ _ x => (x.same (s8.trans u9)).frN fr hT9) p7) (TabAt.frN fr hT9 ⟨tT, ys, rfl, upd_same, paired_imp (fun _ _ x => x.same u9) p8⟩)
    · intro σ H6 zz
      obtain ⟨vs, o5, o6, rfl, s6, hT6, p6⟩ := (hI2 _ _ _).1 zz
      rw [Int.toNat_natCast] at p6
      rw [show (chunks n m rs).take m = chunks n m rs from List.take_of_length_le (by omega)] at p6
      refine ⟨_, rfl, aH, _, 0, _, rfl, rfl, SqL.of (s6 _ _ haH4), rfl, _, rfl, lT, _, rfl, .inl ⟨SqL.of hT6, fun tT htT => ⟨(by show 2 ≤ sizeLine; decide), fun S hS => ?_⟩⟩⟩
      have u7 := Same.new (o := HO.tup vs) htT
      have u8 := Same.new (o := HO.tup [V.int b, V.ref tT]) hS
      exact q b (chunks n m rs) (conds_writes cd) (.ref S) _ (((s04.trans s6).trans u7).trans u8) ⟨S, _, rfl, upd_same, tT, vs, rfl, u8 _ _ upd_same, paired_imp (fun _ _ x => x.same (u7.trans u8)) p6⟩
end
end My


set_option maxHeartbeats 4000000
namespace My
open PySem L2 PyProof.Rows
theorem tot_le {m : Nat} : ∀ {ts : List Str}, (∀ t ∈ ts, t.length + 1 ≤ m) → tot ts ≤ ts.length * m
  | [], _ => by simp [tot]
  | t :: ts, h => by
    have h1 := h t List.mem_cons_self
    have h2 := tot_le fun x hx => h x (List.mem_cons_of_mem _ hx)
    rw [tot_cons, List.length_cons, Nat.add_mul, Nat.one_mul]
    omega
theorem line12 {ns : List Int} (hne : ns ≠ []) (h4 : ns.length ≤ 4) (hk : ∀ n ∈ ns, 0 ≤ n ∧ n ≤ 12) : (lineT ns).length ≤ 12 := by
  have h := join_tot bl_len (ts := ns.map numT) fun z => hne (List.map_eq_nil_iff.mp z)
  have h2 := tot_le (m := 3) (ts := ns.map numT) fun t ht => by
    obtain ⟨n, hn, rfl⟩ := List.mem_map.mp ht
    have := numT_len (hk n hn).1 (hk n hn).2
    omega
  rw [List.length_map] at h2
  unfold lineT
  omega
theorem tot_sum (ts : List Str) : (ts.map (·.length)).sum + ts.length * (" " : Str).length = tot ts := by
  rw [bl_len, Nat.mul_one]
  rfl
theorem tot_sumN (ts : List Str) : (ts.map (·.length)).sum + ts.length * ("\n" : Str).length = tot ts := by
  rw [nl_len, Nat.mul_one]
  rfl
theorem join_leB (ts : List Str) : (Str.join " " ts).length ≤ tot ts := by
  have := StrLaws.join_length_le " " ts
  rw [tot_sum] at this
  exact this
theorem join_leN (ts : List Str) : (Str.join "\n" ts).length ≤ tot ts := by
  have := StrLaws.join_length_le "\n" ts
  rw [tot_sumN] at this
  exact this
noncomputable def spLLines : Sp := fun vs H Q _ => ∃ (v : V) (ts : List Tab) (b : Int), vs = [v] ∧ SchAt H v b ts ∧ Ok b ts ∧ b ≤ 4 ∧ ts.length ≤ 3 ∧ ∀ (D : Addr) (L : List Str) (H' : Hp), Same H H' → H D = none → H' D = some (.lst (L.map V.str)) → 1 ≤ L.length → L.length ≤ 37 → (∀ t ∈ L, t.length ≤ 12) → Q (.ref D) H'
noncomputable def spWorded : Sp := fun vs H Q _ => ∃ (z : Str) (f c : Int), vs = [.str z, .int f, .int c] ∧ z.length ≤ 12 ∧ ∀ (t : Str) (H' : Hp), Same H H' → t.length ≤ 20 → Q (.str t) H'
noncomputable def spFitted : Sp := fun vs H Q _ => ∃ (a : Addr) (b n m : Nat), vs = [.ref a] ∧ H a = some (.tup [.int (b : Int), .int (n : Int), .int (m : Int)]) ∧ b ≤ 11 ∧ n ≤ 13 ∧ m ≤ 7 ∧ n * m ≤ 13 ∧ ∀ (t : Str) (H' : Hp), Same H H' → t.length ≤ 500 → Q (.str t) H'
section
variable {P : Program} {w : World} {K : PySem.W.Frag} {mg : Str → Option Value} {base : Heap}
noncomputable abbrev s__law_lines : Stmt := top 29
theorem sc__law_lines : FnScope ["scheme", "lines", "table", "row"] ["scheme"] (defScope s__law_lines) := ⟨rfl, rfl, rfl, by decide +kernel, rfl, by decide +kernel, by decide +kernel⟩
theorem ok__law_lines {f : Addr} {fd : FuncData} (F : Fun K "_law_lines" "_law_lines" s__law_lines f fd) (B : Blt mg) (Tz : BltT mg)  :
    FnOk P w K mg base CX0 1 f fd ["scheme"] spLLines := by
  refine F.ok sc__law_lines (fun vs H Q E h => ?_) (fun cdv A outer s H vs Q E hr h => ?_)
  · obtain ⟨_, _, _, rfl, _⟩ := h
    rfl
  · obtain ⟨v, ts, b, rfl, hC, ok, hb4, ht3, q⟩ := h
    have nd := sc__law_lines.nd
    have t1 := ok.t1
    have n1 := ok.n1
    have n2 := ok.n2
    have b1 := ok.b1
    have lg : ∀ i : Int, 0 ≤ i → i ≤ 12 → i.natAbs.log2 < 1920 := fun i h0 h1 => by
      have h2 : i.natAbs ≤ 12 := by omega
      exact Nat.lt_of_le_of_lt (Nat.log2_le_self _) (by omega)
    obtain ⟨a0, vT, rfl, ha0, a1, vts, rfl, ha1, pT⟩ := id hC
    have el := paired_length pT
    have e0 : ts[0]? = some (ts.headD []) := by
      cases ts with
      | nil => simp at t1
      | cons t r => rfl
    obtain ⟨x0, ex0, ⟨a2, vrs, rfl, ha2, pR0⟩⟩ := paired_get pT 0 _ e0
    have hn0 : vrs.length = nst ts := paired_length pR0
    have hg : ∀ x ∈ [b, (vrs.length : Int), (vts.length : Int)], 0 ≤ x ∧ x ≤ 12 := fun x hx => by
      rcases List.mem_cons.mp hx with rfl | hx
      · omega
      rcases List.mem_cons.mp hx with rfl | hx
      · omega
      rcases List.mem_cons.mp hx with rfl | hx
      · omega
      cases hx
    have hH12 : (lineT [b, (vrs.length : Int), (vts.length : Int)]).length ≤ 12 := line12 (by simp) (by show 3 ≤ 4; omega) hg
    refine ⟨_, (pss_cons (ps_set (i := 1) nd rfl (Or.inl rfl) (pe_lst (pa_cons (pe_bm PySem.F.plainAttrs_str PySem.F.slot_str_join PySem.F.type_str_join mt_join pe_str (pa_cons (pe_lst (pa_cons (pe_callTy call_str_int rfl Tz.tStr boot_str (pa_cons (pe_ix ix_tup (pv 0) pe_int (fun _ _ => rfl)) pa_nil)) (pa_cons (pe_callTy call_str_int rfl Tz.tStr boot_str (pa_cons (pe_callB call_len_seq rfl B.len PySem.boot_len (pa_cons (pe_ix ix_tup (pe_ix ix_tup (pv 0) pe_int (fun _ _ => rfl)) pe_int (fun _ _ => rfl)) pa_nil)) pa_nil)) (pa_cons (pe_callTy call_str_int rfl Tz.tStr boot_str (pa_cons (pe_callB call_len_seq rfl B.len PySem.boot_len (pa_cons (pe_ix ix_tup (pv 0) pe_int (fun _ _ => rfl)) pa_nil)) pa_nil)) pa_nil)))) pa_nil)) pa_nil)))
      (pss_cons (ps_for PassesOwn.never rfl (pi_tup (pe_ix ix_tup (pv 0) pe_int (fun _ _ => rfl))) (pg_name (i := 2) nd rfl (Or.inl rfl)) (pss_one (ps_for PassesOwn.never rfl (pi_tup (pv 2)) (pg_name (i := 3) nd rfl (Or.inl rfl)) (pss_one (ps_expr (pe_bm PySem.F.plainAttrs_list PySem.F.slot_list_append PySem.F.type_list_append mt_append (pv 1) (pa_cons (pe_bm PySem.F.plainAttrs_str PySem.F.slot_str_join PySem.F.type_str_join mt_join pe_str (pa_cons (pe_comp (N := ["state"]) (js := [none]) rfl rfl (pi_tup (pv 3)) (fun _ _ _ _ => (pg_name (i := 0) (ndOf (N := ["state"]) (by decide +kernel)) rfl (Or.inl rfl))) (fun _ _ _ _ => pts_nil) (fun _ _ _ _ => (pe_callTy call_str_int rfl Tz.tStr boot_str (pa_cons (pv 0) pa_nil)))) pa_nil)) pa_nil)))))))
      (pss_one (ps_ret (pv 1))))), ?_⟩
    refine ⟨rfl, _, rfl, a0, _, 0, _, rfl, rfl, SqT.of ha0, rfl, b, rfl, lg _ (by omega) (by omega), _, rfl, a0, _, 1, _, rfl, rfl, SqT.of ha0, rfl, a1, vts, 0, _, rfl, rfl, SqT.of ha1, atI_nat (j := 0) ex0, a2, vrs, rfl, .inr (SqT.of ha2), _, rfl, lg _ (by omega) (by omega), _, rfl, a0, _, 1, _, rfl, rfl, SqT.of ha0, rfl, a1, vts, rfl, .inr (SqT.of ha1), _, rfl, lg _ (by omega) (by omega), (by show 3 ≤ sizeLine; decide), fun lA hlA => ?_⟩
    have uA := Same.new (o := HO.lst ([numT b, numT (vrs.length : Int), numT (vts.length : Int)].map V.str)) hlA
    have l3 : tot [numT b, numT (vrs.length : Int), numT (vts.length : Int)] ≤ 16777216 := by
      have := tot_le (m := 3) (ts := [numT b, numT (vrs.length : Int), numT (vts.length : Int)]) fun t ht => by
        rcases List.mem_cons.mp ht with rfl | ht
        · have := numT_len (i := b) (by omega) (by omega); omega
        rcases List.mem_cons.mp ht with rfl | ht
        · have := numT_len (i := (vrs.length : Int)) (by omega) (by omega); omega
        rcases List.mem_cons.mp ht with rfl | ht
        · have := numT_len (i := (vts.length : Int)) (by omega) (by omega); omega
        cases ht
      simp at this
      omega
    refine ⟨" ", lA, [numT b, numT (vrs.length : Int), numT (vts.length : Int)], rfl, rfl, SqL.of upd_same, by rw [tot_sum]; exact l3, (by show 1 ≤ sizeLine; decide), fun lL hlL => ?_⟩
    have ha0A := uA _ _ ha0
    have ha1A := uA _ _ ha1
    have uL := Same.new (o := HO.lst [V.str (lineT [b, (vrs.length : Int), (vts.length : Int)])]) hlL
    have hlL0 : H lL = none := by
      cases e : H lL with
      | none => rfl
      | some o =>
        have := uA _ _ e
        rw [show upd H lA (HO.lst ([numT b, numT (vrs.length : Int), numT (vts.length : Int)].map V.str)) lL = none from hlL] at this
        cases this
    obtain ⟨H1, eH1⟩ : ∃ H1, H1 = upd H lA (HO.lst ([numT b, numT (vrs.length : Int), numT (vts.length : Int)].map V.str)) := ⟨_, rfl⟩
    rw [← eH1] at uA ha0A ha1A
    have hlL1 : H1 lL = none := by rw [eH1]; exact hlL
    have uL1 : Same H1 (upd H1 lL (.lst [V.str (lineT [b, (vrs.length : Int), (vts.length : Int)])])) := Same.new hlL1
    have goal2 : upd (upd H lA (HO.lst ([numT b, numT (vrs.length : Int), numT (vts.length : Int)].map V.str))) lL (.lst [V.str (lineT [b, (vrs.length : Int), (vts.length : Int)])]) = upd H1 lL (.lst [V.str (lineT [b, (vrs.length : Int), (vts.length : Int)])]) := by rw [eH1]
    obtain ⟨I1, hI1⟩ : ∃ I1 : Nat → L2.St → Hp → Prop, ∀ i σ H4, I1 i σ H4 ↔ ∃ (L : List Str) (o2 o3 : Option V), σ = [some (.ref a0), some (.ref lL), o2, o3] ∧ Same H1 H4 ∧ H4 lL = some (.lst (L.map V.str)) ∧ L.length = 1 + i * nst ts ∧ ∀ t ∈ L, t.length ≤ 12 := ⟨_, fun _ _ _ => Iff.rfl⟩
    refine ⟨_, rfl, a0, _, 1, _, rfl, rfl, SqT.of (show upd (upd H lA (HO.lst ([numT b, numT (vrs.length : Int), numT (vts.length : Int)].map V.str))) lL (.lst [V.str (lineT [b, (vrs.length : Int), (vts.length : Int)])]) a0 = _ by rw [goal2]; exact uL1 _ _ ha0A), rfl, a1, rfl, ⟨_, SqT.of (show upd (upd H lA (HO.lst ([numT b, numT (vrs.length : Int), numT (vts.length : Int)].map V.str))) lL (.lst [V.str (lineT [b, (vrs.length : Int), (vts.length : Int)])]) a1 = _ by rw [goal2]; exact uL1 _ _ ha1A)⟩, for_tup (K := K) (a := a1) (xs := vts) I1 ((hI1 _ _ _).2 ⟨[lineT [b, (vrs.length : Int), (vts.length : Int)]], _, _, rfl, (show Same H1 (upd (upd H lA (HO.lst ([numT b, numT (vrs.length : Int), numT (vts.length : Int)].map V.str))) lL (.lst [V.str (lineT [b, (vrs.length : Int), (vts.length : Int)])])) by rw [goal2]; exact uL1), upd_same, by simp, fun t ht => by rw [List.mem_singleton.mp ht]; exact hH12⟩) (fun i σ H4 _ zz => by
      obtain ⟨_, _, _, _, s4, _⟩ := (hI1 _ _ _).1 zz
      exact SqT.of (s4 _ _ ha1A)) ?_ ?_⟩
    · intro i y σ H4 hi zz
      obtain ⟨L, o2, o3, rfl, s4, hL4, hLl, hLb⟩ := (hI1 _ _ _).1 zz
      clear zz
      obtain ⟨t, et, hy⟩ := paired_getL pT i _ hi
      obtain ⟨aT, vr, rfl, hat, pr⟩ := hy.same (uA.trans s4)
      have htm := List.mem_of_getElem? et
      have ert := paired_length pr
      have hrl := ok.rows t htm
      have hil : i < ts.length := by
        have := (List.getElem?_eq_some_iff.mp et).1
        exact this
      have hin : i * nst ts ≤ 2 * 12 := Nat.mul_le_mul (by omega) n2
      obtain ⟨I2, hI2⟩ : ∃ I2 : Nat → L2.St → Hp → Prop, ∀ j σ H5, I2 j σ H5 ↔ ∃ (L : List Str) (o3 : Option V), σ = [some (.ref a0), some (.ref lL), some (.ref aT), o3] ∧ Same H1 H5 ∧ H5 aT = some (.tup vr) ∧ Paired (RowAt H5) vr t ∧ H5 lL = some (.lst (L.map V.str)) ∧ L.length = 1 + i * nst ts + j ∧ ∀ t ∈ L, t.length ≤ 12 := ⟨_, fun _ _ _ => Iff.rfl⟩
      refine ⟨_, rfl, aT, rfl, ⟨_, SqT.of hat⟩, for_tup (K := K) (a := aT) (xs := vr) I2 ((hI2 _ _ _).2 ⟨L, _, rfl, s4, hat, pr, hL4, by omega, hLb⟩) (fun j σ H5 _ zz => by
        obtain ⟨_, _, _, _, h, _⟩ := (hI2 _ _ _).1 zz
        exact SqT.of h) ?_ ?_⟩
      · intro j z σ H5 hj zz
        obtain ⟨L5, o3', rfl, s5, hat5, pr5, hL5, hLl5, hLb5⟩ := (hI2 _ _ _).1 zz
        clear zz
        obtain ⟨r, er, ⟨ar, rfl, har⟩⟩ := paired_getL pr5 j _ hj
        have hg := good_row ok htm (List.mem_of_getElem? er)
        have hr4 : r.length ≤ 4 := by
          have := ok.figs t htm r (List.mem_of_getElem? er)
          omega
        have hjl : j < t.length := (List.getElem?_eq_some_iff.mp er).1
        have wk := Walk.tup (K := K) (SqT.of har)
        rw [List.length_map] at wk
        refine ⟨_, rfl, .inl ⟨rfl, _, SqL.of hL5⟩, rfl, _, rfl, ar, rfl, ⟨_, SqT.of har⟩, ?_⟩
        refine block_map wk (by omega) rfl (fun k => .str (numT (r.getD k 0))) (fun k H6 Q' hk s6 q' => ?_) (fun D H6 hD s6 hDl => ?_)
        · have h1 : r.getD k 0 = r[k] := by rw [List.getD_eq_getElem?_getD, List.getElem?_eq_getElem hk]; rfl
          have h2 := hg.2.2 _ (List.getElem_mem hk)
          rw [← h1] at h2
          rw [show (r.map V.int).getD k .non = V.int (r.getD k 0) from int_getD hk]
          exact ⟨_, rfl, _, rfl, lg _ h2.1 h2.2, q' _ (Same.refl _)⟩
        · rw [range_map_getD r 0 (fun n => V.str (numT n))] at hDl
          have hm : r.map (fun n => V.str (numT n)) = (r.map numT).map V.str := by rw [List.map_map]; rfl
          rw [hm] at hDl
          have hsz := tot_le (m := 3) (ts := r.map numT) fun t ht => by
            obtain ⟨n, hn', rfl⟩ := List.mem_map.mp ht
            have := numT_len (hg.2.2 n hn').1 (hg.2.2 n hn').2
            omega
          rw [List.length_map] at hsz
          have hL6 := s6 _ _ hL5
          refine ⟨" ", D, r.map numT, rfl, rfl, SqL.of hDl, by rw [tot_sum]; omega, lL, _, _, rfl, rfl, hL6, smallM (by rw [List.length_map]; omega), (hI2 _ _ _).2 ⟨L5 ++ [lineT r], _, rfl, (s5.trans s6).put hlL1, ?_, ?_, ?_, by rw [List.length_append, hLl5]; rfl, fun t ht => ?_⟩⟩
          · rw [upd_ne (ne_of (s6 _ _ hat5) hL6 (by intro z; cases z))]
            exact s6 _ _ hat5
          · have fr : ∀ c o, c ≠ lL → H6 c = some o → upd H6 lL (.lst (L5.map V.str ++ [V.str (Str.join " " (r.map numT))])) c = some o := fun c o n e => by rw [upd_ne n]; exact e
            refine paired_imp (fun x r' hx => ?_) pr5
            obtain ⟨a3, e3, h3⟩ := hx
            exact ⟨a3, e3, fr _ _ (ne_of (s6 _ _ h3) hL6 (by intro z; cases z)) (s6 _ _ h3)⟩
          · rw [upd_same, List.map_append]
            rfl
          · rcases List.mem_append.mp ht with ht | ht
            · exact hLb5 t ht
            · rw [List.mem_singleton.mp ht]
              exact line12 hg.1 hr4 hg.2.2
      · intro σ H5 zz
        obtain ⟨L5, o3', rfl, s5, _, _, hL5, hLl5, hLb5⟩ := (hI2 _ _ _).1 zz
        refine (hI1 _ _ _).2 ⟨L5, _, _, rfl, s5, hL5, ?_, hLb5⟩
        rw [hLl5, ert, hrl, Nat.add_mul, Nat.one_mul]
        omega
    · intro σ H4 zz
      obtain ⟨L, o2, o3, rfl, s4, hL4, hLl, hLb⟩ := (hI1 _ _ _).1 zz
      have hin : vts.length * nst ts ≤ 3 * 12 := Nat.mul_le_mul (by omega) n2
      exact ⟨_, rfl, q lL L _ (uA.trans s4) hlL0 hL4 (by omega) (by omega) hLb⟩
end
end My


set_option maxHeartbeats 1000000
namespace L2
open PySem PySem.Spec PyProof.Rows
noncomputable def cstr (c : Str × Nat × Pos) : Expr := .Constant (.str c.1) c.2.1 c.2.2
noncomputable def tStrs (ts : List Str) : TA := fun _ H Q => Q (ts.map V.str) H
theorem pa_strs {X : Cx} : ∀ (cs : List (Str × Nat × Pos)), PA X (cs.map cstr) (tStrs (cs.map (·.1)))
  | [] => pa_nil
  | _ :: cs => pa_cons pe_str (pa_strs cs) rfl
theorem ps_strs {X : Cx} {st : Stmt} {i : Nat} {x : Str} {pos pos' p : Pos} (cs : List (Str × Nat × Pos)) (hst : st = .Assign [.Name x pos'] (.List (cs.map cstr) p) pos) (hN : X.N.Nodup) (hi : X.N[i]? = some x) (hx : Loc X.env.scope x)
    (hf : X.fn x = true ∨ X.env.scope.names.lookup x = some .local := by first | exact .inl rfl | exact .inr rfl | assumption) : PS X st (tAsg (tLst (tStrs (cs.map (·.1)))) (gName i)) := by
  subst hst
  exact ps_set hN hi hx (pe_lst (pa_strs cs)) rfl hf
theorem ps_eq {X : Cx} {a b : Stmt} {t : TS} (h : a = b) (p : PS X b t) : PS X a t := h ▸ p
theorem pss_eqC {X : Cx} {ss rs : List Stmt} {t : TS} (h : ss = rs) (p : PSs X rs t) : PSs X ss t := h ▸ p
structure CT where
  i : Int
  n1 : Nat
  p1 : Pos
  j : Int
  n2 : Nat
  p2 : Pos
  k : Int
  n3 : Nat
  p3 : Pos
  n4 : Nat
  p4 : Pos
noncomputable def ctup (c : CT) : Expr := .Tuple [.Constant (.int c.i) c.n1 c.p1, .Constant (.int c.j) c.n2 c.p2, .Constant (.int c.k) c.n3 c.p3] c.n4 c.p4
noncomputable def ctv (c : CT) : List V := [.int c.i, .int c.j, .int c.k]
noncomputable def tTups (cs : List CT) : TA := fun _ H Q => ∀ (as : List Addr) (H' : Hp), Same H H' → Paired (fun a c => H' a = some (.tup (ctv c))) as cs → Q (as.map V.ref) H'
theorem pe_ctup {X : Cx} (c : CT) : PE X (ctup c) (tTup (tCons (tC (.int c.i)) (tCons (tC (.int c.j)) (tCons (tC (.int c.k)) tNil)))) := pe_tup (pa_cons pe_int (pa_cons pe_int (pa_cons pe_int pa_nil)))
theorem pa_tups {X : Cx} : ∀ (cs : List CT), PA X (cs.map ctup) (tTups cs)
  | [] => fun pos pins s σ H Q I h => pa_nil pos pins s σ H Q I (h [] H (Same.refl _) .nil)
  | c :: cs => fun pos pins s σ H Q I h => (pa_cons (pe_ctup c) (pa_tups cs) rfl) pos pins s σ H Q I ⟨(by show 3 ≤ sizeLine; decide), fun p hp as H' s' pr => h (p :: as) H' ((Same.new hp).trans s') (.cons (s' _ _ upd_same) pr)⟩
theorem ps_tups {X : Cx} {st : Stmt} {i : Nat} {x : Str} {pos pos' p : Pos} (cs : List CT) (hst : st = .Assign [.Name x pos'] (.List (cs.map ctup) p) pos) (hN : X.N.Nodup) (hi : X.N[i]? = some x) (hx : Loc X.env.scope x)
    (hf : X.fn x = true ∨ X.env.scope.names.lookup x = some .local := by first | exact .inl rfl | exact .inr rfl | assumption) : PS X st (tAsg (tLst (tTups cs)) (gName i)) := by
  subst hst
  exact ps_set hN hi hx (pe_lst (pa_tups cs)) rfl hf

theorem ps_ifT {X : Cx} {st r : Stmt} {test : Expr} {i : Nat} {x : Str} {pos pos' p ipos : Pos} {tt : TT} {tr : TS} (cs : List CT) (hst : st = .If test [.Assign [.Name x pos'] (.List (cs.map ctup) p) pos, r] [] ipos) (hN : X.N.Nodup) (hi : X.N[i]? = some x) (hx : Loc X.env.scope x) (ht : PT X test tt) (hr : PS X r tr)
    (hf : X.fn x = true ∨ X.env.scope.names.lookup x = some .local := by first | exact .inl rfl | exact .inr rfl | assumption) : PS X st (tIfS tt (tSeq (tAsg (tLst (tTups cs)) (gName i)) tr) tNext) := by
  subst hst
  exact ps_if ht (pss_cons (ps_tups cs rfl hN hi hx hf) (pss_one hr)) pss_nil
end L2


set_option maxHeartbeats 4000000
namespace My
open PySem L2 PyProof.Rows
noncomputable def wordsL : List Str := ["0", "00", "-1", "01", "+1", "1_0", "", "12", "11", "1.", "100", "3"]
theorem wordsL_len : wordsL.length = 12 := by decide +kernel
theorem wordsL_short : ∀ t ∈ wordsL, t.length ≤ 3 := by decide +kernel
theorem strs_set {L : List Str} {k : Nat} {t : Str} : (L.map V.str).set k (V.str t) = (L.set k t).map V.str := (List.map_set ..).symm
section
variable {P : Program} {w : World} {K : PySem.W.Frag} {mg : Str → Option Value} {base : Heap}
noncomputable abbrev s__law_worded : Stmt := top 30
theorem sc__law_worded : FnScope ["line", "fault", "cell", "words", "some", "at", "word"] ["line", "fault", "cell"] (defScope s__law_worded) := ⟨rfl, rfl, rfl, by decide +kernel, rfl, by decide +kernel, by decide +kernel⟩
theorem ok__law_worded {f : Addr} {fd : FuncData} (F : Fun K "_law_worded" "_law_worded" s__law_worded f fd) (B : Blt mg)   :
    FnOk P w K mg base CX0 1 f fd ["line", "fault", "cell"] spWorded := by
  refine F.ok sc__law_worded (fun vs H Q E h => ?_) (fun cdv A outer s H vs Q E hr h => ?_)
  · obtain ⟨_, _, _, rfl, _⟩ := h
    rfl
  · obtain ⟨z, f', c, rfl, hzl, q⟩ := h
    have nd := sc__law_worded.nd
    obtain ⟨ws, ews⟩ : ∃ ws, ws = Txt.split z " " := ⟨_, rfl⟩
    have hwt : tot ws ≤ 13 := by
      rw [ews, split_tot bl_len]
      omega
    have hwl : ws.length ≤ 13 := by
      unfold tot at hwt
      omega
    obtain ⟨ss, hss⟩ : ∃ ss, ss = defBody s__law_worded := ⟨_, rfl⟩
    rw [← hss]
    obtain ⟨s0, hs0⟩ : ∃ s0, s0 = (defBody s__law_worded).getD 0 (.Pass ⟨0, 0, 0, 0⟩) := ⟨_, rfl⟩
    obtain ⟨s1, hs1⟩ : ∃ s1, s1 = (defBody s__law_worded).getD 1 (.Pass ⟨0, 0, 0, 0⟩) := ⟨_, rfl⟩
    obtain ⟨rs, hrs⟩ : ∃ rs, rs = (defBody s__law_worded).drop 2 := ⟨_, rfl⟩
    have hss' : ss = s0 :: s1 :: rs := by rw [hss, hs0, hs1, hrs]; rfl
    rw [hss']
    refine ⟨_, pss_cons (ps_eq hs0 (ps_set (i := 3) nd rfl (Or.inl rfl) (pe_bm PySem.F.plainAttrs_str PySem.F.slot_str_split PySem.F.type_str_split mt_split (pv 0) (pa_cons pe_str pa_nil)))) (pss_cons (ps_strs (i := 4) [(_, _, _), (_, _, _), (_, _, _), (_, _, _), (_, _, _), (_, _, _), (_, _, _), (_, _, _), (_, _, _), (_, _, _), (_, _, _), (_, _, _)] hs1 nd rfl (Or.inl rfl)) (pss_eqC hrs (pss_cons (ps_set (i := 5) nd rfl (Or.inl rfl) (pe_op op_mod (pv 2) (pe_op op_add (pe_callB call_len_seq rfl B.len PySem.boot_len (pa_cons (pv 3) pa_nil)) pe_int)))
      (pss_cons (ps_set (i := 6) nd rfl (Or.inl rfl) (pe_ix ix_list (pv 4) (pe_op op_mod (pe_op op_fdiv (pv 2) pe_int) pe_int) (fun _ _ => rfl)))
      (pss_cons (ps_if (pt_cmpR op_eq (pv 1) pe_int (nomark _)) (pss_one (ps_ret (pe_bm PySem.F.plainAttrs_str PySem.F.slot_str_join PySem.F.type_str_join mt_join pe_str (pa_cons (pe_op op_cat (pe_op op_cat (pe_slice sl_list (pv 3) po_none (po_some (pv 5))) (pe_lst (pa_cons (pv 6) pa_nil))) (pe_slice sl_list (pv 3) (po_some (pv 5)) po_none)) pa_nil)))) pss_nil)
      (pss_one (ps_ret (pe_bm PySem.F.plainAttrs_str PySem.F.slot_str_join PySem.F.type_str_join mt_join pe_str (pa_cons (pe_op op_cat (pe_op op_cat (pe_slice sl_list (pv 3) po_none (po_some (pv 5))) (pe_lst (pa_cons (pv 6) pa_nil))) (pe_slice sl_list (pv 3) (po_some (pe_op op_add (pv 5) pe_int)) po_none)) pa_nil))))))))), ?_⟩
    refine ⟨_, rfl, rfl, z, " ", rfl, rfl, by decide +kernel, Nat.le_of_lt (smallM (by omega)), fun W hW => ?_⟩
    rw [← ews]
    have u1 := Same.new (o := HO.lst (ws.map V.str)) hW
    have hW1 : upd H W (.lst (ws.map V.str)) W = some (.lst (ws.map V.str)) := upd_same
    generalize upd H W (.lst (ws.map V.str)) = H1 at u1 hW1 ⊢
    refine ⟨(by show 12 ≤ sizeLine; decide), fun l4 hl4 => ?_⟩
    have u2 := Same.new (o := HO.lst (wordsL.map V.str)) hl4
    have hl4' : upd H1 l4 (.lst (wordsL.map V.str)) l4 = some (.lst (wordsL.map V.str)) := upd_same
    have hW2 := u2 _ _ hW1
    have s2 := u1.trans u2
    show (tSeq _ _) _ _ (upd H1 l4 (.lst (wordsL.map V.str)))
    generalize upd H1 l4 (.lst (wordsL.map V.str)) = H2 at u2 hl4' hW2 s2 ⊢
    refine ⟨_, rfl, _, rfl, W, _, rfl, .inl (SqL.of hW2), _, _, rfl, rfl, _, _, rfl, rfl, (by show (0 : Int) < (((ws.map V.str).length : Nat) : Int) + 1; omega), ?_⟩
    obtain ⟨k, hk, hkl⟩ : ∃ k : Nat, c % ((((ws.map V.str).length : Nat) : Int) + 1) = (k : Int) ∧ k ≤ ws.length := by
      have h1 := Int.emod_nonneg c (show (((ws.map V.str).length : Nat) : Int) + 1 ≠ 0 by omega)
      have h2 := Int.emod_lt_of_pos c (show (0 : Int) < (((ws.map V.str).length : Nat) : Int) + 1 by omega)
      rw [List.length_map] at h1 h2 ⊢
      exact ⟨(c % ((ws.length : Int) + 1)).toNat, by omega, by omega⟩
    show gName 5 (V.int (c % ((((ws.map V.str).length : Nat) : Int) + 1))) _ _ _
    rw [hk]
    have hp : ∃ wd, wd.length ≤ 3 ∧ atI (wordsL.map V.str) (c / 13 % 12) = some (V.str wd) := by
      have h1 := Int.emod_nonneg (c / 13) (show (12 : Int) ≠ 0 by decide)
      have h2 := Int.emod_lt_of_pos (c / 13) (show (0 : Int) < 12 by decide)
      have hlt : (c / 13 % 12).toNat < wordsL.length := by rw [wordsL_len]; omega
      refine ⟨wordsL[(c / 13 % 12).toNat], wordsL_short _ (List.getElem_mem hlt), atI_int h1 ?_⟩
      rw [List.getElem?_map, List.getElem?_eq_getElem hlt]
      rfl
    obtain ⟨wd, hwd, hp⟩ := hp
    refine ⟨_, rfl, _, rfl, _, _, rfl, rfl, ⟨by decide, by decide⟩, _, _, rfl, rfl, (by show (0 : Int) < 12; decide), l4, _, _, _, rfl, rfl, SqL.of hl4', hp, ?_⟩
    have tk := tot_take ws k
    have tk1 := tot_take (ws.drop k) 1
    rw [List.drop_drop] at tk1
    refine ⟨_, rfl, rfl, _, rfl, ite2 (fun _ => ?_) (fun _ => ?_)⟩
    · refine ⟨rfl, _, rfl, _, rfl, _, rfl, W, _, rfl, SqL.of hW2, fun c1 hc1 => ?_⟩
      rw [cut_upto]
      have v1 := Same.new (o := HO.lst ((ws.map V.str).take k)) hc1
      refine ⟨_, rfl, (by show 1 ≤ sizeLine; decide), fun c2 hc2 => ?_⟩
      have v2 := Same.new (o := HO.lst [V.str wd]) hc2
      refine ⟨c1, c2, _, _, rfl, rfl, v2 _ _ upd_same, upd_same, ?_, fun c3 hc3 => ?_⟩
      · rw [List.length_take, List.length_map]
        exact Nat.le_of_lt (small1000 (by simp; omega))
      have v3 := Same.new (o := HO.lst ((ws.map V.str).take k ++ [V.str wd])) hc3
      refine ⟨_, rfl, _, rfl, _, rfl, W, _, rfl, SqL.of (v3 _ _ (v2 _ _ (v1 _ _ hW2))), fun c4 hc4 => ?_⟩
      rw [cut_from]
      have v4 := Same.new (o := HO.lst ((ws.map V.str).drop k)) hc4
      refine ⟨c3, c4, _, _, rfl, rfl, v4 _ _ upd_same, upd_same, ?_, fun c5 hc5 => ?_⟩
      · rw [List.length_append, List.length_take, List.length_drop, List.length_map]
        exact Nat.le_of_lt (small1000 (by simp; omega))
      have v5 := Same.new (o := HO.lst ((ws.map V.str).take k ++ [V.str wd] ++ (ws.map V.str).drop k)) hc5
      have em : (ws.map V.str).take k ++ [V.str wd] ++ (ws.map V.str).drop k = (ws.take k ++ [wd] ++ ws.drop k).map V.str := by
        rw [List.map_append, List.map_append, List.map_take, List.map_drop]
        rfl
      have ht : tot (ws.take k ++ [wd] ++ ws.drop k) ≤ 20 := by
        rw [tot_append, tot_append, tot_cons]
        have : tot ([] : List Str) = 0 := rfl
        omega
      refine ⟨" ", c5, ws.take k ++ [wd] ++ ws.drop k, rfl, rfl, SqL.of (by rw [upd_same, em]), by rw [tot_sum]; omega, q _ _ ((((((s2.trans v1).trans v2).trans v3).trans v4).trans v5)) ?_⟩
      have := join_leB (ws.take k ++ [wd] ++ ws.drop k)
      omega
    · refine ⟨rfl, _, rfl, _, rfl, _, rfl, W, _, rfl, SqL.of hW2, fun c1 hc1 => ?_⟩
      rw [cut_upto]
      have v1 := Same.new (o := HO.lst ((ws.map V.str).take k)) hc1
      refine ⟨_, rfl, (by show 1 ≤ sizeLine; decide), fun c2 hc2 => ?_⟩
      have v2 := Same.new (o := HO.lst [V.str wd]) hc2
      refine ⟨c1, c2, _, _, rfl, rfl, v2 _ _ upd_same, upd_same, ?_, fun c3 hc3 => ?_⟩
      · rw [List.length_take, List.length_map]
        exact Nat.le_of_lt (small1000 (by simp; omega))
      have v3 := Same.new (o := HO.lst ((ws.map V.str).take k ++ [V.str wd])) hc3
      refine ⟨_, rfl, _, rfl, _, _, rfl, rfl, _, rfl, W, _, rfl, SqL.of (v3 _ _ (v2 _ _ (v1 _ _ hW2))), fun c4 hc4 => ?_⟩
      rw [show ((k : Int) + 1) = ((k + 1 : Nat) : Int) from rfl, cut_from]
      have v4 := Same.new (o := HO.lst ((ws.map V.str).drop (k + 1))) hc4
      refine ⟨c3, c4, _, _, rfl, rfl, v4 _ _ upd_same, upd_same, ?_, fun c5 hc5 => ?_⟩
      · rw [List.length_append, List.length_take, List.length_drop, List.length_map]
        exact Nat.le_of_lt (small1000 (by simp; omega))
      have v5 := Same.new (o := HO.lst ((ws.map V.str).take k ++ [V.str wd] ++ (ws.map V.str).drop (k + 1))) hc5
      have em : (ws.map V.str).take k ++ [V.str wd] ++ (ws.map V.str).drop (k + 1) = (ws.take k ++ [wd] ++ ws.drop (k + 1)).map V.str := by
        rw [List.map_append, List.map_append, List.map_take, List.map_drop]
        rfl
      have ht : tot (ws.take k ++ [wd] ++ ws.drop (k + 1)) ≤ 20 := by
        rw [tot_append, tot_append, tot_cons]
        have : tot ([] : List Str) = 0 := rfl
        omega
      refine ⟨" ", c5, ws.take k ++ [wd] ++ ws.drop (k + 1), rfl, rfl, SqL.of (by rw [upd_same, em]), by rw [tot_sum]; omega, q _ _ ((((((s2.trans v1).trans v2).trans v3).trans v4).trans v5)) ?_⟩
      have := join_leB (ws.take k ++ [wd] ++ ws.drop (k + 1))
      omega
end
end My


set_option maxHeartbeats 4000000
namespace My
open PySem L2 PyProof.Rows
theorem numT_len100 {n : Nat} (h : n < 100) : (numT (n : Int)).length ≤ 2 := by
  have := (good_iff.mp (num_good n h)).1
  rw [str_len]
  rcases this with g | g <;> omega
theorem lg100 {i : Int} (h0 : 0 ≤ i) (h1 : i ≤ 100) : i.natAbs.log2 < 1920 := by
  have h2 : i.natAbs ≤ 100 := by omega
  exact Nat.lt_of_le_of_lt (Nat.log2_le_self _) (by omega)
section
variable {P : Program} {w : World} {K : PySem.W.Frag} {mg : Str → Option Value} {base : Heap}
noncomputable abbrev s__law_fitted : Stmt := top 31
theorem sc__law_fitted : FnScope ["sizes", "base", "states", "turns", "lines", "k"] ["sizes"] (defScope s__law_fitted) := ⟨rfl, rfl, rfl, by decide +kernel, rfl, by decide +kernel, by decide +kernel⟩
theorem ok__law_fitted {f : Addr} {fd : FuncData} (F : Fun K "_law_fitted" "_law_fitted" s__law_fitted f fd) (B : Blt mg) (Tz : BltT mg)  :
    FnOk P w K mg base CX0 1 f fd ["sizes"] spFitted := by
  refine F.ok sc__law_fitted (fun vs H Q E h => ?_) (fun cdv A outer s H vs Q E hr h => ?_)
  · obtain ⟨_, _, _, _, rfl, _⟩ := h
    rfl
  · obtain ⟨a, b, n, m, rfl, ha, hb, hn, hm, hnm, q⟩ := h
    have nd := sc__law_fitted.nd
    have x1 := numT_len100 (n := b) (by omega)
    have x2 := numT_len100 (n := n) (by omega)
    have x3 := numT_len100 (n := m) (by omega)
    have sp : (" " : Str).length ≤ 1 := Nat.le_of_eq bl_len
    refine ⟨_, (pss_cons (ps_asg (pv 0) (pg_tup rfl (pgs_cons (pg_name (i := 1) nd rfl (Or.inl rfl)) (pgs_cons (pg_name (i := 2) nd rfl (Or.inl rfl)) (pgs_cons (pg_name (i := 3) nd rfl (Or.inl rfl)) pgs_nil)))))
      (pss_cons (ps_set (i := 4) nd rfl (Or.inl rfl) (pe_lst (pa_cons (pe_op op_add_str (pe_op op_add_str (pe_op op_add_str (pe_op op_add_str (pe_callTy call_str_int rfl Tz.tStr boot_str (pa_cons (pv 1) pa_nil)) pe_str) (pe_callTy call_str_int rfl Tz.tStr boot_str (pa_cons (pv 2) pa_nil))) pe_str) (pe_callTy call_str_int rfl Tz.tStr boot_str (pa_cons (pv 3) pa_nil))) pa_nil)))
      (pss_cons (ps_for PassesOwn.never rfl (pi_range1 rfl B.range (pa_cons (pe_op op_mul (pv 2) (pv 3)) pa_nil)) (pg_name (i := 5) nd rfl (Or.inl rfl)) (pss_one (ps_expr (pe_bm PySem.F.plainAttrs_list PySem.F.slot_list_append PySem.F.type_list_append mt_append (pv 4) (pa_cons (pe_bm PySem.F.plainAttrs_str PySem.F.slot_str_join PySem.F.type_str_join mt_join pe_str (pa_cons (pe_comp (N := ["figure"]) (js := [none]) rfl rfl (pi_range1 rfl B.range (pa_cons (pv 1) pa_nil)) (fun _ _ _ _ => (pg_name (i := 0) (ndOf (N := ["figure"]) (by decide +kernel)) rfl (Or.inl rfl))) (fun _ _ _ _ => pts_nil) (fun _ _ _ _ => pe_str)) pa_nil)) pa_nil)))))
      (pss_one (ps_ret (pe_bm PySem.F.plainAttrs_str PySem.F.slot_str_join PySem.F.type_str_join mt_join pe_str (pa_cons (pv 4) pa_nil))))))), ?_⟩
    refine ⟨_, rfl, a, _, rfl, SqT.of ha, rfl, _, _, rfl, _, _, rfl, _, _, rfl, rfl, ?_⟩
    refine ⟨_, rfl, _, rfl, lg100 (by omega) (by omega), _, _, rfl, rfl, szT x1 sp (by omega), _, rfl, _, rfl, lg100 (by omega) (by omega), _, _, rfl, rfl, szT (apT x1 sp) x2 (by omega), _, _, rfl, rfl, szT (apT (apT x1 sp) x2) sp (by omega), _, rfl, _, rfl, lg100 (by omega) (by omega), _, _, rfl, rfl, szT (apT (apT (apT x1 sp) x2) sp) x3 (by omega), (by show 1 ≤ sizeLine; decide), fun lL hlL => ?_⟩
    have hh := apT (apT (apT (apT x1 sp) x2) sp) x3
    obtain ⟨h0, eh0⟩ : ∃ h0 : Str, h0 = numT (b : Int) ++ " " ++ numT (n : Int) ++ " " ++ numT (m : Int) := ⟨_, rfl⟩
    rw [← eh0] at hh
    have uL := Same.new (o := HO.lst [V.str h0]) hlL
    obtain ⟨I1, hI1⟩ : ∃ I1 : Nat → L2.St → Hp → Prop, ∀ i σ H4, I1 i σ H4 ↔ ∃ (L : List Str) (o5 : Option V), σ = [some (.ref a), some (.int (b : Int)), some (.int (n : Int)), some (.int (m : Int)), some (.ref lL), o5] ∧ Same H H4 ∧ H4 lL = some (.lst (L.map V.str)) ∧ L.length = 1 + i ∧ ∀ t ∈ L, t.length ≤ 22 := ⟨_, fun _ _ _ => Iff.rfl⟩
    have enm : ((n : Int) * (m : Int)) = ((n * m : Nat) : Int) := (Int.natCast_mul _ _).symm
    refine ⟨_, rfl, _, rfl, _, _, rfl, rfl, .inl ⟨by omega, by omega⟩, (n : Int) * (m : Int), rfl, by omega, by omega, for_range I1 ((hI1 _ _ _).2 ⟨[h0], _, rfl, by rw [eh0] at uL; exact uL, by rw [eh0]; exact upd_same, rfl, fun t ht => by rw [List.mem_singleton.mp ht]; omega⟩) ?_ ?_⟩
    · intro i σ H4 hi zz
      obtain ⟨L, o5, rfl, s4, hL4, hLl, hLb⟩ := (hI1 _ _ _).1 zz
      clear zz
      refine ⟨_, rfl, .inl ⟨rfl, _, SqL.of hL4⟩, rfl, _, rfl, (b : Int), rfl, by omega, by omega, ?_⟩
      refine block_map (Walk.rng 0 (b : Int).toNat) (by omega) rfl (fun _ => .str "0") (fun k H5 Q' hk s5 q' => q' _ (Same.refl _)) (fun D H5 hD s5 hDl => ?_)
      obtain ⟨zs, ezs⟩ : ∃ zs : List Str, zs = (List.range (b : Int).toNat).map fun _ => ("0" : Str) := ⟨_, rfl⟩
      have hDl' : H5 D = some (.lst (zs.map V.str)) := by
        rw [hDl, ezs, List.map_map]
        rfl
      have hz : tot zs ≤ 22 := by
        have := tot_le (m := 2) (ts := zs) fun t ht => by
          rw [ezs] at ht
          obtain ⟨_, _, rfl⟩ := List.mem_map.mp ht
          decide +kernel
        have hl : zs.length = b := by rw [ezs, List.length_map, List.length_range, Int.toNat_natCast]
        omega
      have hL5 := s5 _ _ hL4
      have hj := join_leB zs
      refine ⟨" ", D, zs, rfl, rfl, SqL.of hDl', by rw [tot_sum]; omega, lL, _, _, rfl, rfl, hL5, smallM (by rw [List.length_map]; omega), (hI1 _ _ _).2 ⟨L ++ [Str.join " " zs], _, rfl, (s4.trans s5).put hlL, by rw [upd_same, List.map_append]; rfl, by rw [List.length_append, hLl]; rfl, fun t ht => ?_⟩⟩
      rcases List.mem_append.mp ht with ht | ht
      · exact hLb t ht
      · rw [List.mem_singleton.mp ht]
        omega
    · intro σ H4 zz
      obtain ⟨L, o5, rfl, s4, hL4, hLl, hLb⟩ := (hI1 _ _ _).1 zz
      have ht := tot_le (m := 23) (ts := L) fun t ht => by have := hLb t ht; omega
      have hj := join_leN L
      exact ⟨rfl, _, rfl, "\n", lL, L, rfl, rfl, SqL.of hL4, by rw [tot_sumN]; omega, q _ _ s4 (by omega)⟩
end
end My


set_option maxHeartbeats 8000000
namespace My
open PySem L2 PyProof.Rows
noncomputable def spSpoilt : Sp := fun vs H Q _ => ∃ (v : V) (ts : List Tab) (b f c : Int), vs = [v, .int f, .int c] ∧ SchAt H v b ts ∧ Ok b ts ∧ b ≤ 4 ∧ ts.length ≤ 3 ∧ ∀ (t : Str) (H' : Hp), Same H H' → t.length ≤ 998 → Q (.str t) H'
theorem marks_len : ("0123 -+_.\n\tx9" : Str).cps.toList.length = 13 := by decide +kernel
theorem ixN_nat {n j : Nat} (h : j < n) : ixN n (j : Int) = some j := by
  unfold ixN
  rw [if_pos (by omega), if_pos (by omega)]
  simp
theorem seqIx_nat {n j : Nat} (h : j < n) : seqIndex? (j : Int) n = some j := (ixN_seq (ixN_nat h)).1
theorem short_set {L : List Str} {k m : Nat} {t : Str} (h : ∀ x ∈ L, x.length ≤ m) (ht : t.length ≤ m) : ∀ x ∈ L.set k t, x.length ≤ m := fun x hx => by
  rcases List.mem_or_eq_of_mem_set hx with hx | rfl
  · exact h x hx
  · exact ht
theorem str_at {L : List Str} {k : Nat} (h : k < L.length) : atI (L.map V.str) (k : Int) = some (V.str L[k]) := atI_nat (by rw [List.getElem?_map, List.getElem?_eq_getElem h]; rfl)
theorem map_erase {α β : Type} (f : α → β) : ∀ (l : List α) (k : Nat), (l.map f).eraseIdx k = (l.eraseIdx k).map f
  | [], _ => rfl
  | _ :: _, 0 => rfl
  | a :: l, k + 1 => by
    show f a :: (l.map f).eraseIdx k = f a :: (l.eraseIdx k).map f
    rw [map_erase f l k]
section
variable {P : Program} {w : World} {K : PySem.W.Frag} {mg : Str → Option Value} {base : Heap}
noncomputable abbrev s__law_spoilt : Stmt := top 32
theorem sc__law_spoilt : FnScope ["scheme", "fault", "cell", "lines", "text", "place", "mark", "at", "head", "some"] ["scheme", "fault", "cell"] (defScope s__law_spoilt) := ⟨rfl, rfl, rfl, by decide +kernel, rfl, by decide +kernel, by decide +kernel⟩
theorem ok__law_spoilt {f : Addr} {fd : FuncData} (F : Fun K "_law_spoilt" "_law_spoilt" s__law_spoilt f fd) (B : Blt mg) (Tz : BltT mg) (h__law_lines : Has P w K mg base "_law_lines" 1 ["scheme"] spLLines) (h__law_worded : Has P w K mg base "_law_worded" 1 ["line", "fault", "cell"] spWorded) (h__law_fitted : Has P w K mg base "_law_fitted" 1 ["sizes"] spFitted) :
    FnOk P w K mg base CX0 2 f fd ["scheme", "fault", "cell"] spSpoilt := by
  refine F.ok sc__law_spoilt (fun vs H Q E h => ?_) (fun cdv A outer s H vs Q E hr h => ?_)
  · obtain ⟨_, _, _, _, _, rfl, _⟩ := h
    rfl
  · obtain ⟨v, ts, b, f', c, rfl, hC, ok, hb4, ht3, q⟩ := h
    have nd := sc__law_spoilt.nd
    have t1 := ok.t1
    have n1 := ok.n1
    have n2 := ok.n2
    have b1 := ok.b1
    obtain ⟨ss, hss⟩ : ∃ ss, ss = defBody s__law_spoilt := ⟨_, rfl⟩
    rw [← hss]
    obtain ⟨s0, hs0⟩ : ∃ s, s = (defBody s__law_spoilt).getD 0 (.Pass ⟨0, 0, 0, 0⟩) := ⟨_, rfl⟩
    obtain ⟨s1, hs1⟩ : ∃ s, s = (defBody s__law_spoilt).getD 1 (.Pass ⟨0, 0, 0, 0⟩) := ⟨_, rfl⟩
    obtain ⟨s2, hs2⟩ : ∃ s, s = (defBody s__law_spoilt).getD 2 (.Pass ⟨0, 0, 0, 0⟩) := ⟨_, rfl⟩
    obtain ⟨s3, hs3⟩ : ∃ s, s = (defBody s__law_spoilt).getD 3 (.Pass ⟨0, 0, 0, 0⟩) := ⟨_, rfl⟩
    obtain ⟨s4, hs4⟩ : ∃ s, s = (defBody s__law_spoilt).getD 4 (.Pass ⟨0, 0, 0, 0⟩) := ⟨_, rfl⟩
    obtain ⟨s5, hs5⟩ : ∃ s, s = (defBody s__law_spoilt).getD 5 (.Pass ⟨0, 0, 0, 0⟩) := ⟨_, rfl⟩
    obtain ⟨s6, hs6⟩ : ∃ s, s = (defBody s__law_spoilt).getD 6 (.Pass ⟨0, 0, 0, 0⟩) := ⟨_, rfl⟩
    obtain ⟨s7, hs7⟩ : ∃ s, s = (defBody s__law_spoilt).getD 7 (.Pass ⟨0, 0, 0, 0⟩) := ⟨_, rfl⟩
    obtain ⟨s8, hs8⟩ : ∃ s, s = (defBody s__law_spoilt).getD 8 (.Pass ⟨0, 0, 0, 0⟩) := ⟨_, rfl⟩
    obtain ⟨s9, hs9⟩ : ∃ s, s = (defBody s__law_spoilt).getD 9 (.Pass ⟨0, 0, 0, 0⟩) := ⟨_, rfl⟩
    obtain ⟨s10, hs10⟩ : ∃ s, s = (defBody s__law_spoilt).getD 10 (.Pass ⟨0, 0, 0, 0⟩) := ⟨_, rfl⟩
    obtain ⟨s11, hs11⟩ : ∃ s, s = (defBody s__law_spoilt).getD 11 (.Pass ⟨0, 0, 0, 0⟩) := ⟨_, rfl⟩
    obtain ⟨s12, hs12⟩ : ∃ s, s = (defBody s__law_spoilt).getD 12 (.Pass ⟨0, 0, 0, 0⟩) := ⟨_, rfl⟩
    obtain ⟨s13, hs13⟩ : ∃ s, s = (defBody s__law_spoilt).getD 13 (.Pass ⟨0, 0, 0, 0⟩) := ⟨_, rfl⟩
    obtain ⟨s14, hs14⟩ : ∃ s, s = (defBody s__law_spoilt).getD 14 (.Pass ⟨0, 0, 0, 0⟩) := ⟨_, rfl⟩
    obtain ⟨s15, hs15⟩ : ∃ s, s = (defBody s__law_spoilt).getD 15 (.Pass ⟨0, 0, 0, 0⟩) := ⟨_, rfl⟩
    have hss' : ss = [s0, s1, s2, s3, s4, s5, s6, s7, s8, s9, s10, s11, s12, s13, s14, s15] := by rw [hss, hs0, hs1, hs2, hs3, hs4, hs5, hs6, hs7, hs8, hs9, hs10, hs11, hs12, hs13, hs14, hs15]; rfl
    rw [hss']
    clear hss'
    refine ⟨_, (pss_cons (ps_eq hs0 (ps_set (i := 3) nd rfl (Or.inl rfl) (pe_fn h__law_lines (hr.mono (by decide)) (pa_cons (pv 0) pa_nil))))
      (pss_cons (ps_eq hs1 (ps_set (i := 4) nd rfl (Or.inl rfl) (pe_bm PySem.F.plainAttrs_str PySem.F.slot_str_join PySem.F.type_str_join mt_join pe_str (pa_cons (pv 3) pa_nil))))
      (pss_cons (ps_eq hs2 (ps_set (i := 5) nd rfl (Or.inl rfl) (pe_op op_mod (pv 2) (pe_op op_add (pe_callB call_len_str rfl B.len PySem.boot_len (pa_cons (pv 4) pa_nil)) pe_int))))
      (pss_cons (ps_eq hs3 (ps_set (i := 6) nd rfl (Or.inl rfl) (pe_ix ix_str pe_str (pe_op op_mod (pe_op op_fdiv (pv 2) pe_int) pe_int) (fun _ _ => rfl))))
      (pss_cons (ps_eq hs4 (ps_set (i := 7) nd rfl (Or.inl rfl) (pe_op op_mod (pv 2) (pe_callB call_len_seq rfl B.len PySem.boot_len (pa_cons (pv 3) pa_nil)))))
      (pss_cons (ps_eq hs5 (ps_if (pt_cmpR op_eq (pv 1) pe_int (nomark _)) (pss_one (ps_ret (pe_op op_add_str (pe_op op_add_str (pe_slice sl_str (pv 4) po_none (po_some (pv 5))) (pv 6)) (pe_slice sl_str (pv 4) (po_some (pv 5)) po_none)))) pss_nil))
      (pss_cons (ps_eq hs6 (ps_if (pt_cmpR op_eq (pv 1) pe_int (nomark _)) (pss_one (ps_ret (pe_op op_add_str (pe_op op_add_str (pe_slice sl_str (pv 4) po_none (po_some (pv 5))) (pv 6)) (pe_slice sl_str (pv 4) (po_some (pe_op op_add (pv 5) pe_int)) po_none)))) pss_nil))
      (pss_cons (ps_eq hs7 (ps_if (pt_cmpR op_eq (pv 1) pe_int (nomark _)) (pss_one (ps_ret (pe_op op_add_str (pe_slice sl_str (pv 4) po_none (po_some (pv 5))) (pe_slice sl_str (pv 4) (po_some (pe_op op_add (pv 5) pe_int)) po_none)))) pss_nil))
      (pss_cons (ps_eq hs8 (ps_if (PW.pt (pw_or (pt_cmpR op_eq (pv 1) pe_int (nomark _)) (pw_or1 (pt_cmpR op_eq (pv 1) pe_int (nomark _))))) (pss_one (ps_asg (pe_fn h__law_worded (hr.mono (by decide)) (pa_cons (pe_ix ix_list (pv 3) (pv 7) (fun _ _ => rfl)) (pa_cons (pv 1) (pa_cons (pe_op op_fdiv (pv 2) pe_int) pa_nil)))) (pg_sub (pv 3) (pv 7) set_list))) pss_nil))
      (pss_cons (ps_eq hs9 (ps_if (pt_cmpR op_eq (pv 1) pe_int (nomark _)) (pss_one (ps_expr (pe_bm PySem.F.plainAttrs_list PySem.F.slot_list_pop PySem.F.type_list_pop mt_popAt (pv 3) (pa_cons (pv 7) pa_nil)))) pss_nil))
      (pss_cons (ps_eq hs10 (ps_if (pt_cmpR op_eq (pv 1) pe_int (nomark _)) (pss_one (ps_expr (pe_bm PySem.F.plainAttrs_list PySem.F.slot_list_insert PySem.F.type_list_insert mt_insert (pv 3) (pa_cons (pv 7) (pa_cons (pe_ix ix_list (pv 3) (pv 7) (fun _ _ => rfl)) pa_nil))))) pss_nil))
      (pss_cons (ps_eq hs11 (ps_if (pt_cmpR op_eq (pv 1) pe_int (nomark _)) (pss_one (ps_expr (pe_bm PySem.F.plainAttrs_list PySem.F.slot_list_insert PySem.F.type_list_insert mt_insert (pv 3) (pa_cons (pv 7) (pa_cons pe_str pa_nil))))) pss_nil))
      (pss_cons (ps_eq hs12 (ps_if (pt_cmpR op_eq (pv 1) pe_int (nomark _)) (pss_cons (ps_set (i := 8) nd rfl (Or.inl rfl) (pe_lst (pa_cons (pe_ix ix_tup (pv 0) pe_int (fun _ _ => rfl)) (pa_cons (pe_callB call_len_seq rfl B.len PySem.boot_len (pa_cons (pe_ix ix_tup (pe_ix ix_tup (pv 0) pe_int (fun _ _ => rfl)) pe_int (fun _ _ => rfl)) pa_nil)) (pa_cons (pe_callB call_len_seq rfl B.len PySem.boot_len (pa_cons (pe_ix ix_tup (pv 0) pe_int (fun _ _ => rfl)) pa_nil)) pa_nil)))))
      (pss_cons (ps_asg (pe_op op_add (pe_ix ix_list (pv 8) (pe_op op_mod (pv 2) pe_int) (fun _ _ => rfl)) pe_int) (pg_sub (pv 8) (pe_op op_mod (pv 2) pe_int) set_list))
      (pss_one (ps_asg (pe_bm PySem.F.plainAttrs_str PySem.F.slot_str_join PySem.F.type_str_join mt_join pe_str (pa_cons (pe_comp (N := ["one"]) (js := [none]) rfl rfl (pi_list (pv 8)) (fun _ _ _ _ => (pg_name (i := 0) (ndOf (N := ["one"]) (by decide +kernel)) rfl (Or.inl rfl))) (fun _ _ _ _ => pts_nil) (fun _ _ _ _ => (pe_callTy call_str_int rfl Tz.tStr boot_str (pa_cons (pv 0) pa_nil)))) pa_nil)) (pg_sub (pv 3) pe_int set_list))))) pss_nil))
      (pss_cons (ps_eq hs13 (ps_if (pt_cmpR op_eq (pv 1) pe_int (nomark _)) (pss_one (ps_ret (pe_ix ix_list (pe_lst (pa_cons pe_str (pa_cons pe_str (pa_cons pe_str pa_nil)))) (pe_op op_mod (pv 2) pe_int) (fun _ _ => rfl)))) pss_nil))
      (pss_cons (ps_ifT (i := 9) [⟨_, _, _, _, _, _, _, _, _, _, _⟩, ⟨_, _, _, _, _, _, _, _, _, _, _⟩, ⟨_, _, _, _, _, _, _, _, _, _, _⟩, ⟨_, _, _, _, _, _, _, _, _, _, _⟩, ⟨_, _, _, _, _, _, _, _, _, _, _⟩, ⟨_, _, _, _, _, _, _, _, _, _, _⟩, ⟨_, _, _, _, _, _, _, _, _, _, _⟩, ⟨_, _, _, _, _, _, _, _, _, _, _⟩, ⟨_, _, _, _, _, _, _, _, _, _, _⟩] hs14 nd rfl (Or.inl rfl) (pt_cmpR op_eq (pv 1) pe_int (nomark _)) (ps_ret (pe_fn h__law_fitted (hr.mono (by decide)) (pa_cons (pe_ix ix_list (pv 9) (pe_op op_mod (pv 2) pe_int) (fun _ _ => rfl)) pa_nil))))
      (pss_one (ps_eq hs15 (ps_ret (pe_bm PySem.F.plainAttrs_str PySem.F.slot_str_join PySem.F.type_str_join mt_join pe_str (pa_cons (pv 3) pa_nil)))))))))))))))))))), ?_⟩
    refine ⟨_, rfl, v, ts, b, rfl, hC, ok, hb4, ht3, fun lL L H1 s1 hlL hL1 l1 l2 hLb => ?_⟩
    obtain ⟨tx, etx⟩ : ∃ tx, tx = Str.join "\n" L := ⟨_, rfl⟩
    have htot : tot L ≤ 481 := by
      have := tot_le (m := 13) (ts := L) fun t ht => by have := hLb t ht; omega
      omega
    have htx : tx.length ≤ 481 := by
      have := join_leN L
      rw [etx]
      omega
    have htz : tx.length ≤ sizeLine := Nat.le_of_lt (smallM (by omega))
    refine ⟨rfl, _, rfl, "\n", lL, L, rfl, rfl, SqL.of hL1, by rw [tot_sumN]; omega, ?_⟩
    rw [← etx]
    clear etx
    refine ⟨_, rfl, _, rfl, tx, rfl, htz, _, _, rfl, rfl, _, _, rfl, rfl, (by show (0 : Int) < (tx.length : Int) + 1; omega), ?_⟩
    obtain ⟨pl, epl⟩ : ∃ pl : Int, pl = c % ((tx.length : Int) + 1) := ⟨_, rfl⟩
    show gName 5 (V.int (c % ((tx.length : Int) + 1))) _ _ _
    rw [← epl]
    clear epl
    have hmk : ∃ ch, atI ("0123 -+_.\n\tx9" : Str).cps.toList (c / 997 % 13) = some ch := by
      have h1 := Int.emod_nonneg (c / 997) (show (13 : Int) ≠ 0 by decide)
      have h2 := Int.emod_lt_of_pos (c / 997) (show (0 : Int) < 13 by decide)
      have hlt : (c / 997 % 13).toNat < ("0123 -+_.\n\tx9" : Str).cps.toList.length := by rw [marks_len]; omega
      exact ⟨_, atI_int h1 (List.getElem?_eq_getElem hlt)⟩
    obtain ⟨ch, hch⟩ := hmk
    refine ⟨_, rfl, _, _, rfl, rfl, ⟨by decide, by decide⟩, _, _, rfl, rfl, (by show (0 : Int) < 13; decide), _, _, ch, rfl, rfl, Nat.le_of_lt (smallM (by decide +kernel)), hch, ?_⟩
    obtain ⟨mk, emk⟩ : ∃ mk : Str, mk = ⟨#[ch]⟩ := ⟨_, rfl⟩
    have hmk1 : mk.length ≤ 1 := by rw [emk]; exact Nat.le_refl _
    rw [← emk]
    clear emk hch
    refine ⟨_, rfl, _, rfl, lL, _, rfl, .inl (SqL.of hL1), _, _, rfl, rfl, (by show (0 : Int) < (((L.map V.str).length : Nat) : Int); rw [List.length_map]; omega), ?_⟩
    obtain ⟨k, hk, hkl⟩ : ∃ k : Nat, c % (((L.map V.str).length : Nat) : Int) = (k : Int) ∧ k < L.length := by
      rw [List.length_map]
      have h1 := Int.emod_nonneg c (show ((L.length : Nat) : Int) ≠ 0 by omega)
      have h2 := Int.emod_lt_of_pos c (show (0 : Int) < ((L.length : Nat) : Int) by omega)
      exact ⟨(c % (L.length : Int)).toNat, by omega, by omega⟩
    show gName 7 (V.int (c % (((L.map V.str).length : Nat) : Int))) _ _ _
    rw [hk]
    clear hk
    obtain ⟨a0, vT, rfl, ha0, a1, vts, rfl, ha1, pT⟩ := hC.same s1
    have el := paired_length pT
    -- 1, 2, 3
    refine ⟨_, rfl, rfl, _, rfl, ite2 (fun _ => ?_) (fun _ => ?_)⟩
    · exact ⟨_, rfl, _, rfl, _, rfl, tx, rfl, htz, fun y1 hy1 => ⟨_, rfl, _, _, rfl, rfl, szT (Nat.le_trans hy1 htx) hmk1 (by omega), _, rfl, _, rfl, _, rfl, tx, rfl, htz, fun y2 hy2 => ⟨_, _, rfl, rfl, szT (apT (Nat.le_trans hy1 htx) hmk1) (Nat.le_trans hy2 htx) (by omega), q _ _ s1 (Nat.le_trans (apT (apT (Nat.le_trans hy1 htx) hmk1) (Nat.le_trans hy2 htx)) (by omega))⟩⟩⟩
    refine ⟨_, rfl, rfl, _, rfl, ite2 (fun _ => ?_) (fun _ => ?_)⟩
    · exact ⟨_, rfl, _, rfl, _, rfl, tx, rfl, htz, fun y1 hy1 => ⟨_, rfl, _, _, rfl, rfl, szT (Nat.le_trans hy1 htx) hmk1 (by omega), _, rfl, _, rfl, _, _, rfl, rfl, _, rfl, tx, rfl, htz, fun y2 hy2 => ⟨_, _, rfl, rfl, szT (apT (Nat.le_trans hy1 htx) hmk1) (Nat.le_trans hy2 htx) (by omega), q _ _ s1 (Nat.le_trans (apT (apT (Nat.le_trans hy1 htx) hmk1) (Nat.le_trans hy2 htx)) (by omega))⟩⟩⟩
    refine ⟨_, rfl, rfl, _, rfl, ite2 (fun _ => ?_) (fun _ => ?_)⟩
    · exact ⟨_, rfl, _, rfl, _, rfl, tx, rfl, htz, fun y1 hy1 => ⟨_, rfl, _, rfl, _, _, rfl, rfl, _, rfl, tx, rfl, htz, fun y2 hy2 => ⟨_, _, rfl, rfl, szT (Nat.le_trans hy1 htx) (Nat.le_trans hy2 htx) (by omega), q _ _ s1 (Nat.le_trans (apT (Nat.le_trans hy1 htx) (Nat.le_trans hy2 htx)) (by omega))⟩⟩⟩
    have hL20 : ∀ t ∈ L, t.length ≤ 20 := fun t ht => Nat.le_trans (hLb t ht) (by omega)
    -- 4, 5
    refine cut2 fun T8 hT8 => ?_
    refine (fun go : ∀ (L2 : List Str) (H2 : Hp), Same H H2 → Same H1 H2 ∨ (∀ x o, x ≠ lL → H1 x = some o → H2 x = some o) → H2 lL = some (.lst (L2.map V.str)) → L2.length = L.length → (∀ t ∈ L2, t.length ≤ 20) → T8 _ [some (.ref a0), some (.int f'), some (.int c), some (.ref lL), some (.str tx), some (.int pl), some (.str mk), some (.int (k : Int)), none, none] H2 => ?_) (fun L2 H2 s2 kp2 hL2 hl2 hb2 => hT8 _ _ ?_)
    · have body : ∀ (t : Str) (H' : Hp), Same H1 H' → t.length ≤ 20 → T8 _ [some (.ref a0), some (.int f'), some (.int c), some (.ref lL), some (.str tx), some (.int pl), some (.str mk), some (.int (k : Int)), none, none] (upd H' lL (.lst ((L.map V.str).set k (V.str t)))) := fun t H' s' ht => by
        rw [strs_set]
        exact go (L.set k t) _ ((s1.trans s').put hlL) (.inr fun x o n e => by rw [upd_ne n]; exact s' _ _ e) upd_same (List.length_set ..) (short_set hL20 ht)
      refine ⟨_, rfl, rfl, _, rfl, ite2 (fun _ => ?_) (fun _ => ⟨_, rfl, rfl, _, rfl, ite2 (fun _ => ?_) (fun _ => go L H1 s1 (.inl (Same.refl _)) hL1 rfl hL20)⟩)⟩
      · exact ⟨_, rfl, _, rfl, lL, _, _, _, rfl, rfl, SqL.of hL1, str_at hkl, _, rfl, _, rfl, _, _, rfl, rfl, ⟨by decide, by decide⟩, L[k], f', _, rfl, hLb _ (List.getElem_mem hkl), fun t H' s' ht => ⟨_, rfl, _, rfl, lL, _, _, k, rfl, rfl, s' _ _ hL1, by rw [List.length_map]; exact ixN_nat hkl, body t H' s' ht⟩⟩
      · exact ⟨_, rfl, _, rfl, lL, _, _, _, rfl, rfl, SqL.of hL1, str_at hkl, _, rfl, _, rfl, _, _, rfl, rfl, ⟨by decide, by decide⟩, L[k], f', _, rfl, hLb _ (List.getElem_mem hkl), fun t H' s' ht => ⟨_, rfl, _, rfl, lL, _, _, k, rfl, rfl, s' _ _ hL1, by rw [List.length_map]; exact ixN_nat hkl, body t H' s' ht⟩⟩
    have keep : ∀ {H2 : Hp}, (Same H1 H2 ∨ (∀ x o, x ≠ lL → H1 x = some o → H2 x = some o)) → ∀ x xs, H1 x = some (.tup xs) → H2 x = some (.tup xs) := fun {H2} kp x xs e => by
      rcases kp with kp | kp
      · exact kp _ _ e
      · exact kp _ _ (ne_of e hL1 (by intro z; cases z)) e
    have put : ∀ {H2 : Hp} {o : HO}, (Same H1 H2 ∨ (∀ x o, x ≠ lL → H1 x = some o → H2 x = some o)) → (Same H1 (upd H2 lL o) ∨ (∀ x o', x ≠ lL → H1 x = some o' → upd H2 lL o x = some o')) := fun {H2 o} kp => .inr fun x o' n e => by
      rw [upd_ne n]
      rcases kp with kp | kp
      · exact kp _ _ e
      · exact kp _ _ n e
    have hk2 : k < L2.length := by omega
    have h37 : L2.length ≤ 37 := by omega
    -- 6
    refine cut1 fun T9 hT9 => ?_
    refine (fun go : ∀ (L3 : List Str) (H3 : Hp), Same H H3 → (Same H1 H3 ∨ (∀ x o, x ≠ lL → H1 x = some o → H3 x = some o)) → H3 lL = some (.lst (L3.map V.str)) → L3.length ≤ 37 → (f' ≠ 6 → k < L3.length) → (∀ t ∈ L3, t.length ≤ 20) → T9 _ [some (.ref a0), some (.int f'), some (.int c), some (.ref lL), some (.str tx), some (.int pl), some (.str mk), some (.int (k : Int)), none, none] H3 => ?_) (fun L3 H3 s3 kp3 hL3 hl3 hk3 hb3 => hT9 _ _ ?_)
    · refine ⟨_, rfl, rfl, _, rfl, ite2 (fun c6 => ?_) (fun _ => go L2 H2 s2 kp2 hL2 h37 (fun _ => hk2) hb2)⟩
      have e6 : f' = 6 := V.int.inj (of_decide_eq_true c6)
      refine ⟨_, rfl, .inl ⟨rfl, _, SqL.of hL2⟩, _, rfl, lL, _, _, k, _, rfl, rfl, hL2, by omega, by omega, by rw [List.length_map]; exact seqIx_nat hk2, by rw [List.getElem?_map, List.getElem?_eq_getElem hk2]; rfl, ?_⟩
      have em : (L2.map V.str).eraseIdx k = (L2.eraseIdx k).map V.str := map_erase V.str L2 k
      rw [em]
      refine go (L2.eraseIdx k) _ (s2.put hlL) (put kp2) upd_same ?_ (fun z => absurd e6 z) fun t ht => hb2 t (List.mem_of_mem_eraseIdx ht)
      rw [List.length_eraseIdx]
      split <;> omega
    -- 7
    refine cut1 fun T10 hT10 => ?_
    refine (fun go : ∀ (L4 : List Str) (H4 : Hp), Same H H4 → (Same H1 H4 ∨ (∀ x o, x ≠ lL → H1 x = some o → H4 x = some o)) → H4 lL = some (.lst (L4.map V.str)) → L4.length ≤ 38 → (f' ≠ 6 → k < L4.length) → (∀ t ∈ L4, t.length ≤ 20) → T10 _ [some (.ref a0), some (.int f'), some (.int c), some (.ref lL), some (.str tx), some (.int pl), some (.str mk), some (.int (k : Int)), none, none] H4 => ?_) (fun L4 H4 s4 kp4 hL4 hl4 hk4 hb4 => hT10 _ _ ?_)
    · refine ⟨_, rfl, rfl, _, rfl, ite2 (fun c6 => ?_) (fun _ => go L3 H3 s3 kp3 hL3 (by omega) hk3 hb3)⟩
      have e7 : f' = 7 := V.int.inj (of_decide_eq_true c6)
      have hk3' := hk3 (by omega)
      refine ⟨_, rfl, .inl ⟨rfl, _, SqL.of hL3⟩, _, rfl, _, rfl, _, rfl, lL, _, _, _, rfl, rfl, SqL.of hL3, str_at hk3', lL, _, k, _, rfl, rfl, hL3, by rw [List.length_map]; omega, smallM (by rw [List.length_map]; omega), by omega, ?_⟩
      have em : (L3.map V.str).take k ++ V.str L3[k] :: (L3.map V.str).drop k = (L3.take k ++ L3[k] :: L3.drop k).map V.str := by
        rw [List.map_append, List.map_cons, List.map_take, List.map_drop]
      rw [em]
      refine go (L3.take k ++ L3[k] :: L3.drop k) _ (s3.put hlL) (put kp3) upd_same ?_ (fun _ => ?_) fun t ht => ?_
      · rw [List.length_append, List.length_cons, List.length_take, List.length_drop]
        omega
      · rw [List.length_append, List.length_cons, List.length_take, List.length_drop]
        omega
      · rcases List.mem_append.mp ht with ht | ht
        · exact hb3 t (List.mem_of_mem_take ht)
        · rcases List.mem_cons.mp ht with rfl | ht
          · exact hb3 _ (List.getElem_mem hk3')
          · exact hb3 t (List.mem_of_mem_drop ht)
    -- 8
    refine cut1 fun T11 hT11 => ?_
    refine (fun go : ∀ (L5 : List Str) (H5 : Hp), Same H H5 → (Same H1 H5 ∨ (∀ x o, x ≠ lL → H1 x = some o → H5 x = some o)) → H5 lL = some (.lst (L5.map V.str)) → L5.length ≤ 39 → (f' ≠ 6 → k < L5.length) → (∀ t ∈ L5, t.length ≤ 20) → T11 _ [some (.ref a0), some (.int f'), some (.int c), some (.ref lL), some (.str tx), some (.int pl), some (.str mk), some (.int (k : Int)), none, none] H5 => ?_) (fun L5 H5 s5 kp5 hL5 hl5 hk5 hb5 => hT11 _ _ ?_)
    · refine ⟨_, rfl, rfl, _, rfl, ite2 (fun c6 => ?_) (fun _ => go L4 H4 s4 kp4 hL4 (by omega) hk4 hb4)⟩
      have e7 : f' = 8 := V.int.inj (of_decide_eq_true c6)
      have hk4' := hk4 (by omega)
      refine ⟨_, rfl, .inl ⟨rfl, _, SqL.of hL4⟩, _, rfl, lL, _, k, _, rfl, rfl, hL4, by rw [List.length_map]; omega, smallM (by rw [List.length_map]; omega), by omega, ?_⟩
      have em : (L4.map V.str).take k ++ V.str "" :: (L4.map V.str).drop k = (L4.take k ++ ("" : Str) :: L4.drop k).map V.str := by
        rw [List.map_append, List.map_cons, List.map_take, List.map_drop]
      rw [em]
      refine go (L4.take k ++ ("" : Str) :: L4.drop k) _ (s4.put hlL) (put kp4) upd_same ?_ (fun _ => ?_) fun t ht => ?_
      · rw [List.length_append, List.length_cons, List.length_take, List.length_drop]
        omega
      · rw [List.length_append, List.length_cons, List.length_take, List.length_drop]
        omega
      · rcases List.mem_append.mp ht with ht | ht
        · exact hb4 t (List.mem_of_mem_take ht)
        · rcases List.mem_cons.mp ht with rfl | ht
          · decide +kernel
          · exact hb4 t (List.mem_of_mem_drop ht)
    -- 9
    refine cut1 fun T12 hT12 => ?_
    refine (fun go : ∀ (L6 : List Str) (H6 : Hp) (o8 : Option V), Same H H6 → H6 lL = some (.lst (L6.map V.str)) → L6.length ≤ 39 → (∀ t ∈ L6, t.length ≤ 20) → T12 _ [some (.ref a0), some (.int f'), some (.int c), some (.ref lL), some (.str tx), some (.int pl), some (.str mk), some (.int (k : Int)), o8, none] H6 => ?_) (fun L6 H6 o8 s6 hL6 hl6 hb6 => hT12 _ _ ?_)
    · refine ⟨_, rfl, rfl, _, rfl, ite2 (fun c6 => ?_) (fun _ => go L5 H5 _ s5 hL5 hl5 hb5)⟩
      have e9 : f' = 9 := V.int.inj (of_decide_eq_true c6)
      have hk5' := hk5 (by omega)
      have ha05 := keep kp5 _ _ ha0
      have ha15 := keep kp5 _ _ ha1
      have e0 : ts[0]? = some (ts.headD []) := by
        cases ts with
        | nil => simp at t1
        | cons t r => rfl
      obtain ⟨x0, ex0, ⟨a2, vrs, rfl, ha2, pR0⟩⟩ := paired_get pT 0 _ e0
      have hn0 : vrs.length = nst ts := paired_length pR0
      have ha25 := keep kp5 _ _ ha2
      refine ⟨_, rfl, a0, _, 0, _, rfl, rfl, SqT.of ha05, rfl, _, rfl, a0, _, 1, _, rfl, rfl, SqT.of ha05, rfl, a1, vts, 0, _, rfl, rfl, SqT.of ha15, atI_nat (j := 0) ex0, a2, vrs, rfl, .inr (SqT.of ha25), _, rfl, a0, _, 1, _, rfl, rfl, SqT.of ha05, rfl, a1, vts, rfl, .inr (SqT.of ha15), (by show 3 ≤ sizeLine; decide), fun lH hlH => ?_⟩
      obtain ⟨hs, ehs⟩ : ∃ hs : List Int, hs = [b, (vrs.length : Int), (vts.length : Int)] := ⟨_, rfl⟩
      have hsb : ∀ x ∈ hs, 0 ≤ x ∧ x ≤ 12 := fun x hx => by
        rw [ehs] at hx
        rcases List.mem_cons.mp hx with rfl | hx
        · omega
        rcases List.mem_cons.mp hx with rfl | hx
        · omega
        rcases List.mem_cons.mp hx with rfl | hx
        · omega
        cases hx
      have hsl : hs.length = 3 := by rw [ehs]; rfl
      have uH := Same.new (o := HO.lst (hs.map V.int)) hlH
      have hlH' : upd H5 lH (.lst (hs.map V.int)) lH = some (.lst (hs.map V.int)) := upd_same
      have hL5H := uH _ _ hL5
      have sH := s5.trans uH
      show tSeq _ _ _ _ (upd H5 lH (.lst (([b, (vrs.length : Int), (vts.length : Int)] : List Int).map V.int)))
      rw [← ehs]
      have hne : lL ≠ lH := fun e => by rw [e, hlH] at hL5; cases hL5
      obtain ⟨j, hj, hj3⟩ : ∃ j : Nat, c % 3 = (j : Int) ∧ j < hs.length := by
        have h1 := Int.emod_nonneg c (show (3 : Int) ≠ 0 by decide)
        have h2 := Int.emod_lt_of_pos c (show (0 : Int) < 3 by decide)
        rw [hsl]
        exact ⟨(c % 3).toNat, by omega, by omega⟩
      refine ⟨_, rfl, _, rfl, _, _, rfl, rfl, (by show (0 : Int) < 3; decide), lH, _, _, V.int hs[j], rfl, rfl, SqL.of hlH', by show atI _ (c % 3) = _; rw [hj]; exact atI_nat (by rw [List.getElem?_map, List.getElem?_eq_getElem hj3]; rfl), _, _, rfl, rfl, _, rfl, _, rfl, _, _, rfl, rfl, (by show (0 : Int) < 3; decide), lH, _, _, j, rfl, rfl, hlH', by rw [hj, List.length_map]; exact ixN_nat hj3, ?_⟩
      have hm9 := hsb _ (List.getElem_mem hj3)
      obtain ⟨gs, egs⟩ : ∃ gs : List Int, gs = hs.set j (hs[j] + 1) := ⟨_, rfl⟩
      have hgl : gs.length = 3 := by rw [egs, List.length_set, hsl]
      have hgb : ∀ x ∈ gs, 0 ≤ x ∧ x ≤ 13 := fun x hx => by
        rw [egs] at hx
        rcases List.mem_or_eq_of_mem_set hx with hx | rfl
        · have := hsb x hx
          omega
        · omega
      have emg : (hs.map V.int).set j (V.int (hs[j] + 1)) = gs.map V.int := by rw [egs]; exact (List.map_set ..).symm
      show (_ : Hp → Prop) (upd (upd H5 lH (.lst (hs.map V.int))) lH (.lst ((hs.map V.int).set j (V.int (hs[j] + 1)))))
      rw [emg]
      obtain ⟨H7, eH7⟩ : ∃ H7, H7 = upd (upd H5 lH (.lst (hs.map V.int))) lH (.lst (gs.map V.int)) := ⟨_, rfl⟩
      have s57 : Same H5 H7 := by rw [eH7]; exact uH.put hlH
      have hg7 : H7 lH = some (.lst (gs.map V.int)) := by rw [eH7]; exact upd_same
      rw [← eH7]
      have hL7 := s57 _ _ hL5
      have wk := Walk.lst (K := K) (SqL.of hg7)
      rw [List.length_map] at wk
      refine ⟨rfl, _, rfl, lH, rfl, ⟨_, SqL.of hg7⟩, ?_⟩
      refine block_map wk (by omega) rfl (fun i => .str (numT (gs.getD i 0))) (fun i H8 Q' hi s8 q' => ?_) (fun D H8 hD s8 hDl => ?_)
      · have h1 : gs.getD i 0 = gs[i] := by rw [List.getD_eq_getElem?_getD, List.getElem?_eq_getElem hi]; rfl
        have h2 := hgb _ (List.getElem_mem hi)
        rw [← h1] at h2
        rw [show (gs.map V.int).getD i .non = V.int (gs.getD i 0) from int_getD hi]
        exact ⟨_, rfl, _, rfl, lg100 h2.1 (by omega), q' _ (Same.refl _)⟩
      · rw [range_map_getD gs 0 (fun n => V.str (numT n))] at hDl
        have hm : gs.map (fun n => V.str (numT n)) = (gs.map numT).map V.str := by rw [List.map_map]; rfl
        rw [hm] at hDl
        have hsz := tot_le (m := 3) (ts := gs.map numT) fun t ht => by
          obtain ⟨n, hn', rfl⟩ := List.mem_map.mp ht
          have h2 := hgb n hn'
          obtain ⟨nn, rfl⟩ : ∃ nn : Nat, n = (nn : Int) := ⟨n.toNat, by omega⟩
          have := numT_len100 (n := nn) (by omega)
          omega
        rw [List.length_map, hgl] at hsz
        have hjl := join_leB (gs.map numT)
        refine ⟨" ", D, gs.map numT, rfl, rfl, SqL.of hDl, by rw [tot_sum]; omega, _, rfl, lL, _, _, 0, rfl, rfl, s8 _ _ hL7, ixN_nat (n := (L5.map V.str).length) (j := 0) (by rw [List.length_map]; exact Nat.lt_of_le_of_lt (Nat.zero_le _) hk5'), ?_⟩
        rw [strs_set]
        exact go (L5.set 0 (Str.join " " (gs.map numT))) _ _ (((s5.trans s57).trans s8).put hlL) upd_same (by rw [List.length_set]; exact hl5) (short_set hb5 (by omega))
    -- 10
    refine ⟨_, rfl, rfl, _, rfl, ite2 (fun _ => ?_) (fun _ => ?_)⟩
    · refine ⟨(by show 3 ≤ sizeLine; decide), fun l3 hl3 => ?_⟩
      obtain ⟨j, hj, hj3⟩ : ∃ j : Nat, c % 3 = (j : Int) ∧ j < 3 := by
        have h1 := Int.emod_nonneg c (show (3 : Int) ≠ 0 by decide)
        have h2 := Int.emod_lt_of_pos c (show (0 : Int) < 3 by decide)
        exact ⟨(c % 3).toNat, by omega, by omega⟩
      have hp : ∃ t : Str, t.length ≤ 1 ∧ atI [V.str "", V.str "\n", V.str " "] (c % 3) = some (V.str t) := by
        rw [hj]
        match j, hj3 with
        | 0, _ => exact ⟨"", by decide +kernel, rfl⟩
        | 1, _ => exact ⟨"\n", by decide +kernel, rfl⟩
        | 2, _ => exact ⟨" ", by decide +kernel, rfl⟩
      obtain ⟨t, ht, hp⟩ := hp
      exact ⟨_, rfl, _, _, rfl, rfl, (by show (0 : Int) < 3; decide), l3, _, _, _, rfl, rfl, SqL.of upd_same, hp, q _ _ (s6.trans (Same.new hl3)) (by omega)⟩
    -- 11
    refine ⟨_, rfl, rfl, _, rfl, ite2 (fun _ => ?_) (fun _ => ?_)⟩
    · refine fun as H7 s7 pr => ⟨?_, fun lS hlS => ?_⟩
      · rw [List.length_map, paired_length pr]
        show 9 ≤ sizeLine
        decide
      obtain ⟨j, hj, hj9⟩ : ∃ j : Nat, c % 9 = (j : Int) ∧ j < 9 := by
        have h1 := Int.emod_nonneg c (show (9 : Int) ≠ 0 by decide)
        have h2 := Int.emod_lt_of_pos c (show (0 : Int) < 9 by decide)
        exact ⟨(c % 9).toNat, by omega, by omega⟩
      have uS := Same.new (o := HO.lst (as.map V.ref)) hlS
      have hp : ∃ (aP : Addr) (bb nn mm : Nat), as[j]? = some aP ∧ H7 aP = some (.tup [.int (bb : Int), .int (nn : Int), .int (mm : Int)]) ∧ bb ≤ 11 ∧ nn ≤ 13 ∧ mm ≤ 7 ∧ nn * mm ≤ 13 := by
        match j, hj9 with
        | 0, _ => obtain ⟨aP, e, h⟩ := paired_get pr 0 _ rfl; exact ⟨aP, 1, 1, 1, e, h, by omega, by omega, by omega, by omega⟩
        | 1, _ => obtain ⟨aP, e, h⟩ := paired_get pr 1 _ rfl; exact ⟨aP, 11, 1, 1, e, h, by omega, by omega, by omega, by omega⟩
        | 2, _ => obtain ⟨aP, e, h⟩ := paired_get pr 2 _ rfl; exact ⟨aP, 2, 13, 1, e, h, by omega, by omega, by omega, by omega⟩
        | 3, _ => obtain ⟨aP, e, h⟩ := paired_get pr 3 _ rfl; exact ⟨aP, 2, 1, 7, e, h, by omega, by omega, by omega, by omega⟩
        | 4, _ => obtain ⟨aP, e, h⟩ := paired_get pr 4 _ rfl; exact ⟨aP, 2, 0, 1, e, h, by omega, by omega, by omega, by omega⟩
        | 5, _ => obtain ⟨aP, e, h⟩ := paired_get pr 5 _ rfl; exact ⟨aP, 2, 1, 0, e, h, by omega, by omega, by omega, by omega⟩
        | 6, _ => obtain ⟨aP, e, h⟩ := paired_get pr 6 _ rfl; exact ⟨aP, 10, 1, 1, e, h, by omega, by omega, by omega, by omega⟩
        | 7, _ => obtain ⟨aP, e, h⟩ := paired_get pr 7 _ rfl; exact ⟨aP, 2, 12, 1, e, h, by omega, by omega, by omega, by omega⟩
        | 8, _ => obtain ⟨aP, e, h⟩ := paired_get pr 8 _ rfl; exact ⟨aP, 2, 1, 6, e, h, by omega, by omega, by omega, by omega⟩
      obtain ⟨aP, bb, nn, mm, e, hP, g1, g2, g3, g4⟩ := hp
      exact ⟨_, rfl, _, rfl, _, _, rfl, rfl, (by show (0 : Int) < 9; decide), lS, _, _, V.ref aP, rfl, rfl, SqL.of upd_same, by show atI _ (c % 9) = _; rw [hj]; exact atI_nat (by rw [List.getElem?_map, e]; rfl), aP, bb, nn, mm, rfl, uS _ _ hP, g1, g2, g3, g4, fun t H' s' ht => q _ _ (((s6.trans s7).trans uS).trans s') (by omega)⟩
    · have ht := tot_le (m := 21) (ts := L6) fun t ht => by have := hb6 t ht; omega
      have hjn := join_leN L6
      exact ⟨rfl, _, rfl, "\n", lL, L6, rfl, rfl, SqL.of hL6, by rw [tot_sumN]; omega, q _ _ s6 (by omega)⟩
end
end My


set_option maxHeartbeats 2000000
namespace L2
open PySem PySem.Spec PyProof.Rows
section
variable {X : Cx} {o e : Expr} {to : TE} {t : TA} {apos cpos : Pos}
theorem pe_index (ho : PE X o to) (ha : PA X [e] t) (hbase : attributeBase o "index" X.env (eval o X.env) = eval o X.env := by rfl)
    (hfew : ((backTo cpos (starEach [e] X.env)).all (fun x => !x.1) && (backToKw cpos (keywordEach [] X.env)).all (fun x => x.1.isSome)
      && decide (([e] : List Expr).length + ([] : List Keyword).length + (if ([] : List Keyword).isEmpty then 0 else 1) < 30)) = true := by rfl)
    (hline : (apos.endLine == cpos.line) = true := by rfl) (hs : starEach [e] X.env = (false, eval e X.env) :: starEach [] X.env := by rfl) (hplain : (backTo cpos (starEach [] X.env)).any (·.1) = false := by rfl) :
    PE X (.Call (.Attribute o "index" apos) [e] [] cpos) (tBM X.K "list" (rIndex X.K) to t) := pe_bm PySem.F.plainAttrs_list PySem.F.slot_list_index PySem.F.type_list_index mt_index ho ha hbase hfew hline hs hplain
theorem pe_count (ho : PE X o to) (ha : PA X [e] t) (hbase : attributeBase o "count" X.env (eval o X.env) = eval o X.env := by rfl)
    (hfew : ((backTo cpos (starEach [e] X.env)).all (fun x => !x.1) && (backToKw cpos (keywordEach [] X.env)).all (fun x => x.1.isSome)
      && decide (([e] : List Expr).length + ([] : List Keyword).length + (if ([] : List Keyword).isEmpty then 0 else 1) < 30)) = true := by rfl)
    (hline : (apos.endLine == cpos.line) = true := by rfl) (hs : starEach [e] X.env = (false, eval e X.env) :: starEach [] X.env := by rfl) (hplain : (backTo cpos (starEach [] X.env)).any (·.1) = false := by rfl) :
    PE X (.Call (.Attribute o "count" apos) [e] [] cpos) (tBM X.K "list" (rCountL X.K) to t) := pe_bm PySem.F.plainAttrs_list PySem.F.slot_list_count PySem.F.type_list_count mt_count ho ha hbase hfew hline hs hplain
end
end L2


set_option maxHeartbeats 4000000
namespace My
open PySem L2 PyProof.Rows
noncomputable def spToldR : Sp := fun vs H Q _ => ∃ z : Str, vs = [.str z] ∧ z.length ≤ 998 ∧ (∀ b ts, Writes (rowsOf z) b ts → ∀ p x H', Same H H' → H' p = some (.tup [.int 0, x]) → SchAt H' x b ts → Q (.ref p) H') ∧
  ((¬ ∃ b ts, Writes (rowsOf z) b ts) → ∀ p H', Same H H' → H' p = some (.tup [.int 1, .non]) → Q (.ref p) H')
section
variable {P : Program} {w : World} {K : PySem.W.Frag} {mg : Str → Option Value} {base : Heap}
noncomputable abbrev s__law_told : Stmt := top 35
theorem sc__law_told : FnScope ["text", "e", "kinds"] ["text"] (defScope s__law_told) := ⟨rfl, rfl, rfl, by decide +kernel, rfl, by decide +kernel, by decide +kernel⟩
theorem ok__law_told {f : Addr} {fd : FuncData} (F : Fun K "_law_told" "_law_told" s__law_told f fd) (B : Blt mg) (Ea : ErrsA K mg) (h_read : HasX P w K mg base "read" 6 ["text"] (spReadX mg)) :
    FnOk P w K mg base CX0 7 f fd ["text"] spToldR := by
  refine F.ok sc__law_told (fun vs H Q E h => ?_) (fun cdv A outer s H vs Q E hr h => ?_)
  · obtain ⟨_, rfl, _⟩ := h
    rfl
  · obtain ⟨z, rfl, hzl, q, qN⟩ := h
    have nd := sc__law_told.nd
    obtain ⟨S, c_NoScheme, c_OtherBase, c_NoRoom, c_NoKind, c_NoFigure, c_NoNote, m_SlipError, m_NoScheme, m_OtherBase, m_NoRoom, m_NoKind, m_NoFigure, m_NoNote, mVE, x_SlipError, _, _, _, _, _, e_NoNote⟩ := Ea.at'
    refine ⟨_, (pss_one (ps_try (i := 1) (fun _ _ _ hp => (pss_one (ps_ret (pe_tup (pa_cons pe_int (pa_cons (pe_fnX h_read (hr.mono (by decide)) hp (pa_cons (pv 0) pa_nil)) pa_nil)))))) (fun _ _ => (pss_cons (ps_set (i := 2) nd rfl (Or.inl rfl) (pe_lst (pa_cons (pe_callB call_isexc rfl B.isi boot_isinstance (pa_cons (pv 1) (pa_cons (pe_glob (v := .ref c_NoNote) rfl m_NoNote rfl) pa_nil))) (pa_cons (pe_callB call_isexc rfl B.isi boot_isinstance (pa_cons (pv 1) (pa_cons (pe_glob (v := .ref c_OtherBase) rfl m_OtherBase rfl) pa_nil))) (pa_cons (pe_callB call_isexc rfl B.isi boot_isinstance (pa_cons (pv 1) (pa_cons (pe_glob (v := .ref c_NoRoom) rfl m_NoRoom rfl) pa_nil))) (pa_cons (pe_callB call_isexc rfl B.isi boot_isinstance (pa_cons (pv 1) (pa_cons (pe_glob (v := .ref c_NoKind) rfl m_NoKind rfl) pa_nil))) pa_nil))))))
      (pss_cons (ps_set (i := 2) nd rfl (Or.inl rfl) (pe_op op_cat (pv 2) (pe_lst (pa_cons (pe_callB call_isexc rfl B.isi boot_isinstance (pa_cons (pv 1) (pa_cons (pe_glob (v := .ref c_NoFigure) rfl m_NoFigure rfl) pa_nil))) (pa_cons (pe_callB call_isexc rfl B.isi boot_isinstance (pa_cons (pv 1) (pa_cons (pe_glob (v := .ref c_NoScheme) rfl m_NoScheme rfl) pa_nil))) pa_nil)))))
      (pss_cons (ps_if (PW.pt (pw_or (pt_cmpR op_ne (pe_count (pv 2) (pa_cons pe_bl pa_nil)) pe_int (nomark _)) (pw_or1 (pt_not (pt_val (pe_callB call_isexc rfl B.isi boot_isinstance (pa_cons (pv 1) (pa_cons (pe_ty mVE PyProof.Rows.Boot.«ValueError») pa_nil)))))))) (pss_one (ps_ret (pe_tup (pa_cons pe_int (pa_cons pe_non pa_nil))))) pss_nil)
      (pss_one (ps_ret (pe_tup (pa_cons (pe_op op_add pe_int (pe_index (pv 2) (pa_cons pe_bl pa_nil))) (pa_cons pe_non pa_nil))))))))) rfl rfl rfl nd rfl rfl rfl m_SlipError x_SlipError)), ?_⟩
    refine ⟨_, rfl, z, rfl, hzl, fun b ts wr x H1 s1 hx => ⟨(by show 2 ≤ sizeLine; decide), fun l hl => q b ts wr l x _ (s1.trans (Same.new hl)) upd_same (hx.same (Same.new hl))⟩, fun no C' H1 mC s1 => ?_⟩
    have eC : C' = c_NoNote := by rw [m_NoNote] at mC; cases mC; rfl
    subst eC
    refine ⟨C', _, rfl, e_NoNote.exc, e_NoNote.has, fun pn a ha => ?_⟩
    obtain ⟨k1, kk⟩ := kitRow_cons e_NoNote.kit
    obtain ⟨k2, kk⟩ := kitRow_cons kk
    obtain ⟨k3, kk⟩ := kitRow_cons kk
    obtain ⟨k4, kk⟩ := kitRow_cons kk
    obtain ⟨k5, kk⟩ := kitRow_cons kk
    obtain ⟨k6, kk⟩ := kitRow_cons kk
    clear kk
    have xI := e_NoNote.is
    have s2 := s1.trans (Same.new (o := HO.ext (excφ a C')) ha)
    have ga : ∀ {H2 : Hp}, Same (upd H1 a (.ext (excφ a C'))) H2 → H2 a = some (.ext (excφ a C')) := fun z => z _ _ upd_same
    refine ⟨_, rfl, a, C', _, true, rfl, ga (Same.refl _), xI, (fun u hu => by cases hu; exact k6), _, rfl, a, C', _, false, rfl, ga (Same.refl _), xI, (fun u hu => by cases hu; exact k2), _, rfl, a, C', _, false, rfl, ga (Same.refl _), xI, (fun u hu => by cases hu; exact k3), _, rfl, a, C', _, false, rfl, ga (Same.refl _), xI, (fun u hu => by cases hu; exact k4), (by show 4 ≤ sizeLine; decide), fun l hl => ?_⟩
    have t1 := Same.new (o := HO.lst [V.bl true, V.bl false, V.bl false, V.bl false]) hl
    refine ⟨_, rfl, _, rfl, a, C', _, false, rfl, ga t1, xI, (fun u hu => by cases hu; exact k5), _, rfl, a, C', _, false, rfl, ga t1, xI, (fun u hu => by cases hu; exact k1), (by show 2 ≤ sizeLine; decide), fun l2 hl2 => ?_⟩
    have t2 := Same.new (o := HO.lst [V.bl false, V.bl false]) hl2
    refine ⟨l, l2, _, _, rfl, rfl, t2 _ _ upd_same, upd_same, (by show 6 ≤ sizeLine; decide), fun R hR => ?_⟩
    have t3 := Same.new (o := HO.lst ([V.bl true, V.bl false, V.bl false, V.bl false] ++ [V.bl false, V.bl false])) hR
    refine ⟨_, rfl, .inl ⟨rfl, _, SqL.of upd_same⟩, R, _, V.bl true, rfl, rfl, SqL.of upd_same, rfl, rfl, rfl, _, rfl, iteF ?_⟩
    refine ⟨_, rfl, a, C', _, true, rfl, ga ((t1.trans t2).trans t3), xI, (fun u hu => by cases hu; exact e_NoNote.ve), _, rfl, iteF ?_⟩
    refine ⟨_, rfl, .inl ⟨rfl, _, SqL.of upd_same⟩, R, _, V.bl true, 0, V.bl true, rfl, rfl, SqL.of upd_same, rfl, rfl, rfl, rfl, (fun i z h e => absurd h (Nat.not_lt_zero _)), _, _, rfl, rfl, (by show 2 ≤ sizeLine; decide), fun l3 hl3 => ?_⟩
    exact qN no l3 _ ((((s2.trans t1).trans t2).trans t3).trans (Same.new hl3)) upd_same
end
end My

namespace My
open PySem L2 PyProof.Rows
theorem _root_.L2.Def.has {P : Program} {w : World} {K : PySem.W.Frag} {h base : Heap} {mg : Str → Option Value} {x : Str} {st : Stmt} {f : Addr} {fd : FuncData} {ps : List Str} {k : Nat} {sp : Sp} (d : L2.Def K x st f fd) (X : K.In h) (G : h.Ns mainGlobals mg)
    (hb : Binds K fd ps []) (ok : FnOk P w K mg base CX0 k f fd ps sp) : Has P w K mg base x k ps sp := ⟨f, fd, PySem.W.mg_of X G d.a, d.F.kp, hb, ok⟩
theorem law_mk {K : PySem.W.Frag} {x : Str} {st : Stmt} {f : Addr} {oc : Value} {od an : Option Addr} {osl : Array (Option Value)} {kV doc pm cdv ct : Value} (a : PySem.W.nsIn K mainGlobals x = some (some (.ref f)))
    (l : K.lookup f = some ⟨oc, od, .func (PySem.W.fnOf x x (defArgs st) (defBody st) (defScope st) .none kV doc pm an cdv ct), osl⟩) (c : PySem.W.codeIn K cdv x = true) (k : PySem.W.keepIn K (.ref f) = true)
    (b : ∀ (s : Shared) (v : Value), BindsTo s (PySem.W.fnOf x x (defArgs st) (defBody st) (defScope st) .none kV doc pm an cdv ct) ⟨[v], []⟩ [("script", v)]) :
    ∃ f fd, L2.Def K x st f fd ∧ ∀ (s : Shared) (v : Value), BindsTo s fd ⟨[v], []⟩ [("script", v)] := ⟨f, _, ⟨a, fun_mk l c k⟩, b⟩
noncomputable def spLaw (K : PySem.W.Frag) : Sp := fun vs H Q _ => ∃ (a : Addr) (ns : List Int), vs = [.ref a] ∧ SqL K H a (ns.map V.int) ∧ ns.length ≤ 63 ∧ ∀ H', Q (.bl true) H'
end My


set_option maxHeartbeats 4000000
namespace My
open PySem L2 PyProof.Rows
section
variable {P : Program} {w : World} {K : PySem.W.Frag} {mg : Str → Option Value} {base : Heap}
theorem sc_law : FnScope ["script", "scheme", "text", "due", "found"] ["script"] (defScope sLaw) := ⟨rfl, rfl, rfl, by decide +kernel, rfl, by decide +kernel, by decide +kernel⟩
theorem ok_law {f : Addr} {fd : FuncData} (F : Fun K "law" "law" sLaw f fd) (B : Blt mg)  (h__law_cell_at : Has P w K mg base "_law_cell_at" 1 ["script", "k"] (spCell K)) (h__law_scheme : Has P w K mg base "_law_scheme" 3 ["script", "at", "most"] (spScheme K)) (h__law_spoilt : Has P w K mg base "_law_spoilt" 2 ["scheme", "fault", "cell"] spSpoilt) (h__law_due : Has P w K mg base "_law_due" 2 ["text"] spDue) (h__law_told : Has P w K mg base "_law_told" 7 ["text"] spToldR) :
    FnOk P w K mg base CX0 9 f fd ["script"] (spLaw K) := by
  refine F.ok sc_law (fun vs H Q E h => ?_) (fun cdv A outer s H vs Q E hr h => ?_)
  · obtain ⟨_, _, rfl, _⟩ := h
    rfl
  · obtain ⟨a, ns, rfl, hSq, hlen, q⟩ := h
    have nd := sc_law.nd
    have hu := hr.units
    refine ⟨_, (pss_cons (ps_set (i := 1) nd rfl (Or.inl rfl) (pe_fn h__law_scheme (hr.mono (by decide)) (pa_cons (pv 0) (pa_cons pe_int (pa_cons (pe_tup (pa_cons pe_int (pa_cons pe_int (pa_cons pe_int pa_nil)))) pa_nil)))))
      (pss_cons (ps_set (i := 2) nd rfl (Or.inl rfl) (pe_fn h__law_spoilt (hr.mono (by decide)) (pa_cons (pv 1) (pa_cons (pe_op op_mod (pe_fn h__law_cell_at (hr.mono (by decide)) (pa_cons (pv 0) (pa_cons pe_int pa_nil))) pe_int) (pa_cons (pe_op op_mod (pe_fn h__law_cell_at (hr.mono (by decide)) (pa_cons (pv 0) (pa_cons pe_int pa_nil))) (pe_op op_pow pe_int pe_int)) pa_nil)))))
      (pss_cons (ps_set (i := 3) nd rfl (Or.inl rfl) (pe_fn h__law_due (hr.mono (by decide)) (pa_cons (pv 2) pa_nil)))
      (pss_cons (ps_set (i := 4) nd rfl (Or.inl rfl) (pe_fn h__law_told (hr.mono (by decide)) (pa_cons (pv 2) pa_nil)))
      (pss_cons (ps_if (pt_cmpR op_isN (pv 3) pe_non (nomark _)) (pss_one (ps_ret (pe_cmpR op_eq (pe_ix ix_tup (pv 4) pe_int (fun _ _ => rfl)) pe_int (nomark _)))) pss_nil)
      (pss_one (ps_ret (pe_and (pe_cmpR op_eq (pe_ix ix_tup (pv 4) pe_int (fun _ _ => rfl)) pe_int (nomark _)) (pe_and (pe_callB call_isinst rfl B.isi boot_isinstance (pa_cons (pe_ix ix_tup (pv 4) pe_int (fun _ _ => rfl)) (pa_cons (pe_ty B.tTuple boot_tuple) pa_nil))) (pe_one (pe_cmpR (op_eqD hu) (pe_ix ix_tup (pv 4) pe_int (fun _ _ => rfl)) (pv 3) (nomark _)))))))))))), ?_⟩
    refine ⟨_, rfl, (by show 3 ≤ sizeLine; decide), fun m hm => ⟨a, m, ns, 0, 4, 12, 3, rfl, (Same.new hm).seq hSq, by omega, upd_same, by omega, by omega, by omega, by omega, by omega, by omega, fun v b ts H1 s1 hSch ok hb4 _ ht3 => ?_⟩⟩
    have s01 : Same H H1 := (Same.new hm).trans s1
    refine ⟨_, rfl, _, rfl, a, ns, 4, rfl, s01.seq hSq, by omega, _, _, rfl, rfl, (by show (0 : Int) < 13; decide), _, rfl, a, ns, 5, rfl, s01.seq hSq, by omega, _, _, rfl, rfl, ⟨by decide, by decide, by decide⟩, _, _, rfl, rfl, (by show (0 : Int) < 10 ^ 9; decide), v, ts, b, _, _, rfl, hSch, ok, hb4, by omega, fun t H2 s2 ht => ?_⟩
    refine ⟨_, rfl, t, rfl, ht, fun b2 ts2 wr x H3 s3 hx => ?_, fun no H3 s3 => ?_⟩
    · refine ⟨_, rfl, t, rfl, ht, fun b3 ts3 wr3 p x' H4 s4 hp hx' => ?_, fun no => absurd ⟨b2, ts2, wr⟩ no⟩
      obtain ⟨rfl, rfl⟩ := writes_one wr wr3
      have hx4 := hx.same s4
      obtain ⟨a2, w2, rfl, ha2, hT2⟩ := id hx4
      obtain ⟨a3, w3, rfl, ha3, hT3⟩ := id hx'
      refine ⟨_, rfl, rfl, _, rfl, ifN (decide_eq_false fun z => by cases z) ?_⟩
      refine ⟨_, rfl, p, _, 0, _, rfl, rfl, SqT.of hp, rfl, rfl, _, rfl, ifY (decide_eq_true rfl) ?_⟩
      refine ⟨_, rfl, p, _, 1, _, rfl, rfl, SqT.of hp, rfl, _, _, _, _, rfl, .tup ha3, kit_tup_tup, _, rfl, iteT ?_⟩
      refine ⟨_, rfl, p, _, 1, _, rfl, rfl, SqT.of hp, rfl, _, rfl, _, _, rep_sch hx', rep_sch hx4, plain_sch _ _, plain_sch _ _, ?_⟩
      rw [eqv_sch]
      exact q _
    · refine ⟨_, rfl, t, rfl, ht, fun b3 ts3 wr3 => absurd ⟨b3, ts3, wr3⟩ no, fun _ p H4 s4 hp => ?_⟩
      refine ⟨_, rfl, rfl, _, rfl, iteT ?_⟩
      refine ⟨_, rfl, p, _, 0, _, rfl, rfl, SqT.of hp, rfl, rfl, ?_⟩
      rw [decide_eq_true (show V.int 1 = V.int 1 from rfl)]
      exact q _
end
end My

namespace My
open PySem L2 PyProof.Rows
theorem all_mk {l : PySem.W.OpenLaw} {w : World} {K : PySem.W.Frag} {h : Heap} {mg : Str → Option Value} {r0 r1 r2 r3 r4 r5 r6 : Addr} {fa : Addr} {t0 t1 t2 t3 : Tok} (X : K.In h) (G : h.Ns mainGlobals mg) (hfa : mg "law" = some (.ref fa))
    (d1 : ∃ f fd, L2.Def K "is_whole" sWhole f fd)
    (d2 : ∃ f fd, L2.Def K "is_tuple_of" sTupOf f fd)
    (d3 : ∃ f fd, L2.Def K "is_row" sRow f fd)
    (d4 : ∃ f fd, L2.Def K "is_table" sTab f fd)
    (d5 : ∃ f fd, L2.Def K "are_tables" sTabs f fd)
    (d6 : ∃ f fd, L2.Def K "check_scheme" sCheck f fd)
    (d7 : ∃ f fd, L2.Def K "numbers_by_word" s_numbers_by_word f fd)
    (d8 : ∃ f fd, L2.Def K "numbers_of" s_numbers_of f fd)
    (d9 : ∃ f fd, L2.Def K "cut" s_cut f fd)
    (d10 : ∃ f fd, L2.Def K "read" s_read f fd)
    (d11 : ∃ f fd, L2.Def K "_law_cell_at" sCell f fd)
    (d12 : ∃ f fd, L2.Def K "_law_stirred" sStir f fd)
    (d13 : ∃ f fd, L2.Def K "_law_weight" sWeight f fd)
    (d14 : ∃ f fd, L2.Def K "_law_scheme" sScheme f fd)
    (d15 : ∃ f fd, L2.Def K "_law_lines" s__law_lines f fd)
    (d16 : ∃ f fd, L2.Def K "_law_worded" s__law_worded f fd)
    (d17 : ∃ f fd, L2.Def K "_law_fitted" s__law_fitted f fd)
    (d18 : ∃ f fd, L2.Def K "_law_spoilt" s__law_spoilt f fd)
    (d19 : ∃ f fd, L2.Def K "_law_number" s__law_number f fd)
    (d20 : ∃ f fd, L2.Def K "_law_due" s__law_due f fd)
    (d21 : ∃ f fd, L2.Def K "_law_told" s__law_told f fd)
    (d22 : ∃ f fd, L2.Def K "law" sLaw f fd ∧ ∀ (s : Shared) (v : Value), BindsTo s fd ⟨[v], []⟩ [("script", v)])
    (c0 : PySem.W.nsIn K mainGlobals "LEAST_BASE" = some (some (.int 2 t0)))
    (c1 : PySem.W.nsIn K mainGlobals "MOST_BASE" = some (some (.int 10 t1)))
    (c2 : PySem.W.nsIn K mainGlobals "MOST_TABLES" = some (some (.int 6 t2)))
    (c3 : PySem.W.nsIn K mainGlobals "MOST_STATES" = some (some (.int 12 t3)))
    (x0 : PySem.W.nsIn K mainGlobals "SlipError" = some (some (.ref r0)))
    (x1 : PySem.W.nsIn K mainGlobals "NoScheme" = some (some (.ref r1)))
    (x2 : PySem.W.nsIn K mainGlobals "OtherBase" = some (some (.ref r2)))
    (x3 : PySem.W.nsIn K mainGlobals "NoRoom" = some (some (.ref r3)))
    (x4 : PySem.W.nsIn K mainGlobals "NoKind" = some (some (.ref r4)))
    (x5 : PySem.W.nsIn K mainGlobals "NoFigure" = some (some (.ref r5)))
    (x6 : PySem.W.nsIn K mainGlobals "NoNote" = some (some (.ref r6)))
    (xv : PySem.W.nsIn K mainGlobals "ValueError" = some none)
    (xb : errsAB K r0 r1 r2 r3 r4 r5 r6 = true)
    (z0 : PySem.W.nsIn K mainGlobals "len" = some none)
    (z1 : PySem.W.nsIn K mainGlobals "isinstance" = some none)
    (z2 : PySem.W.nsIn K mainGlobals "int" = some none)
    (z3 : PySem.W.nsIn K mainGlobals "bool" = some none)
    (z4 : PySem.W.nsIn K mainGlobals "tuple" = some none)
    (z5 : PySem.W.nsIn K mainGlobals "list" = some none)
    (z6 : PySem.W.nsIn K mainGlobals "all" = some none)
    (z7 : PySem.W.nsIn K mainGlobals "range" = some none)
    (z8 : PySem.W.nsIn K mainGlobals "enumerate" = some none)
    (z9 : PySem.W.nsIn K mainGlobals "sum" = some none)
    (z10 : PySem.W.nsIn K mainGlobals "str" = some none)
    (z11 : PySem.W.nsIn K mainGlobals "dict" = some none)
    (z12 : PySem.W.nsIn K mainGlobals "min" = some none)
    (z13 : PySem.W.nsIn K mainGlobals "max" = some none) :
    ∃ fd : FuncData, (∀ (s : Shared) (v : Value), BindsTo s fd ⟨[v], []⟩ [("script", v)]) ∧ ∀ base : Heap, K.In base → base.Ns mainGlobals mg → FnOk l.prog w K mg base CX0 9 fa fd ["script"] (spLaw K) := by
  obtain ⟨f1, g1, d1⟩ := d1
  obtain ⟨f2, g2, d2⟩ := d2
  obtain ⟨f3, g3, d3⟩ := d3
  obtain ⟨f4, g4, d4⟩ := d4
  obtain ⟨f5, g5, d5⟩ := d5
  obtain ⟨f6, g6, d6⟩ := d6
  obtain ⟨f7, g7, d7⟩ := d7
  obtain ⟨f8, g8, d8⟩ := d8
  obtain ⟨f9, g9, d9⟩ := d9
  obtain ⟨f10, g10, d10⟩ := d10
  obtain ⟨f11, g11, d11⟩ := d11
  obtain ⟨f12, g12, d12⟩ := d12
  obtain ⟨f13, g13, d13⟩ := d13
  obtain ⟨f14, g14, d14⟩ := d14
  obtain ⟨f15, g15, d15⟩ := d15
  obtain ⟨f16, g16, d16⟩ := d16
  obtain ⟨f17, g17, d17⟩ := d17
  obtain ⟨f18, g18, d18⟩ := d18
  obtain ⟨f19, g19, d19⟩ := d19
  obtain ⟨f20, g20, d20⟩ := d20
  obtain ⟨f21, g21, d21⟩ := d21
  obtain ⟨f22, g22, d22, hb⟩ := d22
  have e := hfa.symm.trans (PySem.W.mg_of X G d22.a)
  cases e
  have B : Blt mg := ⟨PySem.W.mg_none_of X G z0, PySem.W.mg_none_of X G z1, PySem.W.mg_none_of X G z2, PySem.W.mg_none_of X G z3, PySem.W.mg_none_of X G z4, PySem.W.mg_none_of X G z5, PySem.W.mg_none_of X G z6, PySem.W.mg_none_of X G z7, PySem.W.mg_none_of X G z8, PySem.W.mg_none_of X G z9⟩
  have Nm : Nums mg := ⟨⟨_, PySem.W.mg_of X G c0⟩, ⟨_, PySem.W.mg_of X G c1⟩, ⟨_, PySem.W.mg_of X G c2⟩, ⟨_, PySem.W.mg_of X G c3⟩⟩
  have Ea : ErrsA K mg := errsA_mk (PySem.W.mg_of X G x0) (PySem.W.mg_of X G x1) (PySem.W.mg_of X G x2) (PySem.W.mg_of X G x3) (PySem.W.mg_of X G x4) (PySem.W.mg_of X G x5) (PySem.W.mg_of X G x6) (PySem.W.mg_none_of X G xv) xb
  have Tz : BltT mg := ⟨PySem.W.mg_none_of X G z10, PySem.W.mg_none_of X G z11⟩
  have Mm : BltM mg := ⟨PySem.W.mg_none_of X G z12, PySem.W.mg_none_of X G z13⟩
  refine ⟨g22, hb, fun base _ _ => ?_⟩
  have H1 : Has l.prog w K mg base "is_whole" 1 ["value", "least", "most"] spWhole := d1.has X G (d1.F.binds fun _ _ _ _ _ _ us hl => match us, hl with | [_, _, _], _ => rfl) (ok_whole d1.F B)
  have H2 : Has l.prog w K mg base "is_tuple_of" 1 ["value", "least", "most"] spTupOf := d2.has X G (d2.F.binds fun _ _ _ _ _ _ us hl => match us, hl with | [_, _, _], _ => rfl) (ok_tupOf d2.F B)
  have H3 : Has l.prog w K mg base "is_row" 2 ["row", "base", "states"] spRow := d3.has X G (d3.F.binds fun _ _ _ _ _ _ us hl => match us, hl with | [_, _, _], _ => rfl) (ok_row d3.F B H2 H1)
  have H4 : Has l.prog w K mg base "is_table" 3 ["table", "base", "states"] spTab := d4.has X G (d4.F.binds fun _ _ _ _ _ _ us hl => match us, hl with | [_, _, _], _ => rfl) (ok_tab d4.F B H2 H3)
  have H5 : Has l.prog w K mg base "are_tables" 4 ["tables", "base"] spTabs := d5.has X G (d5.F.binds fun _ _ _ _ _ _ us hl => match us, hl with | [_, _], _ => rfl) (ok_tabs d5.F B Nm H2 H4)
  have H6 : HasF l.prog w K mg base "check_scheme" 5 ["scheme"] (spCheckF mg) := ⟨f6, g6, PySem.W.mg_of X G d6.a, d6.F.kp, d6.F.binds fun _ _ _ _ _ _ us hl => match us, hl with | [_], _ => rfl, ok_check_scheme d6.F B Nm Ea H2 H1 H5⟩
  have H7 : Has l.prog w K mg base "numbers_by_word" 1 [] (spByWord l.prog w) := d7.has X G (d7.F.binds fun _ _ _ _ _ _ us hl => match us, hl with | [], _ => rfl) (ok_numbers_by_word d7.F B Nm Tz )
  have H8 : HasX l.prog w K mg base "numbers_of" 1 ["line", "known"] (spNumOfX l.prog w mg) := ⟨f8, g8, PySem.W.mg_of X G d8.a, d8.F.kp, d8.F.binds fun _ _ _ _ _ _ us hl => match us, hl with | [_, _], _ => rfl, ok_numbers_of d8.F B Ea ⟩
  have H9 : Has l.prog w K mg base "cut" 1 ["rows", "states"] spCut := d9.has X G (d9.F.binds fun _ _ _ _ _ _ us hl => match us, hl with | [_, _], _ => rfl) (ok_cut d9.F B  )
  have H10 : HasX l.prog w K mg base "read" 6 ["text"] (spReadX mg) := ⟨f10, g10, PySem.W.mg_of X G d10.a, d10.F.kp, d10.F.binds fun _ _ _ _ _ _ us hl => match us, hl with | [_], _ => rfl, ok_read d10.F B Ea H7 H8 H9 H6⟩
  have H11 : Has l.prog w K mg base "_law_cell_at" 1 ["script", "k"] (spCell K) := d11.has X G (d11.F.binds fun _ _ _ _ _ _ us hl => match us, hl with | [_, _], _ => rfl) (ok_cell d11.F B)
  have H12 : Has l.prog w K mg base "_law_stirred" 1 ["cell", "k"] spStir := d12.has X G (d12.F.binds fun _ _ _ _ _ _ us hl => match us, hl with | [_, _], _ => rfl) (ok_stir d12.F)
  have H13 : Has l.prog w K mg base "_law_weight" 2 ["script", "at", "turn", "states"] (spWeight K) := d13.has X G (d13.F.binds fun _ _ _ _ _ _ us hl => match us, hl with | [_, _, _, _], _ => rfl) (ok_weight d13.F B H11)
  have H14 : Has l.prog w K mg base "_law_scheme" 3 ["script", "at", "most"] (spScheme K) := d14.has X G (d14.F.binds fun _ _ _ _ _ _ us hl => match us, hl with | [_, _, _], _ => rfl) (ok_scheme d14.F B H11 H12 H13)
  have H15 : Has l.prog w K mg base "_law_lines" 1 ["scheme"] spLLines := d15.has X G (d15.F.binds fun _ _ _ _ _ _ us hl => match us, hl with | [_], _ => rfl) (ok__law_lines d15.F B Tz )
  have H16 : Has l.prog w K mg base "_law_worded" 1 ["line", "fault", "cell"] spWorded := d16.has X G (d16.F.binds fun _ _ _ _ _ _ us hl => match us, hl with | [_, _, _], _ => rfl) (ok__law_worded d16.F B  )
  have H17 : Has l.prog w K mg base "_law_fitted" 1 ["sizes"] spFitted := d17.has X G (d17.F.binds fun _ _ _ _ _ _ us hl => match us, hl with | [_], _ => rfl) (ok__law_fitted d17.F B Tz )
  have H18 : Has l.prog w K mg base "_law_spoilt" 2 ["scheme", "fault", "cell"] spSpoilt := d18.has X G (d18.F.binds fun _ _ _ _ _ _ us hl => match us, hl with | [_, _, _], _ => rfl) (ok__law_spoilt d18.F B Tz H15 H16 H17)
  have H19 : Has l.prog w K mg base "_law_number" 1 ["word"] spNumber := d19.has X G (d19.F.binds fun _ _ _ _ _ _ us hl => match us, hl with | [_], _ => rfl) (ok__law_number d19.F B  )
  have H20 : Has l.prog w K mg base "_law_due" 2 ["text"] spDue := d20.has X G (d20.F.binds fun _ _ _ _ _ _ us hl => match us, hl with | [_], _ => rfl) (ok__law_due d20.F B Mm H19)
  have H21 : Has l.prog w K mg base "_law_told" 7 ["text"] spToldR := d21.has X G (d21.F.binds fun _ _ _ _ _ _ us hl => match us, hl with | [_], _ => rfl) (ok__law_told d21.F B Ea H10)
  exact ok_law d22.F B  H11 H14 H18 H20 H21
theorem walk {l : PySem.W.OpenLaw} {q : Program} {loose : List Str} {XP : (Str → Option Value) → Heap → Prop} {YP : World → Heap → Prop} {d : DefRec} {K : Params → PySem.W.Frag} (hn : l.most = some 63) (hdf : d.params.defaults = [])
    (hY : ∀ (w : World) (h : Heap), YP w h → (K w.params).In h)
    (F : ∀ (w : World) (mg : Str → Option Value) (fa : Addr) (h : Heap), (K w.params).In h → h.Ns mainGlobals mg → mg d.name = some (.ref fa) →
      ∃ fd : FuncData, (∀ (s : Shared) (u : Value), BindsTo s fd ⟨[u], []⟩ [("script", u)]) ∧ ∀ base : Heap, (K w.params).In base → base.Ns mainGlobals mg → FnOk l.prog w (K w.params) mg base CX0 9 fa fd ["script"] (spLaw (K w.params))) :
    PySem.W.WalkO q loose XP YP l.row.toRowW d [] (fun f vs => PySem.call f vs) :=
  L2.walk_of (n := 63) (k := 9) (x := "script") (CX := fun _ => CX0) (sp := fun w => spLaw (K w.params)) hn (by decide) hdf ⟨rfl, by decide, by decide⟩ hY F (fun _ _ a ns hl _ hS => ⟨a, ns, rfl, hS, hl, fun _ => rfl⟩) fun _ _ _ _ _ z => z
end My
open PySem PySem.W PyProof.Rows
set_option maxRecDepth 100000 in
set_option maxHeartbeats 0 in
theorem PySem.Challenge.cw_slipseen_k15_read_or_refused_holds : PySem.Challenge.rw_slipseen_k15_read_or_refused.Holds := by
  w_on; o_law; k_head; (case hw => w_witness2)
  k_fill
  refine My.walk (l := PySem.Challenge.rw_slipseen_k15_read_or_refused) rfl rfl (fun w h Y => PySem.W.kIn_of Y) ?F
  case F =>
    intro w mg fa h KX G hmg
    refine' My.all_mk KX G hmg ?d1 ?d2 ?d3 ?d4 ?d5 ?d6 ?d7 ?d8 ?d9 ?d10 ?d11 ?d12 ?d13 ?d14 ?d15 ?d16 ?d17 ?d18 ?d19 ?d20 ?d21 ?d22 ?c0 ?c1 ?c2 ?c3 ?x0 ?x1 ?x2 ?x3 ?x4 ?x5 ?x6 ?xv ?xb ?z0 ?z1 ?z2 ?z3 ?z4 ?z5 ?z6 ?z7 ?z8 ?z9 ?z10 ?z11 ?z12 ?z13
    case d22 => (refine' My.law_mk ?a ?l ?c ?k ?b; (case a => k_is); (case l => k_is); (case c => k_is); (case k => k_is); (case b => exact fun s v => .of_eq rfl))
    case c0 => k_is
    case c1 => k_is
    case c2 => k_is
    case c3 => k_is
    case x0 => k_is
    case x1 => k_is
    case x2 => k_is
    case x3 => k_is
    case x4 => k_is
    case x5 => k_is
    case x6 => k_is
    case xv => k_is
    case xb => kernel_rfl
    case z0 => k_is
    case z1 => k_is
    case z2 => k_is
    case z3 => k_is
    case z4 => k_is
    case z5 => k_is
    case z6 => k_is
    case z7 => k_is
    case z8 => k_is
    case z9 => k_is
    case z10 => k_is
    case z11 => k_is
    case z12 => k_is
    case z13 => k_is
    all_goals (refine' L2.def_mk ?a ?l ?c ?k; (case a => k_is); (case l => k_is); (case c => k_is); (case k => k_is))
#print axioms PySem.Challenge.cw_slipseen_k15_read_or_refused_holds
