import PyProof.Rows.All
import Wide.All
import OpenK.AllK
import Wide.FinOn
import Lean
import PyProof.EqAt
import PyProof.EqKinds
import PyProof.TupleCall
import PySem.Challenge.RW_slipseen_k12_whole_two_schemes_together
set_option Elab.async false
set_option linter.all false
set_option maxRecDepth 100000

namespace L2
open PySem PySem.Spec PyProof.Rows


noncomputable abbrev Key := Sum Int Str
noncomputable def keyIs : Key → Value → Bool
  | .inl k, v => Value.isInt k v
  | .inr x, v => Value.isStrOf x v
noncomputable def keyH (w : World) : Key → Int
  | .inl k => hashInt k
  | .inr x => hashStr w x
theorem keyIs_shape : ∀ {k : Key} {v : Value}, keyIs k v = true → (∃ i t, k = Sum.inl i ∧ v = Value.int i t) ∨ (∃ x t, k = Sum.inr x ∧ v = Value.str x t)
  | .inl i, v, h => by
    obtain ⟨t, e⟩ := Value.isInt_shape (k := i) (v := v) h
    exact .inl ⟨i, t, rfl, e⟩
  | .inr x, v, h => by
    obtain ⟨t, e⟩ := Value.isStrOf_shape (x := x) (v := v) h
    exact .inr ⟨x, t, rfl, e⟩
theorem key_ll (a b : Int) : decide ((Sum.inl a : Key) = Sum.inl b) = (a == b) := by
  by_cases e : a = b
  · subst e; simp
  · have h : ¬ (Sum.inl a : Key) = Sum.inl b := fun q => e (Sum.inl.inj q)
    rw [decide_eq_false h]
    exact (beq_eq_false_iff_ne.mpr e).symm
theorem key_rr (a b : Str) : decide ((Sum.inr a : Key) = Sum.inr b) = decide (a = b) := by
  by_cases e : a = b
  · subst e; simp
  · have h : ¬ (Sum.inr a : Key) = Sum.inr b := fun q => e (Sum.inr.inj q)
    rw [decide_eq_false h, decide_eq_false e]
theorem key_lr (a : Int) (b : Str) : decide ((Sum.inl a : Key) = Sum.inr b) = false := decide_eq_false (fun q => nomatch q)
theorem key_rl (a : Str) (b : Int) : decide ((Sum.inr a : Key) = Sum.inl b) = false := decide_eq_false (fun q => nomatch q)

noncomputable def mixKind (prog : Program) (w : World) : PySem.KeyKind prog w Key where
  is := keyIs
  hash := keyH w
  inj := fun v a b ha hb => by
    rcases keyIs_shape ha with ⟨i, t, rfl, rfl⟩ | ⟨x, t, rfl, rfl⟩
    · rcases keyIs_shape hb with ⟨j, u, rfl, e⟩ | ⟨y, u, rfl, e⟩
      · injection e with e1 _; rw [e1]
      · exact nomatch e
    · rcases keyIs_shape hb with ⟨j, u, rfl, e⟩ | ⟨y, u, rfl, e⟩
      · exact nomatch e
      · injection e with e1 _; rw [e1]
  byValue := fun k v h => by
    rcases keyIs_shape h with ⟨i, t, rfl, rfl⟩ | ⟨x, t, rfl, rfl⟩ <;> rfl
  pyHash := fun hv h => by
    rcases keyIs_shape hv with ⟨i, t, rfl, rfl⟩ | ⟨x, t, rfl, rfl⟩
    · exact wpAny_pyHash_int h
    · exact wpAny_pyHash_str h
  eqBool := fun hu hv h => by
    rcases keyIs_shape hu with ⟨i, t, rfl, rfl⟩ | ⟨x, t, rfl, rfl⟩
    · rcases keyIs_shape hv with ⟨j, u, rfl, rfl⟩ | ⟨y, u, rfl, rfl⟩
      · rw [key_ll] at h; exact wpAny_eqBool_int h
      · rw [key_lr] at h; exact SeqAt.EqAt.int_str i t y u _ _ _ _ h
    · rcases keyIs_shape hv with ⟨j, u, rfl, rfl⟩ | ⟨y, u, rfl, rfl⟩
      · rw [key_rl] at h; exact SeqAt.EqAt.str_int x t j u _ _ _ _ h
      · rw [key_rr] at h; exact wpAny_eqBool_str h
  «strs» := fun k x t v h => by
    rcases keyIs_shape h with ⟨i, u, rfl, e⟩ | ⟨y, u, rfl, e⟩
    · exact nomatch e
    · injection e with e1 _
      subst e1
      cases v <;> rfl

end L2

namespace L2
open PySem PySem.Spec PyProof.Rows


inductive V where
  | non | bl (b : Bool) | int (i : Int) | str (x : Str) | byt (b : Array UInt8) | flt (b : UInt64) | ref (a : Addr) | ty (n : String)
  deriving DecidableEq

noncomputable def RelV : V → Value → Prop
  | .non, u => u = Value.none
  | .bl b, u => u = Value.bool b
  | .int i, u => ∃ t, u = Value.int i t
  | .str x, u => ∃ t, u = Value.str x t
  | .byt b, u => ∃ t, u = Value.bytes b t
  | .flt b, u => ∃ t, u = Value.float b t
  | .ref a, u => u = Value.ref a
  | .ty n, u => u = Value.type n

noncomputable abbrev Vals : List V → List Value → Prop := Paired RelV
theorem Vals.length {xs : List V} {us : List Value} (r : Vals xs us) : xs.length = us.length := Paired.length r
theorem Vals.get : ∀ {xs : List V} {us : List Value} {i : Nat} {x : V}, Vals xs us → xs[i]? = some x → ∃ u, us[i]? = some u ∧ RelV x u
  | _, _, _, _, .nil, e => by simp at e
  | _, _, 0, _, .cons r _, e => by simp at e; subst e; exact ⟨_, rfl, r⟩
  | _, _, i + 1, x, .cons _ t, e => by
    obtain ⟨u, h1, h2⟩ := Vals.get (i := i) (x := x) t (by simpa using e)
    exact ⟨u, by simpa using h1, h2⟩
theorem Vals.set {x : V} {u : Value} (r : RelV x u) : ∀ {xs : List V} {us : List Value} (i : Nat), Vals xs us → Vals (xs.set i x) (us.set i u)
  | _, _, _, .nil => .nil
  | _, _, 0, .cons _ t => .cons r t
  | _, _, i + 1, .cons q t => .cons q (Vals.set r i t)
theorem Vals.append : ∀ {xs ys : List V} {us ws : List Value}, Vals xs us → Vals ys ws → Vals (xs ++ ys) (us ++ ws)
  | _, _, _, _, .nil, s => s
  | _, _, _, _, .cons r t, s => .cons r (Vals.append t s)
theorem Vals.take : ∀ {xs : List V} {us : List Value} (n : Nat), Vals xs us → Vals (xs.take n) (us.take n)
  | _, _, 0, _ => .nil
  | _, _, _ + 1, .nil => .nil
  | _, _, n + 1, .cons r t => .cons r (Vals.take n t)
theorem Vals.drop : ∀ {xs : List V} {us : List Value} (n : Nat), Vals xs us → Vals (xs.drop n) (us.drop n)
  | _, _, 0, r => r
  | _, _, _ + 1, .nil => .nil
  | _, _, n + 1, .cons _ t => Vals.drop n t

noncomputable def RelO : Option V → Option Value → Prop
  | some v, some u => RelV v u
  | none, none => True
  | _, _ => False
noncomputable def KV {κ : Type} : List (κ × V) → List (κ × Value) → Prop := Paired fun (p : κ × V) (q : κ × Value) => p.1 = q.1 ∧ RelV p.2 q.2


noncomputable def kV : Key → V
  | .inl i => .int i
  | .inr x => .str x


inductive HO where
  
  | lst (xs : List V)
  
  | tup (xs : List V)
  
  | dK (kvs : List (Key × V)) | dT (kvs : List (List Key × V))
  
  | set (S : Int → Bool) (n : Nat)
  
  | ins (C dx : Addr) (fs : List (Str × V))
  
  | own (x : Addr)
  
  | xd (fs : List (Str × V))
  
  | met (f x : Addr)
  
  | rng (lo hi : Int)
  
  | frz (o : Obj) (u : HO)
  
  | tbl (ps : Array Value)
  
  | ext (φ : Heap → Prop)

noncomputable abbrev Hp := Addr → Option HO
noncomputable def upd (H : Hp) (a : Addr) (o : HO) : Hp := fun b => if b = a then some o else H b
theorem upd_same {H : Hp} {a : Addr} {o : HO} : upd H a o a = some o := by unfold upd; rw [if_pos rfl]
theorem upd_ne {H : Hp} {a b : Addr} {o : HO} (h : b ≠ a) : upd H a o b = H b := by unfold upd; rw [if_neg h]
theorem upd_upd {H : Hp} {a : Addr} {o u : HO} : upd (upd H a o) a u = upd H a u := by
  funext b; unfold upd; split <;> rfl

theorem ne_of {H : Hp} {a b : Addr} {o u : HO} (h : H a = some o) (h' : H b = some u) (d : o ≠ u) : a ≠ b := by
  intro e; subst e; rw [h] at h'; exact d (Option.some.inj h')
theorem ne_of_none {H : Hp} {a b : Addr} {o : HO} (h : H a = some o) (h' : H b = none) : a ≠ b := by
  intro e; subst e; rw [h] at h'; cases h'


noncomputable def TupP (h : Heap) (a : Addr) (its : Array Value) : Prop := ∃ o, h.get? a = some o ∧ (o.cls = .type "tuple" ∧ ∃ n, o.data = .seq its n) ∧ o.dict = none
theorem TupP.tup {h : Heap} {a : Addr} {its : Array Value} (p : TupP h a its) : IsTup h a its := let ⟨o, e, c, _⟩ := p; ⟨o, e, c.1, c.2⟩
theorem TupP.new (h : Heap) (its : Array Value) : TupP (h.push { cls := .type "tuple", data := .seq its }) h.objs.size its := ⟨_, Heap.get?_push_size _ rfl, ⟨rfl, _, rfl⟩, rfl⟩
section
variable (P : Program) (w : World)
noncomputable def ObjOk (H : Hp) (h : Heap) (a : Addr) : HO → Prop
  | .lst xs => xs.length ≤ sizeLine ∧ ∃ (its : List Value) (n : Nat), Vals xs its ∧ h.get? a = some { cls := .type "list", data := .seq its.toArray n }
  | .tup xs => xs.length ≤ sizeLine ∧ ∃ its : List Value, Vals xs its ∧ TupP h a its.toArray
  | .dK kvs => kvs.length ≤ sizeLine ∧ (a == sysModules) = false ∧ ∃ vs, KV kvs vs ∧ h.DictOf (mixKind P w) a vs
  | .dT kvs => kvs.length ≤ sizeLine ∧ (a == sysModules) = false ∧ ∃ xs : List (List Key × Addr × Value),
      Paired (fun (p : List Key × V) (q : List Key × Addr × Value) => p.1 = q.1 ∧ H q.2.1 = some (.tup (p.1.map kV)) ∧ RelV p.2 q.2.2) kvs xs ∧
      ∃ o es ep, h.get? a = some o ∧ o.ExactDict ∧ o.data = .dict es ep ∧ es.toList = xs.map (entryOfKey (tupleKind (mixKind P w))) ∧ (xs.map (·.1)).Nodup
  | .set S n => h.SetOf (intKind P w) a S n
  | .ins C dx fs => H dx = some (.own a) ∧ fs.length ≤ 1000 ∧ dx ≠ a ∧ h.get? a = some (PySem.W.instObj C dx) ∧
      ∃ mA, h.Ns1 dx mA ∧ (∀ f, RelO (fs.lookup f) (mA f)) ∧ PySem.Within mA (fs.map (·.1))
  | .own _ => ∃ o, h.get? a = some o
  | .xd fs => ∃ mA, h.Ns1 a mA ∧ ∀ f, RelO (fs.lookup f) (mA f)
  | .rng lo hi => ∃ t u v, h.get? a = some { cls := .type "range", data := .fields #[.int lo t, .int hi u, .int 1 v] }
  | .frz o u => h.get? a = some o ∧ ObjOk H h a u
  | .tbl ps => h.get? a = some { cls := .none, data := .fields ps }
  | .met f x => h.get? a = some (PySem.W.methodObj (.ref f) (.ref x))
  | .ext φ => φ h ∧ (∃ o, h.get? a = some o) ∧ ∀ h1 h2 : Heap, φ h1 → (∀ o, h1.get? a = some o → h2.get? a = some o) → φ h2

noncomputable def HOk (H : Hp) (h : Heap) : Prop := ∀ a o, H a = some o → ObjOk P w H h a o
end

section
variable {P : Program} {w : World} {H H' : Hp} {h h' : Heap} {a : Addr} {o : HO}
theorem ObjOk.lt (x : ObjOk P w H h a o) : a < h.objs.size := by
  cases o with
  | lst xs => obtain ⟨_, _, _, _, e⟩ := x; exact Heap.lt_size e
  | tup xs => obtain ⟨_, _, _, p⟩ := x; exact p.tup.lt
  | dK kvs => obtain ⟨_, _, _, _, o, _, _, e, _⟩ := x; exact Heap.lt_size e
  | dT kvs => obtain ⟨_, _, _, _, o, _, _, e, _⟩ := x; exact Heap.lt_size e
  | set S n => obtain ⟨o, _, _, _, e, _⟩ := x; exact Heap.lt_size e
  | ins C dx fs => obtain ⟨_, _, _, e, _⟩ := x; exact Heap.lt_size e
  | own y => obtain ⟨_, e⟩ := x; exact Heap.lt_size e
  | xd fs => obtain ⟨_, ⟨_, _, _, e, _⟩, _⟩ := x; exact Heap.lt_size e
  | rng lo hi => obtain ⟨_, _, _, e⟩ := x; exact Heap.lt_size e
  | frz ob u => obtain ⟨e, _⟩ := x; exact Heap.lt_size e
  | tbl ps => exact Heap.lt_size (show h.get? a = some _ from x)
  | met f y => exact Heap.lt_size (show h.get? a = some _ from x)
  | ext φ => obtain ⟨_, ⟨_, e⟩, _⟩ := x; exact Heap.lt_size e
theorem Paired.mapP {α β : Type} {F G : α → β → Prop} : ∀ {l₁ : List α} {l₂ : List β}, Paired F l₁ l₂ → (∀ a b, F a b → G a b) → Paired G l₁ l₂
  | _, _, .nil, _ => .nil
  | _, _, .cons r t, f => .cons (f _ _ r) (Paired.mapP t f)

theorem ObjOk.stay (x : ObjOk P w H h a o) (k : ∀ b u, (b = a ∨ H b = some (.own a)) → h.get? b = some u → h'.get? b = some u)
    (ho : ∀ b, H b = some (.own a) → H' b = some (.own a)) (ht : ∀ b xs, H b = some (.tup xs) → H' b = some (.tup xs)) : ObjOk P w H' h' a o := by
  induction o with
  | lst xs => obtain ⟨z, its, n, r, e⟩ := x; exact ⟨z, its, n, r, k _ _ (.inl rfl) e⟩
  | tup xs => obtain ⟨z, its, r, ob, e, c⟩ := x; exact ⟨z, its, r, ob, k _ _ (.inl rfl) e, c⟩
  | dK kvs => obtain ⟨z, y, vs, r, ob, es, ep, e, c⟩ := x; exact ⟨z, y, vs, r, ob, es, ep, k _ _ (.inl rfl) e, c⟩
  | dT kvs =>
    obtain ⟨z, y, xs, r, ob, es, ep, e, c⟩ := x
    exact ⟨z, y, xs, Paired.mapP r fun p q z => ⟨z.1, ht _ _ z.2.1, z.2.2⟩, ob, es, ep, k _ _ (.inl rfl) e, c⟩
  | set S n => obtain ⟨ob, es, ep, t, e, c⟩ := x; exact ⟨ob, es, ep, t, k _ _ (.inl rfl) e, c⟩
  | ins C dx fs =>
    obtain ⟨d, z, ne, e, mA, ⟨od, es, ep, e2, c⟩, r⟩ := x
    exact ⟨ho _ d, z, ne, k _ _ (.inl rfl) e, mA, ⟨od, es, ep, k _ _ (.inr d) e2, c⟩, r⟩
  | own y => obtain ⟨ob, e⟩ := x; exact ⟨ob, k _ _ (.inl rfl) e⟩
  | xd fs => obtain ⟨mA, ⟨od, es, ep, e, c⟩, r⟩ := x; exact ⟨mA, ⟨od, es, ep, k _ _ (.inl rfl) e, c⟩, r⟩
  | rng lo hi => obtain ⟨t, u, v, e⟩ := x; exact ⟨t, u, v, k _ _ (.inl rfl) e⟩
  | frz ob u ih => obtain ⟨e, q⟩ := x; exact ⟨k _ _ (.inl rfl) e, ih q⟩
  | tbl ps =>
    have e : h.get? a = some { cls := .none, data := .fields ps } := x
    show h'.get? a = some { cls := .none, data := .fields ps }
    exact k a _ (.inl rfl) e
  | met f y =>
    have e : h.get? a = some (PySem.W.methodObj (.ref f) (.ref y)) := x
    show h'.get? a = some (PySem.W.methodObj (.ref f) (.ref y))
    exact k a _ (.inl rfl) e
  | ext φ => obtain ⟨p, ⟨o, e⟩, st⟩ := x; exact ⟨st _ _ p fun o q => k _ _ (.inl rfl) q, ⟨o, k _ _ (.inl rfl) e⟩, st⟩
theorem HOk.lt (x : HOk P w H h) (e : H a = some o) : a < h.objs.size := (x a o e).lt
theorem HOk.fresh (x : HOk P w H h) (e : h.objs.size ≤ a) : H a = none := by
  cases q : H a with
  | none => rfl
  | some u => exact absurd (Nat.lt_of_lt_of_le (x.lt q) e) (Nat.lt_irrefl _)

theorem HOk.kept (x : HOk P w H h) (k : ∀ b u, h.get? b = some u → h'.get? b = some u) : HOk P w H h' := fun a o e =>
  (x a o e).stay (fun b u _ q => k b u q) (fun _ q => q) fun _ _ q => q

theorem HOk.laid (x : HOk P w H h) (k : ∀ b u, h.get? b = some u → h'.get? b = some u) (hp : h.objs.size ≤ a) (new : ObjOk P w (upd H a o) h' a o) : HOk P w (upd H a o) h' := fun b u e => by
  have hn := x.fresh hp
  by_cases hb : b = a
  · subst hb; rw [upd_same] at e; cases e; exact new
  · rw [upd_ne hb] at e
    exact (x b u e).stay (fun c v _ q => k c v q) (fun c q => by rw [upd_ne (ne_of_none q hn)]; exact q) fun c xs q => by rw [upd_ne (ne_of_none q hn)]; exact q
end


noncomputable def Rd (H : Hp) (a : Addr) (u : HO) : Prop := H a = some u ∨ ∃ o, H a = some (.frz o u)
theorem Rd.ok {P : Program} {w : World} {H : Hp} {h : Heap} {a : Addr} {u : HO} (r : Rd H a u) (x : HOk P w H h) : ObjOk P w H h a u := by
  rcases r with r | ⟨o, r⟩
  · exact x a u r
  · obtain ⟨_, q⟩ := x a _ r
    exact q

noncomputable def Mut : Option HO → Prop
  | some (.lst _) => True
  | some (.dK _) => True
  | some (.dT _) => True
  | some (.set _ _) => True
  | some (.ins _ _ _) => True
  | some (.ext _) => True
  | _ => False
section
variable {P : Program} {w : World} {H : Hp} {h h' : Heap} {x e : Addr} {o' : HO}

theorem HOk.write (ok : HOk P w H h) (mu : Mut (H x)) (he : e = x ∨ H e = some (.own x)) (k : ∀ b u, b ≠ e → h.get? b = some u → h'.get? b = some u) (heo : ∃ u, h'.get? e = some u)
    (new : ObjOk P w (upd H x o') h' x o') : HOk P w (upd H x o') h' := fun b u q => by
  have nown : ∀ c y, H c = some (.own y) → c ≠ x := fun c y r z => by subst z; rw [r] at mu; exact mu
  have ntup : ∀ c xs, H c = some (.tup xs) → c ≠ x := fun c xs r z => by subst z; rw [r] at mu; exact mu
  by_cases hb : b = x
  · subst hb; rw [upd_same] at q; cases q; exact new
  · rw [upd_ne hb] at q
    by_cases hbe : b = e
    · have q' : H b = some (.own x) := by
        rcases he with z | z
        · exact absurd (hbe.trans z) hb
        · rw [hbe]; exact z
      rw [q] at q'; cases q'
      obtain ⟨v, hv⟩ := heo
      exact ⟨v, by rw [hbe]; exact hv⟩
    · refine (ok b u q).stay (fun c v hc r => k c v ?_ r) (fun c r => by rw [upd_ne (nown c b r)]; exact r) fun c xs r => by rw [upd_ne (ntup c xs r)]; exact r
      rcases hc with rfl | hc
      · exact hbe
      · rintro rfl
        rcases he with z | z
        · exact nown c b hc z
        · rw [hc] at z; cases z; exact hb rfl
end


structure Un (fs ex : List Addr) (H H' : Hp) (h h' : Heap) : Prop where
  keep : ∀ b o, h.get? b = some o → H b = none → b ∉ fs → b ∉ ex → h'.get? b = some o
  slot : ∀ b o, h.get? b = some o → H b = none → b ∈ fs → b ∉ ex → ∃ sl, h'.get? b = some { o with slots := sl }
  free : ∀ b o, h.get? b = some o → H b = none → b ∉ ex → H' b = none
  there : ∀ b o, h.get? b = some o → b ∉ ex → ∃ o', h'.get? b = some o'
  tups : ∀ b xs, H b = some (.tup xs) → H' b = some (.tup xs)
  frzs : ∀ b o u, H b = some (.frz o u) → H' b = some (.frz o u)
  tbls : ∀ b ps, H b = some (.tbl ps) → ∃ more, H' b = some (.tbl (ps ++ more))
section
variable {fs fs' ex ex' : List Addr} {H H1 H2 : Hp} {h h1 h2 h' : Heap} {a x e : Addr} {o : HO}
theorem Un.any (u : Un fs ex H H1 h h1) {b : Addr} {ob : Obj} (q : h.get? b = some ob) (n : H b = none) (hx : b ∉ ex) : ∃ sl, h1.get? b = some { ob with slots := sl } := by
  by_cases hb : b ∈ fs
  · exact u.slot b ob q n hb hx
  · exact ⟨ob.slots, u.keep b ob q n hb hx⟩
theorem Un.kept (k : ∀ b u, h.get? b = some u → h'.get? b = some u) : Un fs ex H H h h' :=
  ⟨fun b ob q _ _ _ => k b ob q, fun b ob q _ _ _ => ⟨ob.slots, k b ob q⟩, fun _ _ _ n _ => n, fun b ob q _ => ⟨ob, k b ob q⟩, fun _ _ q => q, fun _ _ _ q => q, fun _ ps q => ⟨#[], by rw [q]; simp⟩⟩
theorem Un.refl : Un fs ex H H h h := Un.kept fun _ _ q => q
theorem Un.laid (k : ∀ b u, h.get? b = some u → h'.get? b = some u) (hp : h.objs.size ≤ a) (hn : H a = none) : Un fs ex H (upd H a o) h h' where
  keep := fun b u q _ _ _ => k b u q
  slot := fun b u q _ _ _ => ⟨u.slots, k b u q⟩
  free := fun b u q n _ => by rw [upd_ne (Nat.ne_of_lt (Nat.lt_of_lt_of_le (Heap.lt_size q) hp))]; exact n
  there := fun b u q _ => ⟨u, k b u q⟩
  tups := fun b xs q => by rw [upd_ne (ne_of_none q hn)]; exact q
  frzs := fun b u xs q => by rw [upd_ne (ne_of_none q hn)]; exact q
  tbls := fun b ps q => ⟨#[], by rw [upd_ne (ne_of_none q hn), q]; simp⟩
theorem Un.write (mu : Mut (H x)) (he : e = x ∨ H e = some (.own x)) (k : ∀ b u, b ≠ e → h.get? b = some u → h'.get? b = some u) (heo : ∃ u, h'.get? e = some u) : Un fs ex H (upd H x o) h h' := by
  have hx : ∀ b, H b = none → b ≠ x := fun b n z => by subst z; rw [n] at mu; exact mu
  have hb : ∀ b, H b = none → b ≠ e := fun b n z => by
    subst z
    rcases he with r | r
    · exact hx b n r
    · rw [n] at r; cases r
  have hm : ∀ b u, H b = some u → ¬ Mut (some u) → b ≠ x := fun b u q nm z => by subst z; rw [q] at mu; exact nm mu
  refine ⟨fun b u q n _ _ => k b u (hb b n) q, fun b u q n _ _ => ⟨u.slots, k b u (hb b n) q⟩, fun b u q n _ => by rw [upd_ne (hx b n)]; exact n, fun b u q _ => ?_,
    fun b xs q => by rw [upd_ne (hm b _ q fun z => z)]; exact q, fun b u xs q => by rw [upd_ne (hm b _ q fun z => z)]; exact q, fun b ps q => ⟨#[], by rw [upd_ne (hm b _ q fun z => z), q]; simp⟩⟩
  by_cases hbe : b = e
  · subst hbe; exact heo
  · exact ⟨u, k b u hbe q⟩
end


noncomputable def trk (h : Heap) (H : Hp) : List Addr := (List.range h.objs.size).filter fun a => (H a).isSome
noncomputable def hidT (h : Heap) (H : Hp) : Heap := PySem.W.hideAll h (trk h H)
theorem hidT_size (h : Heap) (H : Hp) : (hidT h H).objs.size = h.objs.size := PySem.W.hideAll_size _ _
theorem hidT_get {h : Heap} {H : Hp} {b : Addr} {o : Obj} (e : h.get? b = some o) (n : H b = none) : (hidT h H).get? b = some o :=
  PySem.W.hideAll_get _ e fun hm => by
    have q : (H b).isSome = true := (List.mem_filter.mp hm).2
    rw [n] at q; simp at q
theorem of_hidT {h : Heap} {H : Hp} {b : Addr} {o : Obj} (e : (hidT h H).get? b = some o) : h.get? b = some o ∧ H b = none := by
  have e' : h.get? b = some o := PySem.W.of_hideAll (trk h H) e
  refine ⟨e', ?_⟩
  cases q : H b with
  | none => rfl
  | some x =>
    have hm : b ∈ trk h H := List.mem_filter.mpr ⟨List.mem_range.mpr (Heap.lt_size e'), by simp [q]⟩
    have z : (hidT h H).get? b = none := PySem.W.hideAll_none (trk h H) hm
    rw [z] at e; cases e


noncomputable def allNews (g h : Heap) (L : Addr) : List (Addr × Obj) := (List.range h.objs.size).filterMap fun a => if a = L ∨ (g.get? a).isSome = true then none else (h.get? a).map fun o => (a, o)
noncomputable def rest (g h : Heap) (L d : Addr) : List (Addr × Obj) := (allNews g h L).filter fun p => decide (p.1 ≠ d)
end L2

namespace L2
open PySem PySem.Spec PyProof.Rows


structure Mod (K : PySem.W.Frag) (mg : Str → Option Value) (base : Heap) : Prop where
  kin : K.In base
  glob : base.Ns mainGlobals mg
  blt : ∃ mb, base.Ns builtinsNs mb ∧ ∀ x : Str, x ≠ "__name__" → mb x = bootBuiltins x
  nolimit : base.NoLimit


structure Cx where
  prog : Program
  w : World
  K : PySem.W.Frag
  mg : Str → Option Value
  base : Heap
  A : Around
  N : List Str
  s₀ : Shared
  H₀ : Hp
  env : Env
  outer : List Env
  stack : List Env
  ex : List Addr
  fn : Str → Bool
  calm : Bool
  pn : List (Addr × Obj)
  xe : Value → Shared → Prop

noncomputable def frs (l : List Env) : List Addr := l.filterMap (·.frame)
noncomputable abbrev Cx.fs (X : Cx) : List Addr := frs X.outer

noncomputable def Vis (sc : Scope) (x : Str) : Prop := sc.names.lookup x = some .local ∨ sc.names.lookup x = some .cell ∨ sc.names.lookup x = some .free
noncomputable def Loc (sc : Scope) (x : Str) : Prop := sc.names.lookup x = some .local ∨ sc.names.lookup x = some .cell
noncomputable def Look (env : Env) (h : Heap) (m : Str → Option Value) (x : Str) (u : Value) : Prop :=
  (env.kindOf x = some .local ∧ m x = some u) ∨ ((env.kindOf x = some .cell ∨ env.kindOf x = some .free) ∧ ∃ c, env.cells.lookup x = some c ∧ h.IsCell c (some u))

structure Cx.Ok (X : Cx) : Prop where
  mod : Mod X.K X.mg X.base
  kind : X.env.scope.kind = .function
  glob : X.env.globals = mainGlobals
  blt : X.env.builtins = builtinsNs
  above : X.s₀.heap.objs.size ≤ X.env.locals
  inj : ∀ x y c, X.env.cells.lookup x = some c → X.env.cells.lookup y = some c → x = y
  has : ∀ x, (X.env.kindOf x = some .cell ∨ X.env.kindOf x = some .free) → ∃ c, X.env.cells.lookup x = some c
  cab : ∀ x c, X.fn x = true → X.env.cells.lookup x = some c → X.s₀.heap.objs.size ≤ c
  hd : X.calm = true → X.A.handled = none
  frames : X.A.frames = some X.stack
  stk : X.stack = X.outer ∨ (X.stack = X.env :: X.outer ∧ X.env.frame = some X.env.locals)
  exf : ∀ b ∈ X.ex, b ≠ X.env.locals ∧ ∀ x c, X.env.cells.lookup x = some c → c ≠ b
  bs : ∀ b o, X.base.get? b = some o → X.s₀.heap.get? b = some o ∧ X.H₀ b = none
  bsz : X.base.objs.size ≤ X.s₀.heap.objs.size
  noex : ∀ b o, X.base.get? b = some o → b ∉ X.ex
  exfs : ∀ b ∈ X.ex, b ∉ X.fs
  funs : X.s₀.heap.FunFrames X.base X.outer
  frf : ∀ b ∈ X.fs, X.H₀ b = none

structure Inv (X : Cx) (pins : List (Addr × Obj)) (σ : List (Option V)) (H : Hp) (s : Shared) : Prop where
  ok : X.Ok
  os : s.os = X.s₀.os
  bare : AllBare s.gens
  base : Un X.fs X.ex X.H₀ H X.s₀.heap s.heap
  loc : ∃ m, s.heap.Ns X.env.locals m ∧ ∀ (i : Nat) (x : Str) (v : V), X.N[i]? = some x → σ[i]? = some (some v) → Vis X.env.scope x → ∃ u, RelV v u ∧ Look X.env s.heap m x u
  cell : ∀ x c, X.env.cells.lookup x = some c → ∃ v, s.heap.IsCell c v
  free : H X.env.locals = none
  freeC : ∀ x c, X.env.cells.lookup x = some c → H c = none
  pin : ∀ p ∈ X.pn ++ pins, s.heap.get? p.1 = some p.2 ∧ H p.1 = none ∧ p.1 ≠ X.env.locals ∧ p.1 ∉ X.fs ∧ ∀ v, p.2.data ≠ .cell v
  hok : HOk X.prog X.w H s.heap
  len : σ.length = X.N.length

section
variable {X : Cx} {pins : List (Addr × Obj)} {σ : List (Option V)} {H H' : Hp} {s : Shared} {h' : Heap}

theorem Cx.Ok.nofr (ok : X.Ok) {b : Addr} {o : Obj} (e : X.base.get? b = some o) : b ∉ X.fs := fun hb => by
  have := (ok.funs.mem hb).1
  rw [e] at this; cases this
theorem Inv.bs (I : Inv X pins σ H s) : ∀ b o, X.base.get? b = some o → s.heap.get? b = some o ∧ H b = none := fun b o e =>
  ⟨I.base.keep b o (I.ok.bs b o e).1 (I.ok.bs b o e).2 (I.ok.nofr e) (I.ok.noex b o e), I.base.free b o (I.ok.bs b o e).1 (I.ok.bs b o e).2 (I.ok.noex b o e)⟩
theorem Inv.bk (I : Inv X pins σ H s) : ∀ b o, X.base.get? b = some o → s.heap.get? b = some o := fun b o e => (I.bs b o e).1
theorem Inv.mod (I : Inv X pins σ H s) : Mod X.K X.mg X.base := I.ok.mod
theorem Inv.kIn (I : Inv X pins σ H s) : X.K.In s.heap := I.ok.mod.kin.keeps I.bk
theorem Inv.lt (I : Inv X pins σ H s) : X.env.locals < s.heap.objs.size := let ⟨_, hn, _⟩ := I.loc; hn.lt
theorem Inv.sz (I : Inv X pins σ H s) : X.s₀.heap.objs.size ≤ s.heap.objs.size := Nat.le_trans I.ok.above (Nat.le_of_lt I.lt)
theorem Inv.nofs (I : Inv X pins σ H s) {a : Addr} (h : s.heap.objs.size ≤ a) : a ∉ X.fs := fun hb => by
  obtain ⟨_, o, ho, _⟩ := I.ok.funs.mem hb
  exact absurd (Nat.lt_of_lt_of_le (Heap.lt_size ho) (Nat.le_trans I.sz h)) (Nat.lt_irrefl _)
theorem Inv.cne (I : Inv X pins σ H s) : ∀ x c, X.env.cells.lookup x = some c → c ≠ X.env.locals := fun x c e z => by
  obtain ⟨v, o, ho, hd⟩ := I.cell x c e
  obtain ⟨m, ⟨o', es, ep, ho', hd', _⟩, _⟩ := I.loc
  rw [z, ho'] at ho; cases ho; rw [hd'] at hd; cases hd
theorem Inv.funs (I : Inv X pins σ H s) : s.heap.FunFrames X.base X.outer := by
  have all : ∀ (l : List Env), (∀ b ∈ frs l, b ∈ X.fs) → X.s₀.heap.FunFrames X.base l → s.heap.FunFrames X.base l := by
    intro l
    induction l with
    | nil => intro _ _; trivial
    | cons env r ih =>
      intro hs hl
      obtain ⟨hk, ⟨L, o, hf, hn, ho, hd⟩, hr⟩ := hl
      have hL : L ∈ X.fs := hs L (by unfold frs; rw [List.filterMap_cons, hf]; exact List.mem_cons_self)
      obtain ⟨sl, e⟩ := I.base.slot L o ho (I.ok.frf L hL) hL fun z => I.ok.exfs L z hL
      exact ⟨hk, ⟨L, _, hf, hn, e, hd⟩, ih (fun b hb => hs b (by unfold frs; rw [List.filterMap_cons, hf]; exact List.mem_cons_of_mem _ hb)) hr⟩
  exact all X.outer (fun _ hb => hb) I.ok.funs


theorem Inv.stack (I : Inv X pins σ H s) : s.heap.FunFrames X.base X.stack := by
  rcases I.ok.stk with e | ⟨e, hf⟩
  · rw [e]; exact I.funs
  · rw [e]
    obtain ⟨m, hn, _⟩ := I.loc
    refine .cons (by rw [I.ok.kind]; decide) hf hn ?_ I.funs
    exact Heap.get?_none_of_le (Nat.le_trans I.ok.bsz I.ok.above)
theorem Inv.stkSub (I : Inv X pins σ H s) : ∀ b ∈ frs X.stack, b ∈ X.env.locals :: X.fs := fun b hb => by
  rcases I.ok.stk with e | ⟨e, hf⟩
  · rw [e] at hb; exact List.mem_cons_of_mem _ hb
  · rw [e] at hb
    unfold frs at hb
    rw [List.filterMap_cons, hf] at hb
    exact hb
theorem Inv.stkFree (I : Inv X pins σ H s) : ∀ b ∈ frs X.stack, H b = none := fun b hb => by
  rcases List.mem_cons.mp (I.stkSub b hb) with e | hb
  · rw [e]; exact I.free
  · obtain ⟨_, o, ho, _⟩ := I.ok.funs.mem hb
    exact I.base.free b o ho (I.ok.frf b hb) fun z => I.ok.exfs b z hb


theorem Inv.step {g' : Array GenState} {t' : Nat} {d' : Drawn} {ch : List Addr} (I : Inv X pins σ H s)
    (hch : ∀ b ∈ ch, (b ∈ X.ex ∨ X.s₀.heap.objs.size ≤ b) ∧ b ≠ X.env.locals ∧ (∀ x c, X.env.cells.lookup x = some c → c ≠ b) ∧ ∀ p ∈ X.pn ++ pins, p.1 ≠ b)
    (keep : ∀ b o, b ≠ X.env.locals → b ∉ X.fs → b ∉ ch → s.heap.get? b = some o → H b = none → h'.get? b = some o)
    (slot : ∀ b o, b ≠ X.env.locals → b ∈ X.fs → b ∉ ch → s.heap.get? b = some o → H b = none → ∃ sl, h'.get? b = some { o with slots := sl }) (free : ∀ b o, b ∉ ch → s.heap.get? b = some o → H b = none → H' b = none)
    (there : ∀ b o, b ∉ ch → s.heap.get? b = some o → ∃ o', h'.get? b = some o')
    (tups : ∀ b xs, H b = some (.tup xs) → H' b = some (.tup xs)) (frzs : ∀ b o u, H b = some (.frz o u) → H' b = some (.frz o u)) (tbls : ∀ b ps, H b = some (.tbl ps) → ∃ more, H' b = some (.tbl (ps ++ more)))
    (ns : ∀ m, s.heap.Ns X.env.locals m → h'.Ns X.env.locals m) (hok : HOk X.prog X.w H' h') (hg : AllBare g') :
    Inv X pins σ H' { s with heap := h', gens := g', drawn := d', toks := t' } := by
  have neL : ∀ b o, X.s₀.heap.get? b = some o → b ≠ X.env.locals := fun b o e => Nat.ne_of_lt (Nat.lt_of_lt_of_le (Heap.lt_size e) I.ok.above)
  have neC : ∀ b o, X.s₀.heap.get? b = some o → b ∉ X.ex → b ∉ ch := fun b o e hx hb => by
    rcases (hch b hb).1 with z | z
    · exact hx z
    · exact absurd (Nat.lt_of_lt_of_le (Heap.lt_size e) z) (Nat.lt_irrefl _)
  have cellK : ∀ x c, X.env.cells.lookup x = some c → ∀ v, s.heap.IsCell c v → h'.IsCell c v := fun x c e v ⟨o, ho, hd⟩ => by
    have nch : c ∉ ch := fun z => (hch c z).2.2.1 x c e rfl
    by_cases hc : c ∈ X.fs
    · obtain ⟨sl, q⟩ := slot c o (I.cne x c e) hc nch ho (I.freeC x c e)
      exact ⟨_, q, hd⟩
    · exact ⟨o, keep c o (I.cne x c e) hc nch ho (I.freeC x c e), hd⟩
  refine ⟨I.ok, I.os, hg, ⟨fun b o e n hb hx => ?_, fun b o e n hb hx => ?_, fun b o e n hx => ?_, fun b o e hx => ?_, fun b xs e => tups b xs (I.base.tups b xs e), fun b o xs e => frzs b o xs (I.base.frzs b o xs e), fun b ps e => ?_⟩, ?_, fun x c e => ?_, ?_, fun x c e => ?_, fun p hp => ?_, hok, I.len⟩
  · exact keep b o (neL b o e) hb (neC b o e hx) (I.base.keep b o e n hb hx) (I.base.free b o e n hx)
  · obtain ⟨sl, e1⟩ := I.base.slot b o e n hb hx
    obtain ⟨sl', e2⟩ := slot b _ (neL b o e) hb (neC b o e hx) e1 (I.base.free b o e n hx)
    exact ⟨sl', e2⟩
  · obtain ⟨o', e1⟩ := I.base.there b o e hx
    exact free b o' (neC b o e hx) e1 (I.base.free b o e n hx)
  · obtain ⟨o', e1⟩ := I.base.there b o e hx
    exact there b o' (neC b o e hx) e1
  · obtain ⟨m1, e1⟩ := I.base.tbls b ps e
    obtain ⟨m2, e2⟩ := tbls b _ e1
    exact ⟨m1 ++ m2, by rw [e2, Array.append_assoc]⟩
  · obtain ⟨m, hn, hl⟩ := I.loc
    refine ⟨m, ns m hn, fun i x v e1 e2 e3 => ?_⟩
    obtain ⟨u, r, l⟩ := hl i x v e1 e2 e3
    refine ⟨u, r, ?_⟩
    rcases l with l | ⟨k, c, e, z⟩
    · exact .inl l
    · exact .inr ⟨k, c, e, cellK x c e _ z⟩
  · obtain ⟨v, z⟩ := I.cell x c e
    exact ⟨v, cellK x c e v z⟩
  · obtain ⟨m, ⟨o, _, _, ho, _⟩, _⟩ := I.loc
    exact free _ o (fun z => (hch _ z).2.1 rfl) ho I.free
  · obtain ⟨v, o, ho, hd⟩ := I.cell x c e
    exact free c o (fun z => (hch c z).2.2.1 x c e rfl) ho (I.freeC x c e)
  · obtain ⟨e, n, ne, nf, d⟩ := I.pin p hp
    have nch : p.1 ∉ ch := fun z => (hch p.1 z).2.2.2 p hp rfl
    exact ⟨keep p.1 p.2 ne nf nch e n, free p.1 p.2 nch e n, ne, nf, d⟩

theorem Inv.un {t' : Nat} (I : Inv X pins σ H s) (u : Un X.fs [] H H' s.heap h') (hok : HOk X.prog X.w H' h') : Inv X pins σ H' { s with heap := h', toks := t' } := by
  obtain ⟨m, ⟨o, es, ep, ho, r⟩, _⟩ := id I.loc
  obtain ⟨sl, hL⟩ := u.any ho I.free (by simp)
  exact I.step (g' := s.gens) (d' := s.drawn) (ch := []) (fun _ z => nomatch z) (fun b o _ hb _ e n => u.keep b o e n hb (by simp)) (fun b o _ hb _ e n => u.slot b o e n hb (by simp)) (fun b o _ e n => u.free b o e n (by simp)) (fun b o _ e => u.there b o e (by simp)) u.tups u.frzs u.tbls (fun m' hm => by
    obtain ⟨o', es', ep', ho', r'⟩ := hm
    rw [ho] at ho'; cases ho'
    exact ⟨_, es', ep', hL, r'⟩) hok I.bare

theorem Inv.call {g' : Array GenState} {t' : Nat} {d' : Drawn} {ch : List Addr} (I : Inv X pins σ H s) (u : Un (frs X.stack) ch H H' s.heap h') (hok : HOk X.prog X.w H' h') (hg : AllBare g')
    (hch : ∀ b ∈ ch, (b ∈ X.ex ∨ X.s₀.heap.objs.size ≤ b) ∧ b ≠ X.env.locals ∧ (∀ x c, X.env.cells.lookup x = some c → c ≠ b) ∧ ∀ p ∈ X.pn ++ pins, p.1 ≠ b) :
    Inv X pins σ H' { s with heap := h', gens := g', drawn := d', toks := t' } := by
  obtain ⟨m, ⟨o, es, ep, ho, r⟩, _⟩ := id I.loc
  obtain ⟨sl, hL⟩ := u.any ho I.free fun z => (hch _ z).2.1 rfl
  exact I.step (ch := ch) hch (fun b o hL hb hc e n => u.keep b o e n (fun z => (List.mem_cons.mp (I.stkSub b z)).elim hL hb) hc) (fun b o _ _ hc e n => u.any e n hc) (fun b o hc e n => u.free b o e n hc) (fun b o hc e => u.there b o e hc) u.tups u.frzs u.tbls (fun m' hm => by
    obtain ⟨o', es', ep', ho', r'⟩ := hm
    rw [ho] at ho'; cases ho'
    exact ⟨_, es', ep', hL, r'⟩) hok hg

theorem Inv.turned {t' : Nat} {it : Addr} (I : Inv X pins σ H s) (k : ∀ b o, b ≠ it → s.heap.get? b = some o → h'.get? b = some o) (hn : H it = none) (hL : it ≠ X.env.locals)
    (h1 : it ∈ X.ex ∨ X.s₀.heap.objs.size ≤ it) (h2 : ∀ x c, X.env.cells.lookup x = some c → c ≠ it) (h3 : ∀ p ∈ X.pn ++ pins, p.1 ≠ it) : Inv X pins σ H { s with heap := h', toks := t' } := by
  have nit : ∀ b u, H b = some u → b ≠ it := fun b u e z => by rw [z, hn] at e; cases e
  refine I.step (g' := s.gens) (d' := s.drawn) (ch := [it]) (fun b hb => ?_) (fun b o _ _ hc e _ => k b o (fun z => hc (by simp [z])) e) (fun b o _ _ hc e _ => ⟨o.slots, k b o (fun z => hc (by simp [z])) e⟩) (fun _ _ _ _ n => n)
    (fun b o hc e => ⟨o, k b o (fun z => hc (by simp [z])) e⟩) (fun _ _ e => e) (fun _ _ _ e => e) (fun b ps e => ⟨#[], by rw [e]; simp⟩) (fun m hm => ?_) (fun b u e => ?_) I.bare
  · have e : b = it := by simpa using hb
    subst e
    exact ⟨h1, hL, h2, h3⟩
  · obtain ⟨o, es, ep, ho, r⟩ := hm
    exact ⟨o, es, ep, k _ o (Ne.symm hL) ho, r⟩
  · refine (I.hok b u e).stay (fun c v hc q => k c v ?_ q) (fun _ q => q) fun _ _ q => q
    rcases hc with z | z
    · rw [z]; exact nit b u e
    · exact nit c _ z
theorem Inv.tok (I : Inv X pins σ H s) (t : Nat) : Inv X pins σ H { s with toks := t } := I.un (h' := s.heap) (t' := t) Un.refl I.hok

theorem Inv.kept {t' : Nat} (I : Inv X pins σ H s) (k : ∀ b u, s.heap.get? b = some u → h'.get? b = some u) : Inv X pins σ H { s with heap := h', toks := t' } := I.un (Un.kept k) (I.hok.kept k)

theorem Inv.laid {a : Addr} {o : HO} {t' : Nat} (I : Inv X pins σ H s) (k : ∀ b u, s.heap.get? b = some u → h'.get? b = some u) (hp : s.heap.objs.size ≤ a) (new : ObjOk X.prog X.w (upd H a o) h' a o) :
    Inv X pins σ (upd H a o) { s with heap := h', toks := t' } := I.un (Un.laid k hp (I.hok.fresh hp)) (I.hok.laid k hp new)

theorem Inv.write {x e : Addr} {o : HO} {t' : Nat} (I : Inv X pins σ H s) (mu : Mut (H x)) (he : e = x ∨ H e = some (.own x)) (k : ∀ b u, b ≠ e → s.heap.get? b = some u → h'.get? b = some u) (heo : ∃ u, h'.get? e = some u)
    (new : ObjOk X.prog X.w (upd H x o) h' x o) : Inv X pins σ (upd H x o) { s with heap := h', toks := t' } := I.un (Un.write mu he k heo) (I.hok.write mu he k heo new)

theorem Inv.weak {σ' : List (Option V)} (I : Inv X pins σ H s) (hl : σ'.length = σ.length) (w : ∀ (i : Nat) v, σ'[i]? = some (some v) → σ[i]? = some (some v)) : Inv X pins σ' H s :=
  ⟨I.ok, I.os, I.bare, I.base, let ⟨m, hn, hl'⟩ := I.loc; ⟨m, hn, fun i x v e1 e2 e3 => hl' i x v e1 (w i v e2) e3⟩, I.cell, I.free, I.freeC, I.pin, I.hok, hl.trans I.len⟩
theorem Inv.pins_of {pins' : List (Addr × Obj)} (I : Inv X pins σ H s) (h : ∀ p ∈ pins', s.heap.get? p.1 = some p.2 ∧ H p.1 = none ∧ p.1 ≠ X.env.locals ∧ p.1 ∉ X.fs ∧ ∀ v, p.2.data ≠ .cell v) : Inv X pins' σ H s :=
  ⟨I.ok, I.os, I.bare, I.base, I.loc, I.cell, I.free, I.freeC, fun p hp => (List.mem_append.mp hp).elim (fun z => I.pin p (List.mem_append_left _ z)) (h p), I.hok, I.len⟩

theorem nodup_ix {N : List Str} (hN : N.Nodup) {i j : Nat} {x : Str} (a : N[i]? = some x) (b : N[j]? = some x) : i = j := by
  obtain ⟨h1, e1⟩ := List.getElem?_eq_some_iff.mp a
  obtain ⟨h2, e2⟩ := List.getElem?_eq_some_iff.mp b
  exact (List.getElem_inj hN).mp (e1.trans e2.symm)


theorem store_ok2 {M : Model} {A : Around} {E : Value → Shared → Prop} {i : Nat} {x : Str} {v : V} {u : Value} {Q : Unit → Shared → Prop} (I : Inv X pins σ H s) (hN : X.N.Nodup) (hi : X.N[i]? = some x) (hx : Loc X.env.scope x) (r : RelV v u)
    (h : ∀ s', Inv X pins (σ.set i (some v)) H s' → (∃ a, Heap.SameBut a s.heap s'.heap ∧ (a = X.env.locals ∨ X.env.cells.lookup x = some a)) → Q () s') (hf : X.fn x = true ∨ X.env.scope.names.lookup x = some .local := by first | exact .inl rfl | exact .inr rfl | assumption) : wpAny M A (storeName X.env x u) Q E s := by
  obtain ⟨m, hn, hl⟩ := id I.loc
  have hcls : (X.env.scope.kind == .class || (X.env.scope.kind == .module && X.env.locals != X.env.globals)) = false := by rw [I.ok.kind]; rfl
  have hiσ : i < σ.length := by rw [I.len]; exact (List.getElem?_eq_some_iff.mp hi).1
  have cne := I.cne
  have tracked : ∀ {a : Addr} {h' : Heap}, (∃ o, s.heap.get? a = some o ∧ H a = none) → Heap.SameBut a s.heap h' → HOk X.prog X.w H h' := fun {a h'} ha hs b ob e => by
    obtain ⟨_, _, hfree⟩ := ha
    refine (I.hok b ob e).stay (fun c w' hc q => (hs.2 c ?_).trans q) (fun _ q => q) fun _ _ q => q
    rintro rfl
    rcases hc with rfl | hc
    · rw [hfree] at e; cases e
    · rw [hfree] at hc; cases hc
  rcases hx with hk | hk
  · refine wpAny_storeName_local hk hn (fun h' hn' hs => ?_) hcls
    obtain ⟨oL, _, _, hoL, _⟩ := id hn
    refine h _ ⟨I.ok, I.os, I.bare, ⟨fun b o e n hb hx => ?_, fun b o e n hb hx => ?_, I.base.free, fun b o e hx => ?_, I.base.tups, I.base.frzs, I.base.tbls⟩, ⟨_, hn', fun j y v' e1 e2 e3 => ?_⟩, fun y c e => ?_, I.free, I.freeC, fun p hp => ?_, tracked ⟨oL, hoL, I.free⟩ hs, by simpa using I.len⟩ ⟨_, hs, .inl rfl⟩
    · exact (hs.2 b (Nat.ne_of_lt (Nat.lt_of_lt_of_le (Heap.lt_size e) I.ok.above))).trans (I.base.keep b o e n hb hx)
    · obtain ⟨sl, e1⟩ := I.base.slot b o e n hb hx
      exact ⟨sl, (hs.2 b (Nat.ne_of_lt (Nat.lt_of_lt_of_le (Heap.lt_size e) I.ok.above))).trans e1⟩
    · obtain ⟨o', e1⟩ := I.base.there b o e hx
      exact ⟨o', (hs.2 b (Nat.ne_of_lt (Nat.lt_of_lt_of_le (Heap.lt_size e) I.ok.above))).trans e1⟩
    · by_cases hj : j = i
      · subst hj
        rw [hi] at e1; cases e1
        rw [List.getElem?_set_self hiσ] at e2
        cases e2
        exact ⟨u, r, .inl ⟨hk, by simp⟩⟩
      · rw [List.getElem?_set_ne (Ne.symm hj)] at e2
        obtain ⟨u', r', q⟩ := hl j y v' e1 e2 e3
        refine ⟨u', r', ?_⟩
        rcases q with ⟨k, e⟩ | ⟨k, c, e, z⟩
        · refine .inl ⟨k, ?_⟩
          have : y ≠ x := fun e => hj (nodup_ix hN e1 (e ▸ hi))
          simp [this, e]
        · exact .inr ⟨k, c, e, z.sameBut hs (cne y c e)⟩
    · obtain ⟨w', z⟩ := I.cell y c e
      exact ⟨w', z.sameBut hs (cne y c e)⟩
    · obtain ⟨e, n, ne, nf, d⟩ := I.pin p hp
      exact ⟨(hs.2 p.1 ne).trans e, n, ne, nf, d⟩
  · have hfn : X.fn x = true := by
      rcases hf with z | z
      · exact z
      · rw [z] at hk; cases hk
    obtain ⟨c, hc⟩ := I.ok.has x (.inl hk)
    obtain ⟨w', z⟩ := I.cell x c hc
    refine wpAny_storeName_cell I.ok.kind hk hc z (fun h' hc' hs => ?_)
    obtain ⟨oc, hoc, hocd⟩ := id z
    refine h { s with heap := h' } ⟨I.ok, I.os, I.bare, ⟨fun b o e n hb hx => ?_, fun b o e n hb hx => ?_, I.base.free, fun b o e hx => ?_, I.base.tups, I.base.frzs, I.base.tbls⟩, ⟨m, hn.sameBut hs (Ne.symm (cne x c hc)), fun j y v' e1 e2 e3 => ?_⟩, fun y c' e => ?_, I.free, I.freeC, fun p hp => ?_, tracked ⟨oc, hoc, I.freeC x c hc⟩ hs, by simpa using I.len⟩ ⟨c, hs, .inr hc⟩
    · exact (hs.2 b (Nat.ne_of_lt (Nat.lt_of_lt_of_le (Heap.lt_size e) (I.ok.cab x c hfn hc)))).trans (I.base.keep b o e n hb hx)
    · obtain ⟨sl, e1⟩ := I.base.slot b o e n hb hx
      exact ⟨sl, (hs.2 b (Nat.ne_of_lt (Nat.lt_of_lt_of_le (Heap.lt_size e) (I.ok.cab x c hfn hc)))).trans e1⟩
    · obtain ⟨o', e1⟩ := I.base.there b o e hx
      exact ⟨o', (hs.2 b (Nat.ne_of_lt (Nat.lt_of_lt_of_le (Heap.lt_size e) (I.ok.cab x c hfn hc)))).trans e1⟩
    · by_cases hj : j = i
      · subst hj
        rw [hi] at e1; cases e1
        rw [List.getElem?_set_self hiσ] at e2
        cases e2
        exact ⟨u, r, .inr ⟨.inl hk, c, hc, hc'⟩⟩
      · rw [List.getElem?_set_ne (Ne.symm hj)] at e2
        obtain ⟨u', r', q⟩ := hl j y v' e1 e2 e3
        refine ⟨u', r', ?_⟩
        rcases q with q | ⟨k, c', e, z'⟩
        · exact .inl q
        · refine .inr ⟨k, c', e, z'.sameBut hs ?_⟩
          rintro rfl
          exact hj (nodup_ix hN e1 (I.ok.inj _ _ _ e hc ▸ hi))
    · by_cases hcc : c' = c
      · subst hcc; exact ⟨_, hc'⟩
      · obtain ⟨w2, z2⟩ := I.cell y c' e
        exact ⟨w2, z2.sameBut hs hcc⟩
    · obtain ⟨e, n, ne, nf, d⟩ := I.pin p hp
      refine ⟨(hs.2 p.1 ?_).trans e, n, ne, nf, d⟩
      intro q
      rw [q, hoc] at e
      have q' : oc = p.2 := Option.some.inj e
      exact d w' (by rw [← q']; exact hocd)
theorem store_ok {M : Model} {A : Around} {E : Value → Shared → Prop} {i : Nat} {x : Str} {v : V} {u : Value} {Q : Unit → Shared → Prop} (I : Inv X pins σ H s) (hN : X.N.Nodup) (hi : X.N[i]? = some x) (hx : Loc X.env.scope x) (r : RelV v u)
    (h : ∀ s', Inv X pins (σ.set i (some v)) H s' → Q () s') (hf : X.fn x = true ∨ X.env.scope.names.lookup x = some .local := by first | exact .inl rfl | exact .inr rfl | assumption) : wpAny M A (storeName X.env x u) Q E s :=
  store_ok2 I hN hi hx r (fun s' I' _ => h s' I') hf

theorem Inv.call' {s' : Shared} {ch : List Addr} (I : Inv X pins σ H s) (ho : s'.os = s.os) (u : Un (frs X.stack) ch H H' s.heap s'.heap) (hok : HOk X.prog X.w H' s'.heap) (hg : AllBare s'.gens)
    (hch : ∀ b ∈ ch, (b ∈ X.ex ∨ X.s₀.heap.objs.size ≤ b) ∧ b ≠ X.env.locals ∧ (∀ x c, X.env.cells.lookup x = some c → c ≠ b) ∧ ∀ p ∈ X.pn ++ pins, p.1 ≠ b) : Inv X pins σ H' s' := by
  obtain ⟨h', g', d', t', o'⟩ := s'
  have e : o' = s.os := ho
  subst e
  exact I.call (g' := g') (t' := t') (d' := d') u hok hg hch
end



noncomputable abbrev XK := Value → Option Addr → Hp → Prop
noncomputable abbrev St := List (Option V)
noncomputable abbrev VK := V → Hp → Prop

noncomputable abbrev TE := St → Hp → VK → Prop
noncomputable abbrev TT := St → Hp → (Bool → Hp → Prop) → Prop
noncomputable abbrev TA := St → Hp → (List V → Hp → Prop) → Prop

structure Ends where
  nx : St → Hp → Prop
  rt : VK
  bk : St → Hp → Prop := fun _ _ => False
  ct : St → Hp → Prop := fun _ _ => False
noncomputable abbrev TS := Ends → St → Hp → Prop

noncomputable def EP (X : Cx) (pins : List (Addr × Obj)) (σ : St) (Q : VK) (u : Value) (s' : Shared) : Prop := ∃ v H', Inv X pins σ H' s' ∧ RelV v u ∧ Q v H'
noncomputable def TP (X : Cx) (pins : List (Addr × Obj)) (σ : St) (Q : Bool → Hp → Prop) (b : Bool) (s' : Shared) : Prop := ∃ H', Inv X pins σ H' s' ∧ Q b H'
noncomputable def AP (X : Cx) (pins : List (Addr × Obj)) (σ : St) (Q : List V → Hp → Prop) (us : List Value) (s' : Shared) : Prop := ∃ vs H', Inv X pins σ H' s' ∧ Vals vs us ∧ Q vs H'
noncomputable def SP (X : Cx) (pins : List (Addr × Obj)) (D : Ends) (f : Flow) (s' : Shared) : Prop :=
  match f with
  | .next => ∃ σ' H', Inv X pins σ' H' s' ∧ D.nx σ' H'
  | .brk => ∃ σ' H', Inv X pins σ' H' s' ∧ D.bk σ' H'
  | .cont => ∃ σ' H', Inv X pins σ' H' s' ∧ D.ct σ' H'
  | .ret u => ∃ v σ' H', Inv X pins σ' H' s' ∧ RelV v u ∧ D.rt v H'

noncomputable def PE (X : Cx) (e : Expr) (t : TE) : Prop :=
  ∀ (pins : List (Addr × Obj)) (s : Shared) (σ : St) (H : Hp) (Q : VK), Inv X pins σ H s → t σ H Q → wpAny (model X.prog X.w) X.A (eval e X.env) (EP X pins σ Q) X.xe s
noncomputable def PT (X : Cx) (e : Expr) (t : TT) : Prop :=
  ∀ (pins : List (Addr × Obj)) (s : Shared) (σ : St) (H : Hp) (Q : Bool → Hp → Prop), Inv X pins σ H s → t σ H Q → wpAny (model X.prog X.w) X.A (isTrue e X.env (eval e X.env)) (TP X pins σ Q) X.xe s

noncomputable def PW (X : Cx) (e : Expr) (t : TT) : Prop :=
  ∀ (whole : Sem Value) (pins : List (Addr × Obj)) (s : Shared) (σ : St) (H : Hp) (Q : Bool → Hp → Prop), Inv X pins σ H s → t σ H Q → wpAny (model X.prog X.w) X.A (isTrue e X.env whole) (TP X pins σ Q) X.xe s
theorem PW.pt {X : Cx} {e : Expr} {t : TT} (h : PW X e t) : PT X e t := h _

noncomputable def PA (X : Cx) (es : List Expr) (t : TA) : Prop :=
  ∀ (pos : Pos) (pins : List (Addr × Obj)) (s : Shared) (σ : St) (H : Hp) (Q : List V → Hp → Prop), Inv X pins σ H s → t σ H Q → wpAny (model X.prog X.w) X.A (spliced (backTo pos (starEach es X.env))) (AP X pins σ Q) X.xe s
noncomputable def PS (X : Cx) (st : Stmt) (t : TS) : Prop :=
  ∀ (pins : List (Addr × Obj)) (s : Shared) (σ : St) (H : Hp) (D : Ends), Inv X pins σ H s → t D σ H → wpAny (model X.prog X.w) X.A (exec st X.env) (SP X pins D) X.xe s
noncomputable def PSs (X : Cx) (st : List Stmt) (t : TS) : Prop :=
  ∀ (pins : List (Addr × Obj)) (s : Shared) (σ : St) (H : Hp) (D : Ends), Inv X pins σ H s → t D σ H → wpAny (model X.prog X.w) X.A (execs st X.env) (SP X pins D) X.xe s

theorem thn {α : Type} {t : Sem α} {Q Q' : α → Shared → Prop} {M : Model} {A : Around} {E : Value → Shared → Prop} {s : Shared} (h : wpAny M A t Q E s) (hQ : ∀ a s, Q a s → Q' a s) : wpAny M A t Q' E s := wpAny_mono h hQ fun _ _ x => x
theorem thnE {X : Cx} {pins : List (Addr × Obj)} {σ : St} {Q : VK} {t : Sem Value} {Q' : Value → Shared → Prop} {M : Model} {A : Around} {E : Value → Shared → Prop} {s : Shared} (h : wpAny M A t (EP X pins σ Q) E s) (hQ : ∀ a s x H, Inv X pins σ H s → RelV x a → Q x H → Q' a s) : wpAny M A t Q' E s := thn h fun a s z => z.elim fun x z => z.elim fun H z => hQ a s x H z.1 z.2.1 z.2.2
theorem thnA {X : Cx} {pins : List (Addr × Obj)} {σ : St} {Q : List V → Hp → Prop} {t : Sem (List Value)} {Q' : List Value → Shared → Prop} {M : Model} {A : Around} {E : Value → Shared → Prop} {s : Shared} (h : wpAny M A t (AP X pins σ Q) E s) (hQ : ∀ a s x H, Inv X pins σ H s → Vals x a → Q x H → Q' a s) : wpAny M A t Q' E s := thn h fun a s z => z.elim fun x z => z.elim fun H z => hQ a s x H z.1 z.2.1 z.2.2
end L2

namespace L2
open PySem PySem.Spec PyProof.Rows
section
variable {X : Cx}



noncomputable def tVar (i : Nat) : TE := fun σ H Q => ∃ v, σ[i]? = some (some v) ∧ Q v H
noncomputable def tC (v : V) : TE := fun _ H Q => Q v H
theorem pe_var {i : Nat} {x : Str} {pos : Pos} (hN : X.N[i]? = some x) (hv : Vis X.env.scope x) (hd : (x == ("__debug__" : Str)) = false := by decide) (hcd : (x == ("__classdict__" : Str)) = false := by decide) : PE X (.Name x pos) (tVar i) := by
  intro pins s σ H Q I h
  obtain ⟨v, e, h⟩ := h
  obtain ⟨m, hn, hl⟩ := I.loc
  obtain ⟨u, r, l⟩ := hl i x v hN e hv
  have fin : EP X pins σ Q u s := ⟨v, H, I, r, h⟩
  rcases l with ⟨hk, hm⟩ | ⟨hk, c, hc, hcell⟩
  · exact wpAny_Name (wpAny_loadName_local I.ok.kind hk hn hm fin) hd
  · rcases hk with hk | hk
    · exact wpAny_Name (wpAny_loadName_cell I.ok.kind hk hc hcell fin) hd
    · exact wpAny_Name (wpAny_loadName_free I.ok.kind hk hc hcell fin hcd) hd
theorem pe_int {i j pos} : PE X (.Constant (.int i) j pos) (tC (.int i)) := fun _ _ _ H _ I h => wpAny_Constant_int ⟨.int i, H, I.tok _, ⟨_, rfl⟩, h⟩
theorem pe_bl {b j pos} : PE X (.Constant (.bool b) j pos) (tC (.bl b)) := fun _ _ _ H _ I h => Constant_bool ⟨.bl b, H, I, rfl, h⟩
theorem pe_non {j pos} : PE X (.Constant .none j pos) (tC .non) := fun _ _ _ H _ I h => Constant_none ⟨.non, H, I, rfl, h⟩
theorem pe_str {x j pos} : PE X (.Constant (.str x) j pos) (tC (.str x)) := fun _ _ _ H _ I h => Calls.Constant_str ⟨.str x, H, I.tok _, ⟨_, rfl⟩, h⟩


noncomputable def Gl (X : Cx) (x : Str) : Prop := X.env.kindOf x = some .globalImplicit
theorem ld_glob {E : Value → Shared → Prop} {pins : List (Addr × Obj)} {s : Shared} {σ : St} {H : Hp} {x : Str} {u : Value} {pos : Pos} {Q : Value → Shared → Prop} (I : Inv X pins σ H s) (hg : Gl X x) (hm : X.mg x = some u) (h : Q u s)
    (hd : (x == ("__debug__" : Str)) = false := by decide) : wpAny (model X.prog X.w) X.A (eval (.Name x pos) X.env) Q E s :=
  Calls.Name_function_global I.ok.kind hg (Calls.loadGlobal_global (by rw [I.ok.glob]; exact I.mod.glob.keeps I.bk) hm h) hd
theorem ld_blt {E : Value → Shared → Prop} {pins : List (Addr × Obj)} {s : Shared} {σ : St} {H : Hp} {x : Str} {u : Value} {pos : Pos} {Q : Value → Shared → Prop} (I : Inv X pins σ H s) (hg : Gl X x) (hm : X.mg x = none) (hv : bootBuiltins x = some u) (h : Q u s)
    (hn : x ≠ "__name__" := by decide) (hd : (x == ("__debug__" : Str)) = false := by decide) : wpAny (model X.prog X.w) X.A (eval (.Name x pos) X.env) Q E s := by
  obtain ⟨mb, h1, h2⟩ := I.mod.blt
  exact Calls.Name_function_global I.ok.kind hg (Calls.loadGlobal_builtin (by rw [I.ok.glob]; exact I.mod.glob.keeps I.bk) hm (by rw [I.ok.blt]; exact h1.keeps I.bk) ((h2 x hn).trans hv) h) hd

theorem pe_glob {x : Str} {v : V} {u : Value} {pos : Pos} (hg : Gl X x) (hm : X.mg x = some u) (r : RelV v u) (hd : (x == ("__debug__" : Str)) = false := by decide) : PE X (.Name x pos) (tC v) :=
  fun _ _ _ H _ I h => ld_glob I hg hm ⟨v, H, I, r, h⟩ hd
theorem pe_bltn {x : Str} {v : V} {u : Value} {pos : Pos} (hg : Gl X x) (hm : X.mg x = none) (hv : bootBuiltins x = some u) (r : RelV v u) (hn : x ≠ "__name__" := by decide) (hd : (x == ("__debug__" : Str)) = false := by decide) : PE X (.Name x pos) (tC v) :=
  fun _ _ _ H _ I h => ld_blt I hg hm hv ⟨v, H, I, r, h⟩ hn hd




variable {a b : Expr} {ta tb : TE} {pos : Pos}




noncomputable def tB (t : TE) : TT := fun σ H Q => t σ H fun x H1 => ∃ c, x = .bl c ∧ Q c H1

theorem pt_val {e : Expr} {t : TE} (h : PE X e t) (he : ∀ whole, isTrue e X.env whole = (do let v ← whole; standAt e.pos; holding [v] (truthy v)) := by intro _; rfl) : PT X e (tB t) := by
  intro pins s σ H Q I hw
  refine isTrue_plain (thnE (h pins s σ H _ I hw) fun v s1 x H1 I1 r1 q1 => ?_) (he _)
  obtain ⟨d, rfl, q⟩ := q1
  cases r1
  exact wpAny_truthy_bool ⟨H1, I1, q⟩


variable {tA tB' : TT} {rest : List Expr}
noncomputable def tOr (t u : TT) : TT := fun σ H Q => t σ H fun c H1 => if c = true then Q true H1 else u σ H1 Q
noncomputable def tNot (t : TT) : TT := fun σ H Q => t σ H fun c H1 => Q (!c) H1
theorem pw_or1 (ha : PT X a tA) : PW X (.BoolOp .Or [a] pos) tA := by
  intro wh pins s σ H Q I h
  refine isTrue_or (thn (ha pins s σ H Q I h) fun c s1 e => ?_)
  cases c with
  | false => exact isTrue_or_nil e
  | true => exact e
theorem pw_or (ha : PT X a tA) (hb : PW X (.BoolOp .Or (b :: rest) pos) tB') : PW X (.BoolOp .Or (a :: b :: rest) pos) (tOr tA tB') := by
  intro wh pins s σ H Q I h
  refine isTrue_or (thn (ha pins s σ H _ I h) fun c s1 ⟨H1, I1, q1⟩ => ?_)
  cases c with
  | true => exact ⟨H1, I1, q1⟩
  | false => exact hb wh pins s1 σ H1 Q I1 q1
theorem pt_not (ha : PT X a tA) : PT X (.UnaryOp .Not a pos) (tNot tA) := by
  intro pins s σ H Q I h
  exact isTrue_not (ha pins s σ H (fun c H1 => Q (!c) H1) I h)

noncomputable def tAndV (ta tb : TE) : TE := fun σ H Q => ta σ H fun x H1 => ∃ c, x = .bl c ∧ if c = true then tb σ H1 Q else Q (.bl false) H1
theorem pe_one {op} {t : TE} (h : PE X a t) : PE X (.BoolOp op [a] pos) t := fun pins s σ H Q I hw => BoolOp_one (h pins s σ H Q I hw)
theorem pe_and (ha : PE X a ta) (hb : PE X (.BoolOp .And (b :: rest) pos) tb) : PE X (.BoolOp .And (a :: b :: rest) pos) (tAndV ta tb) := by
  intro pins s σ H Q I h
  refine BoolOp_and (thnE (ha pins s σ H _ I h) fun v s1 x H1 I1 r1 q1 => ?_)
  obtain ⟨c, rfl, q1⟩ := q1
  cases r1
  refine wpAny_truthy_bool ?_
  cases c with
  | true => exact hb pins s1 σ H1 Q I1 q1
  | false => exact ⟨.bl false, H1, I1, rfl, q1⟩

end
end L2

namespace L2
open PySem PySem.Spec PyProof.Rows


noncomputable def SqL (K : PySem.W.Frag) (H : Hp) (a : Addr) (xs : List V) : Prop :=
  Rd H a (.lst xs) ∨
    ∃ (o : Obj) (its : Array Value) (n : Nat), K.lookup a = some o ∧ o.cls = .type "list" ∧ o.dict = none ∧ o.data = .seq its n ∧ its.size ≤ sizeLine ∧ Vals xs its.toList
noncomputable def SqT (K : PySem.W.Frag) (H : Hp) (a : Addr) (xs : List V) : Prop :=
  Rd H a (.tup xs) ∨
    ∃ (o : Obj) (its : Array Value) (n : Nat), K.lookup a = some o ∧ o.cls = .type "tuple" ∧ o.data = .seq its n ∧ its.size ≤ sizeLine ∧ Vals xs its.toList
noncomputable def absV : Value → Option V
  | .none => some .non
  | .bool b => some (.bl b)
  | .int i _ => some (.int i)
  | .str x _ => some (.str x)
  | .bytes b _ => some (.byt b)
  | .float b _ => some (.flt b)
  | .ref a => some (.ref a)
  | .type n => some (.ty n)
  | _ => none
theorem RelV.abs {x : V} {u : Value} (r : RelV x u) : absV u = some x := by
  cases x with
  | non => cases r; rfl
  | bl _ => cases r; rfl
  | int _ => obtain ⟨t, rfl⟩ := r; rfl
  | str _ => obtain ⟨t, rfl⟩ := r; rfl
  | byt _ => obtain ⟨t, rfl⟩ := r; rfl
  | flt _ => obtain ⟨t, rfl⟩ := r; rfl
  | ref _ => cases r; rfl
  | ty _ => cases r; rfl
theorem RelV.inj {x y : V} {u : Value} (r : RelV x u) (q : RelV y u) : x = y := Option.some.inj (r.abs.symm.trans q.abs)
theorem Vals.inj : ∀ {xs ys : List V} {us : List Value}, Vals xs us → Vals ys us → xs = ys
  | _, _, _, .nil, .nil => rfl
  | _, _, _, .cons r t, .cons r' t' => by rw [r.inj r', Vals.inj t t']
section
variable {X : Cx} {pins : List (Addr × Obj)} {σ : St} {H : Hp} {s : Shared} {a : Addr} {xs ys : List V}
theorem SqL.of {K : PySem.W.Frag} (h : H a = some (.lst xs)) : SqL K H a xs := .inl (.inl h)
theorem SqT.of {K : PySem.W.Frag} (h : H a = some (.tup xs)) : SqT K H a xs := .inl (.inl h)
theorem Inv.list (I : Inv X pins σ H s) (h : SqL X.K H a xs) : ∃ its : List Value, Vals xs its ∧ PlainL s.heap a its.toArray ∧ xs.length ≤ sizeLine := by
  rcases h with h | ⟨o, its, n, hk, hc, hd, hs, hz, r⟩
  · obtain ⟨z, its, n, r, e⟩ := h.ok I.hok
    exact ⟨its, r, ⟨_, n, e, rfl, rfl, rfl⟩, z⟩
  · refine ⟨its.toList, r, ⟨o, n, I.kIn a o hk, hc, hd, by simpa using hs⟩, ?_⟩
    have e := r.length
    simp only [Array.length_toList] at e
    omega
theorem Inv.tuple (I : Inv X pins σ H s) (h : SqT X.K H a xs) : ∃ its : List Value, Vals xs its ∧ IsTup s.heap a its.toArray ∧ xs.length ≤ sizeLine := by
  rcases h with h | ⟨o, its, n, hk, hc, hs, hz, r⟩
  · obtain ⟨z, its, r, p⟩ := h.ok I.hok
    exact ⟨its, r, p.tup, z⟩
  · refine ⟨its.toList, r, ⟨o, I.kIn a o hk, hc, n, by simpa using hs⟩, ?_⟩
    have e := r.length
    simp only [Array.length_toList] at e
    omega
theorem Inv.list_inj (I : Inv X pins σ H s) (h : SqL X.K H a xs) (h' : SqL X.K H a ys) : xs = ys := by
  obtain ⟨its, r, ⟨o, n, e, _, _, d⟩, _⟩ := I.list h
  obtain ⟨its', r', ⟨o', n', e', _, _, d'⟩, _⟩ := I.list h'
  rw [e] at e'; cases e'
  rw [d] at d'
  injection d' with d1 _
  have : its = its' := by simpa using congrArg Array.toList d1
  subst this
  exact r.inj r'
theorem Inv.tuple_inj (I : Inv X pins σ H s) (h : SqT X.K H a xs) (h' : SqT X.K H a ys) : xs = ys := by
  obtain ⟨its, r, ⟨o, e, _, n, d⟩, _⟩ := I.tuple h
  obtain ⟨its', r', ⟨o', e', _, n', d'⟩, _⟩ := I.tuple h'
  rw [e] at e'; cases e'
  rw [d] at d'
  injection d' with d1 _
  have : its = its' := by simpa using congrArg Array.toList d1
  subst this
  exact r.inj r'
end


noncomputable abbrev Cx.wish (X : Cx) (E : Value → Shared → Prop) : Cx := { X with xe := E }

noncomputable abbrev Cx.nox (X : Cx) : Cx := X.wish fun _ _ => False
theorem Cx.Ok.wish {X : Cx} (ok : X.Ok) (E : Value → Shared → Prop) : (X.wish E).Ok :=
  ⟨ok.mod, ok.kind, ok.glob, ok.blt, ok.above, ok.inj, ok.has, ok.cab, ok.hd, ok.frames, ok.stk, ok.exf, ok.bs, ok.bsz, ok.noex, ok.exfs, ok.funs, ok.frf⟩
theorem Cx.Ok.unwish {X : Cx} {E : Value → Shared → Prop} (ok : (X.wish E).Ok) : X.Ok :=
  ⟨ok.mod, ok.kind, ok.glob, ok.blt, ok.above, ok.inj, ok.has, ok.cab, ok.hd, ok.frames, ok.stk, ok.exf, ok.bs, ok.bsz, ok.noex, ok.exfs, ok.funs, ok.frf⟩
section
variable {X : Cx} {pins : List (Addr × Obj)} {σ : St} {H : Hp} {s : Shared} {E : Value → Shared → Prop}
theorem Inv.wish (I : Inv X pins σ H s) (E : Value → Shared → Prop) : Inv (X.wish E) pins σ H s := ⟨I.ok.wish E, I.os, I.bare, I.base, I.loc, I.cell, I.free, I.freeC, I.pin, I.hok, I.len⟩
theorem Inv.unwish (I : Inv (X.wish E) pins σ H s) : Inv X pins σ H s := ⟨I.ok.unwish, I.os, I.bare, I.base, I.loc, I.cell, I.free, I.freeC, I.pin, I.hok, I.len⟩
theorem SP.unwish {D : Ends} {f : Flow} {s' : Shared} (h : SP (X.wish E) pins D f s') : SP X pins D f s' := by
  cases f with
  | next => obtain ⟨σ', H', I, q⟩ := h; exact ⟨σ', H', I.unwish, q⟩
  | brk => obtain ⟨σ', H', I, q⟩ := h; exact ⟨σ', H', I.unwish, q⟩
  | cont => obtain ⟨σ', H', I, q⟩ := h; exact ⟨σ', H', I.unwish, q⟩
  | ret u => obtain ⟨v, σ', H', I, r, q⟩ := h; exact ⟨v, σ', H', I.unwish, r, q⟩
theorem PSs.nox {st : List Stmt} {t : TS} (h : PSs X.nox st t) : PSs X st t := fun pins s σ H D I hw =>
  wpAny_mono (h pins s σ H D (I.wish _) hw) (fun _ _ q => q.unwish) fun _ _ z => False.elim z
end


section
variable {X : Cx} {st : Stmt} {rest : List Stmt} {t u : TS} {e : Expr} {te : TE} {pos : Pos}
noncomputable def tNext : TS := fun D σ H => D.nx σ H
noncomputable def tSeq (t u : TS) : TS := fun D σ H => t { D with nx := u D } σ H
theorem pss_nil : PSs X [] tNext := fun _ _ σ H _ I h => wpAny_execs_nil ⟨σ, H, I, h⟩
theorem pss_cons (h1 : PS X st t) (h2 : PSs X rest u) : PSs X (st :: rest) (tSeq t u) := by
  intro pins s σ H D I h
  refine wpAny_execs_cons (thn (h1 pins s σ H { D with nx := u D } I h) fun f s1 q => ?_)
  cases f with
  | next =>
    obtain ⟨σ', H', I', q⟩ := q
    exact h2 pins s1 σ' H' D I' q
  | ret v => exact q
  | brk => exact q
  | cont => exact q
theorem pss_one (h1 : PS X st t) : PSs X [st] t := by
  intro pins s σ H D I h
  refine wpAny_execs_cons (thn (h1 pins s σ H D I h) fun f s1 q => ?_)
  cases f with
  | next => exact wpAny_execs_nil q
  | ret v => exact q
  | brk => exact q
  | cont => exact q

theorem Inv.quiet {pins : List (Addr × Obj)} {σ : St} {H : Hp} {s : Shared} (I : Inv X pins σ H s) : interactive X.env = false := by simp [interactive, I.ok.kind]

noncomputable def tDrop (te : TE) : TS := fun D σ H => te σ H fun _ H1 => D.nx σ H1
theorem ps_expr (he : PE X e te) (hs : swapsWith e none pos.line X.env = pure false := by rfl) : PS X (.Expr e pos) (tDrop te) := by
  intro pins s σ H D I h
  exact wpAny_Expr_any (thnE (he pins s σ H _ I h) fun v s1 x H1 I1 r1 q1 => ⟨σ, H1, I1, q1⟩) I.quiet hs
noncomputable def tRet (te : TE) : TS := fun D σ H => te σ H D.rt
theorem ps_ret (he : PE X e te) : PS X (.Return (some e) pos) (tRet te) := by
  intro pins s σ H D I h
  exact wpAny_Return_some (thnE (he pins s σ H _ I h) fun v s1 x H1 I1 r1 q1 => ⟨x, σ, H1, I1, r1, q1⟩)
noncomputable def tIfS (c : TT) (t u : TS) : TS := fun D σ H => c σ H fun b H1 => if b = true then t D σ H1 else u D σ H1
theorem ps_if {c : Expr} {a b : List Stmt} {tc : TT} (hc : PT X c tc) (ha : PSs X a t) (hb : PSs X b u) : PS X (.If c a b pos) (tIfS tc t u) := by
  intro pins s σ H D I h
  refine wpAny_If (thn (hc pins s σ H _ I h) fun d s1 ⟨H1, I1, q1⟩ => ?_)
  cases d with
  | true => exact ha pins s1 σ H1 D I1 q1
  | false => exact hb pins s1 σ H1 D I1 q1

noncomputable def tNever : TS := fun _ _ _ => False
theorem ps_never : PS X st tNever := fun _ _ _ _ _ _ h => h.elim
end


noncomputable abbrev TG := V → St → Hp → (St → Hp → Prop) → Prop
noncomputable abbrev TGs := List V → St → Hp → (St → Hp → Prop) → Prop
noncomputable def PG (X : Cx) (target : Expr) (t : TG) : Prop :=
  ∀ (pins : List (Addr × Obj)) (s : Shared) (σ : St) (H : Hp) (v : V) (u : Value) (Q : St → Hp → Prop), Inv X pins σ H s → RelV v u → t v σ H Q →
    wpAny (model X.prog X.w) X.A (assign target X.env u) (fun _ s' => ∃ σ' H', Inv X pins σ' H' s' ∧ Q σ' H') X.xe s

noncomputable def PGs (X : Cx) (ts : List Expr) (t : TGs) : Prop :=
  ∀ (pins : List (Addr × Obj)) (s : Shared) (σ : St) (H : Hp) (vs : List V) (us : List Value) (Q : St → Hp → Prop), Inv X pins σ H s → Vals vs us → t vs σ H Q →
    wpAny (model X.prog X.w) X.A (assignInOrder ((assignEach ts X.env).map (·.2)) us) (fun _ s' => ∃ σ' H', Inv X pins σ' H' s' ∧ Q σ' H') X.xe s

noncomputable abbrev TSet := V → V → V → Hp → (Hp → Prop) → Prop
noncomputable def PSet (X : Cx) (t : TSet) : Prop :=
  ∀ (pins : List (Addr × Obj)) (s : Shared) (σ : St) (H : Hp) (o i v : V) (ov iv u : Value) (Q : Hp → Prop), Inv X pins σ H s → RelV o ov → RelV i iv → RelV v u → t o i v H Q →
    wpAny (model X.prog X.w) X.A (setItem ov iv u) (fun _ s' => ∃ H', Inv X pins σ H' s' ∧ Q H') X.xe s

section
variable {X : Cx} {pos : Pos}
noncomputable def gName (i : Nat) : TG := fun v σ H Q => Q (σ.set i (some v)) H
theorem pg_name {i : Nat} {x : Str} (hN : X.N.Nodup) (hi : X.N[i]? = some x) (hx : Loc X.env.scope x) (hf : X.fn x = true ∨ X.env.scope.names.lookup x = some .local := by first | exact .inl rfl | exact .inr rfl | assumption) : PG X (.Name x pos) (gName i) := by
  intro pins s σ H v u Q I r h
  exact wpAny_assign_Name (store_ok I hN hi hx r (fun s' I' => ⟨_, H, I', h⟩) hf)
noncomputable def gNil : TGs := fun vs σ H Q => vs = [] ∧ Q σ H
noncomputable def gCons (t : TG) (u : TGs) : TGs := fun vs σ H Q => ∃ v r, vs = v :: r ∧ t v σ H fun σ' H' => u r σ' H' Q
theorem pgs_nil : PGs X [] gNil := by
  intro pins s σ H vs us Q I r h
  obtain ⟨e, h⟩ := h
  subst e
  cases r
  exact assignInOrder_nil ⟨σ, H, I, h⟩
theorem pgs_cons {e : Expr} {es : List Expr} {t : TG} {u : TGs} (h1 : PG X e t) (h2 : PGs X es u)
    (hs : (assignEach (e :: es) X.env).map (·.2) = assign e X.env :: (assignEach es X.env).map (·.2) := by rfl) : PGs X (e :: es) (gCons t u) := by
  intro pins s σ H vs us Q I r h
  obtain ⟨v, vr, e1, h⟩ := h
  subst e1
  cases r with
  | cons r rr =>
    rw [hs]
    refine assignInOrder_cons (thn (h1 pins s σ H _ _ _ I r h) fun _ s1 ⟨σ1, H1, I1, q1⟩ => ?_)
    exact h2 pins s1 σ1 H1 _ _ Q I1 rr q1

noncomputable def gTup (K : PySem.W.Frag) (n : Nat) (t : TGs) : TG := fun v σ H Q => ∃ a xs, v = .ref a ∧ SqT K H a xs ∧ xs.length = n ∧ t xs σ H Q
theorem pg_tup {es : List Expr} {k : Nat} {t : TGs} {n : Nat} (hc : X.calm = true) (h : PGs X es t)
    (hn : (assignEach es X.env).length = n := by rfl) (hst : (assignEach es X.env).findIdx? (·.1) = none := by rfl) : PG X (.Tuple es k pos) (gTup X.K n t) := by
  intro pins s σ H v u Q I r hw
  obtain ⟨a, xs, e1, hq, hl, hw⟩ := hw
  subst e1
  cases r
  obtain ⟨its, rv, ht, hz⟩ := I.tuple hq
  refine assign_Tuple_tuple (I.ok.hd hc) ht (by simp [hn, ← hl, rv.length]) hst fun h' hx => ?_
  have I1 : Inv X pins σ H { s with heap := h' } := I.kept (t' := s.toks) fun b o e => hx b o (Nat.ne_of_lt (Heap.lt_size e)) e
  exact h pins _ σ H xs _ Q I1 (by simpa using rv) hw

noncomputable def gSub (to ti : TE) (t : TSet) : TG := fun v σ H Q => to σ H fun o H1 => ti σ H1 fun i H2 => t o i v H2 fun H3 => Q σ H3
theorem pg_sub {o i : Expr} {to ti : TE} {t : TSet} (ho : PE X o to) (hi : PE X i ti) (hs : PSet X t)
    (ha : ∀ v, assign (.Subscript o i pos) X.env v = (do
      let ov ← holding [v] (eval o X.env)
      let iv ← holding [v, ov] (eval i X.env)
      standAt pos
      holding [v, ov, iv] (setItem ov iv v)
      release [v, ov, iv] []) := by intro _; rfl) : PG X (.Subscript o i pos) (gSub to ti t) := by
  intro pins s σ H v u Q I r h
  rw [ha]
  refine wpAny_bind (wpAny_holding (thnE (ho pins s σ H _ I h) fun ov s1 x H1 I1 r1 q1 => ?_))
  refine wpAny_bind (wpAny_holding (thnE (hi pins s1 σ H1 _ I1 q1) fun iv s2 y H2 I2 r2 q2 => ?_))
  refine wpAny_bind (wpAny_standAt (wpAny_bind (wpAny_holding (thn (hs pins s2 σ H2 x y v ov iv u _ I2 r1 r2 r q2) fun _ s3 ⟨H3, I3, q3⟩ => ?_))))
  exact wpAny_release ⟨σ, H3, I3, q3⟩

noncomputable def tAsg (te : TE) (g : TG) : TS := fun D σ H => te σ H fun x H1 => g x σ H1 D.nx
theorem ps_asg {tg e : Expr} {te : TE} {g : TG} (he : PE X e te) (hg : PG X tg g) (hs : swapsWithSole [tg] e pos.line X.env = pure false := by rfl) (hw : swappedStores [tg] e X.env = pure none := by rfl)
    (h1 : (assignEach [tg] X.env).map (·.2) = [assign tg X.env] := by rfl) : PS X (.Assign [tg] e pos) (tAsg te g) := by
  intro pins s σ H D I h
  refine wpAny_Assign_stores (thnE (he pins s σ H _ I h) fun v s1 x H1 I1 r1 q1 => ?_) hs hw
  rw [h1]
  exact thn (hg pins s1 σ H1 x v _ I1 r1 q1) fun _ s2 q => q

theorem ps_set {i : Nat} {x : Str} {e : Expr} {te : TE} {pos' : Pos} (hN : X.N.Nodup) (hi : X.N[i]? = some x) (hx : Loc X.env.scope x) (he : PE X e te) (hs : swapsWith e (some (.Name x pos')) pos.line X.env = pure false := by rfl) (hf : X.fn x = true ∨ X.env.scope.names.lookup x = some .local := by first | exact .inl rfl | exact .inr rfl | assumption) :
    PS X (.Assign [.Name x pos'] e pos) (tAsg te (gName i)) := by
  intro pins s σ H D I h
  refine wpAny_Assign_Name (thnE (he pins s σ H _ I h) fun v s1 y H1 I1 r1 q1 => ?_) hs
  exact store_ok I1 hN hi hx r1 (fun s2 I2 => ⟨_, H1, I2, q1⟩) hf





end


section
variable {X : Cx} {pos : Pos}

noncomputable def tWhile (c : TT) (tb : TS) : TS := fun D σ H => ∃ W : Nat → St → Hp → Prop, (∃ m, W m σ H) ∧ ∀ m σ H, W m σ H →
  c σ H fun b H1 => if b = true then ∃ N : St → Hp → Prop, (∀ σ' H', N σ' H' → ∃ m', m' < m ∧ W m' σ' H') ∧ tb { D with nx := N, ct := N, bk := D.nx } σ H1 else D.nx σ H1
theorem ps_while {c : Expr} {body : List Stmt} {tc : TT} {tb : TS} (hp : PassesOwn (model X.prog X.w) X.A X.env X.xe) (hc : PT X c tc) (hb : PSs X body tb) : PS X (.While c body [] pos) (tWhile tc tb) := by
  intro pins s σ H D I h
  obtain ⟨W, ⟨m0, w0⟩, turn⟩ := h
  refine wpAny_While (codeAny_whileLoop (fun n s' => ∃ σ' H', Inv X pins σ' H' s' ∧ W n σ' H') ?_ m0 ⟨σ, H, I, w0⟩)
  rintro n s1 ⟨σ1, H1, I1, w1⟩
  refine wpAny_passesOwn hp (thn (hc pins s1 σ1 H1 _ I1 (turn n σ1 H1 w1)) fun b s2 ⟨H2, I2, q2⟩ => ?_)
  cases b with
  | true =>
    obtain ⟨N, hN, q2⟩ := q2
    rw [if_pos rfl]
    refine wpAny_passesOwn hp (thn (hb pins s2 σ1 H2 _ I2 q2) fun f s3 q3 => ?_)
    cases f with
    | next =>
      obtain ⟨σ3, H3, I3, n3⟩ := q3
      obtain ⟨m', hm, w3⟩ := hN σ3 H3 n3
      exact ⟨m', hm, σ3, H3, I3, w3⟩
    | cont =>
      obtain ⟨σ3, H3, I3, n3⟩ := q3
      obtain ⟨m', hm, w3⟩ := hN σ3 H3 n3
      exact ⟨m', hm, σ3, H3, I3, w3⟩
    | brk => exact q3
    | ret v => exact q3
  | false =>
    rw [if_neg Bool.false_ne_true]
    exact wpAny_execs_nil ⟨σ1, H2, I2, q2⟩
end



structure It where
  go : Nat → Hp → Prop
  yld : Nat → Hp → V → Hp → Prop
  stop : Nat → Hp → Prop

noncomputable def FpOk (X : Cx) (pins : List (Addr × Obj)) (H : Hp) (b : Addr) : Prop :=
  H b = none ∧ b ≠ X.env.locals ∧ b ∉ X.fs ∧ (b ∈ X.ex ∨ X.s₀.heap.objs.size ≤ b) ∧ (∀ x c, X.env.cells.lookup x = some c → c ≠ b) ∧ ∀ p ∈ X.pn ++ pins, p.1 ≠ b
theorem Inv.fpOk {X : Cx} {pins : List (Addr × Obj)} {σ : St} {H H' : Hp} {s : Shared} {b : Addr} (I : Inv X pins σ H s) (hb : s.heap.objs.size ≤ b) (hn : H' b = none) : FpOk X pins H' b := by
  refine ⟨hn, Nat.ne_of_gt (Nat.lt_of_lt_of_le I.lt hb), I.nofs hb, .inr (Nat.le_trans I.sz hb), fun x c e z => ?_, fun p hp z => ?_⟩
  · obtain ⟨v, q⟩ := I.cell x c e
    exact absurd (Nat.lt_of_lt_of_le q.lt (by rw [z]; exact hb)) (Nat.lt_irrefl _)
  · exact absurd (Nat.lt_of_lt_of_le (Heap.lt_size (I.pin p hp).1) (by rw [z]; exact hb)) (Nat.lt_irrefl _)
structure Turn (P : Program) (w : World) (K : PySem.W.Frag) (tg : Expr) (J : It) (fp : List Addr) (it : Addr) (tn : Nat → Heap → Prop) : Prop where
  mem : it ∈ fp
  obj : ∀ i h, tn i h → ∀ b ∈ fp, ∃ o, h.get? b = some o ∧ ∀ v, o.data ≠ .cell v
  keep : ∀ i h h', tn i h → (∀ b ∈ fp, ∀ o, h.get? b = some o → h'.get? b = some o) → tn i h'
  item : ∀ (X : Cx), X.prog = P → X.w = w → X.K = K → X.calm = true → ∀ (i : Nat) (pins : List (Addr × Obj)) (s : Shared) (σ : St) (H : Hp) (E : Value → Shared → Prop), Inv X pins σ H s → (∀ b ∈ fp, FpOk X pins H b) → tn i s.heap → J.go i H →
    wpAny (model P w) X.A (pyNext (.ref it)) (fun r s1 => ∃ u, r = some u ∧
      wpAny (model P w) X.A (letOwnedTupleGo tg (.ref it) u) (fun _ s2 => ∃ x H', Inv X pins σ H' s2 ∧ RelV x u ∧ J.yld i H x H' ∧ tn (i + 1) s2.heap ∧ ∀ b ∈ fp, H' b = none) E s1) E s
  done : ∀ (X : Cx), X.prog = P → X.w = w → X.K = K → X.calm = true → ∀ (i : Nat) (pins : List (Addr × Obj)) (s : Shared) (σ : St) (H : Hp) (E : Value → Shared → Prop), Inv X pins σ H s → (∀ b ∈ fp, FpOk X pins H b) → tn i s.heap → J.stop i H →
    wpAny (model P w) X.A (pyNext (.ref it)) (fun r s1 => r = none ∧ Inv X pins σ H s1) E s
  self : ∀ (A : Around) (i : Nat) (s : Shared) (Q : Value → Shared → Prop) (E : Value → Shared → Prop), tn i s.heap → Q (.ref it) s → wpAny (model P w) A (pyIter (.ref it)) Q E s
noncomputable abbrev TI := St → Hp → (It → Hp → Prop) → Prop

noncomputable def PIE (X : Cx) (pins : List (Addr × Obj)) (σ : St) (tg : Expr) (R : It → Hp → Prop) (itv : Value) (s2 : Shared) : Prop :=
  ∃ (it : Addr) (fp : List Addr) (tn : Nat → Heap → Prop) (J : It) (H' : Hp), itv = .ref it ∧ Inv X pins σ H' s2 ∧ Turn X.prog X.w X.K tg J fp it tn ∧ tn 0 s2.heap ∧ (∀ b ∈ fp, FpOk X pins H' b) ∧ R J H'
noncomputable def PI (X : Cx) (tg iter : Expr) (wi : TI) : Prop :=
  ∀ (pins : List (Addr × Obj)) (s : Shared) (σ : St) (H : Hp) (R : It → Hp → Prop), Inv X pins σ H s → wi σ H R →
    wpAny (model X.prog X.w) X.A (eval iter X.env) (fun v s1 => wpAny (model X.prog X.w) X.A (pyIter v) (PIE X pins σ tg R) X.xe s1) X.xe s


theorem go_of {M : Model} {A : Around} {E : Value → Shared → Prop} {s : Shared} {tg : Expr} {it : Addr} {u : Value} {o : Obj} {n : String} {vs : Array Value} {Q : Unit → Shared → Prop} (ho : s.heap.get? it = some o) (hc : o.cls = .type n) (hd : o.data = .fields vs)
    (hn : ["enumerate", "zip", "dict_itemiterator", "dict_reverseitemiterator", "odict_iterator", "itertools.zip_longest", "itertools.pairwise"].contains n = false) (hQ : Q () s) : wpAny M A (letOwnedTupleGo tg (.ref it) u) Q E s := by
  unfold letOwnedTupleGo
  cases tg <;> first
    | exact wpAny_pure hQ
    | (cases u <;> first
        | exact wpAny_pure hQ
        | (refine wpAny_bind (wpAny_load ho ?_)
           rw [hc, hd]
           show wpAny M A (if (["enumerate", "zip", "dict_itemiterator", "dict_reverseitemiterator", "odict_iterator", "itertools.zip_longest", "itertools.pairwise"].contains n && vs[0]? == some (rawInt _)) = true then _ else _) Q E s
           rw [if_neg (by intro h; rw [hn, Bool.false_and] at h; cases h)]
           exact wpAny_pure hQ))


noncomputable def Itl (K : PySem.W.Frag) (a : Addr) : It :=
  ⟨fun i H => ∃ xs x, SqL K H a xs ∧ xs[i]? = some x, fun i H x H' => H' = H ∧ ∀ xs, SqL K H a xs → xs[i]? = some x, fun i H => ∃ xs, SqL K H a xs ∧ xs.length ≤ i⟩
noncomputable def Itt (K : PySem.W.Frag) (a : Addr) : It :=
  ⟨fun i H => ∃ xs x, SqT K H a xs ∧ xs[i]? = some x, fun i H x H' => H' = H ∧ ∀ xs, SqT K H a xs → xs[i]? = some x, fun i H => ∃ xs, SqT K H a xs ∧ xs.length ≤ i⟩

noncomputable def Itr (lo : Int) (n : Nat) : It := ⟨fun i _ => i < n, fun i H x H' => H' = H ∧ x = .int (lo + i), fun i _ => n ≤ i⟩
theorem turn_list {P : Program} {w : World} {K : PySem.W.Frag} {tg : Expr} (a it : Addr) : Turn P w K tg (Itl K a) [it] it (fun i h => h.IsListIter it a i) where
  mem := by simp
  obj := fun i h st b hb => by
    have e : b = it := by simpa using hb
    subst e
    obtain ⟨o, e, c, d⟩ := st
    exact ⟨o, e, fun v z => by rw [d] at z; cases z⟩
  keep := fun i h h' st k => st.at fun o e => k it (by simp) o e
  item := by
    intro X hP hw hK hc i pins s σ H E I hf st hg
    subst hP hw hK
    obtain ⟨xs, x, hq, hx⟩ := hg
    obtain ⟨its, rv, p, hz⟩ := I.list hq
    obtain ⟨u, hu, ru⟩ := rv.get hx
    obtain ⟨f0, f1, f2, f3, f4, f5⟩ := hf it (by simp)
    refine wpAny_pyNext_list_item st p.isList (x := u) (by simpa using hu) fun h' st' sb => ?_
    have I1 : Inv X pins σ H { s with heap := h' } := I.turned (t' := s.toks) (fun b o hb e => (sb.2 b hb).trans e) f0 f1 f3 f4 f5
    obtain ⟨o, e, c, d⟩ := id st'
    exact ⟨u, rfl, go_of (s := { s with heap := h' }) e c d (by decide) ⟨x, H, I1, ru, ⟨rfl, fun ys hy => by rw [I.list_inj hy hq]; exact hx⟩, st', fun b hb => (hf b hb).1⟩⟩
  done := by
    intro X hP hw hK hc i pins s σ H E I hf st hg
    subst hP hw hK
    obtain ⟨xs, hq, hx⟩ := hg
    obtain ⟨its, rv, p, hz⟩ := I.list hq
    obtain ⟨f0, f1, f2, f3, f4, f5⟩ := hf it (by simp)
    have hl := rv.length
    exact wpAny_pyNext_list_end (I.ok.hd hc) st p.isList (by simp; omega) fun h' eb => ⟨rfl, I.turned (t' := s.toks) (fun b o hb e => eb b o hb e) f0 f1 f3 f4 f5⟩
  self := fun _ _ _ _ _ st h => wpAny_pyIter_listiter st h
theorem turn_tuple {P : Program} {w : World} {K : PySem.W.Frag} {tg : Expr} (a it : Addr) : Turn P w K tg (Itt K a) [it] it (fun i h => h.IsTupleIter it a i) where
  mem := by simp
  obj := fun i h st b hb => by
    have e : b = it := by simpa using hb
    subst e
    obtain ⟨o, e, c, d⟩ := st
    exact ⟨o, e, fun v z => by rw [d] at z; cases z⟩
  keep := fun i h h' st k => st.at fun o e => k it (by simp) o e
  item := by
    intro X hP hw hK hc i pins s σ H E I hf st hg
    subst hP hw hK
    obtain ⟨xs, x, hq, hx⟩ := hg
    obtain ⟨its, rv, p, hz⟩ := I.tuple hq
    obtain ⟨u, hu, ru⟩ := rv.get hx
    obtain ⟨f0, f1, f2, f3, f4, f5⟩ := hf it (by simp)
    refine wpAny_pyNext_tuple_item st (show s.heap.IsTuple a its.toArray from p) (x := u) (by simpa using hu) fun h' st' sb => ?_
    have I1 : Inv X pins σ H { s with heap := h' } := I.turned (t' := s.toks) (fun b o hb e => (sb.2 b hb).trans e) f0 f1 f3 f4 f5
    obtain ⟨o, e, c, d⟩ := id st'
    exact ⟨u, rfl, go_of (s := { s with heap := h' }) e c d (by decide) ⟨x, H, I1, ru, ⟨rfl, fun ys hy => by rw [I.tuple_inj hy hq]; exact hx⟩, st', fun b hb => (hf b hb).1⟩⟩
  done := by
    intro X hP hw hK hc i pins s σ H E I hf st hg
    subst hP hw hK
    obtain ⟨xs, hq, hx⟩ := hg
    obtain ⟨its, rv, p, hz⟩ := I.tuple hq
    obtain ⟨f0, f1, f2, f3, f4, f5⟩ := hf it (by simp)
    have hl := rv.length
    exact wpAny_pyNext_tuple_end (I.ok.hd hc) st (show s.heap.IsTuple a its.toArray from p) (by simp; omega) fun h' eb => ⟨rfl, I.turned (t' := s.toks) (fun b o hb e => eb b o hb e) f0 f1 f3 f4 f5⟩
  self := fun _ _ _ _ _ st h => wpAny_pyIter_tupleiter st h
theorem turn_range {P : Program} {w : World} {K : PySem.W.Frag} {tg : Expr} (it : Addr) (lo : Int) (n : Nat) : Turn P w K tg (Itr lo n) [it] it (fun i h => IsRangeIter h it (lo + (i : Nat) * 1) ((n : Int) - (i : Nat)) 1) where
  mem := by simp
  obj := fun i h st b hb => by
    have e : b = it := by simpa using hb
    subst e
    exact ⟨_, st, fun v z => by
      have z' : Data.fields _ = Data.cell v := z
      cases z'⟩
  keep := fun i h h' st k => k it (by simp) _ st
  item := by
    intro X hP hw hK hc i pins s σ H E I hf st hg
    subst hP hw hK
    obtain ⟨f0, f1, f2, f3, f4, f5⟩ := hf it (by simp)
    have W := Walks.range (prog := X.prog) (w := X.w) (I.ok.hd hc) it lo 1 n
    refine W.item i s _ _ hg st fun v h' tk hv st' kk => ?_
    obtain ⟨t, rfl⟩ := hv
    have I1 : Inv X pins σ H { s with heap := h', toks := tk } := I.turned (fun b o hb e => kk b o (by simpa using hb) e) f0 f1 f3 f4 f5
    refine ⟨_, rfl, go_of (s := { s with heap := h', toks := tk }) (n := "range_iterator") st' rfl rfl (by decide) ⟨.int (lo + i), H, I1, ⟨t, ?_⟩, ⟨rfl, rfl⟩, st', fun b hb => (hf b hb).1⟩⟩
    rw [Int.mul_one]
  done := by
    intro X hP hw hK hc i pins s σ H E I hf st hg
    subst hP hw hK
    obtain ⟨f0, f1, f2, f3, f4, f5⟩ := hf it (by simp)
    exact wpAny_pyNext_range_end (I.ok.hd hc) st (by have : n ≤ i := hg; omega) fun h' eb => ⟨rfl, I.turned (t' := s.toks) (fun b o hb e => eb b o hb e) f0 f1 f3 f4 f5⟩
  self := fun _ _ _ _ _ st h => wpAny_pyIter_rangeiter st h
end L2

namespace L2
open PySem PySem.Spec PyProof.Rows
section
variable {X : Cx} {tg : Expr}
noncomputable def iList (K : PySem.W.Frag) (tl : TE) : TI := fun σ H R => tl σ H fun x H1 => ∃ a, x = .ref a ∧ (∃ xs, SqL K H1 a xs) ∧ R (Itl K a) H1
noncomputable def iTup (K : PySem.W.Frag) (tl : TE) : TI := fun σ H R => tl σ H fun x H1 => ∃ a, x = .ref a ∧ (∃ xs, SqT K H1 a xs) ∧ R (Itt K a) H1
theorem pi_list {l : Expr} {tl : TE} (hl : PE X l tl) : PI X tg l (iList X.K tl) := by
  intro pins s σ H R I h
  refine thnE (hl pins s σ H _ I h) fun v s1 x H1 I1 r1 q1 => ?_
  obtain ⟨a, e, ⟨xs, hq⟩, q⟩ := q1
  subst e
  cases r1
  obtain ⟨its, rv, p, hz⟩ := I1.list hq
  refine wpAny_pyIter_list p.isList ?_
  refine ⟨s1.heap.objs.size, [s1.heap.objs.size], _, _, H1, rfl, I1.kept (t' := s1.toks) fun b o e => Heap.get?_push_of_some _ e, turn_list a _, ⟨_, Heap.get?_push_size _ rfl, rfl, rfl⟩, fun b hb => ?_, q⟩
  have e : b = s1.heap.objs.size := by simpa using hb
  subst e
  exact I1.fpOk (Nat.le_refl _) (I1.hok.fresh (Nat.le_refl _))
theorem pi_tup {l : Expr} {tl : TE} (hl : PE X l tl) : PI X tg l (iTup X.K tl) := by
  intro pins s σ H R I h
  refine thnE (hl pins s σ H _ I h) fun v s1 x H1 I1 r1 q1 => ?_
  obtain ⟨a, e, ⟨xs, hq⟩, q⟩ := q1
  subst e
  cases r1
  obtain ⟨its, rv, p, hz⟩ := I1.tuple hq
  refine wpAny_pyIter_tuple (show s1.heap.IsTuple a its.toArray from p) ?_
  refine ⟨s1.heap.objs.size, [s1.heap.objs.size], _, _, H1, rfl, I1.kept (t' := s1.toks) fun b o e => Heap.get?_push_of_some _ e, turn_tuple a _, ⟨_, Heap.get?_push_size _ rfl, rfl, rfl⟩, fun b hb => ?_, q⟩
  have e : b = s1.heap.objs.size := by simpa using hb
  subst e
  exact I1.fpOk (Nat.le_refl _) (I1.hok.fresh (Nat.le_refl _))

theorem range_it {pins : List (Addr × Obj)} {σ : St} {H : Hp} {s : Shared} {R : It → Hp → Prop} {E : Value → Shared → Prop} {lo hi : Int} {t u v : Tok} {tk : Nat} (I : Inv X pins σ H s) (h1 : -(2 ^ 62) ≤ lo) (h2 : lo < 2 ^ 62) (h3 : -(2 ^ 62) ≤ hi) (h4 : hi < 2 ^ 62)
    (q : R (Itr lo (hi - lo).toNat) H) : wpAny (model X.prog X.w) X.A (pyIter (.ref s.heap.objs.size)) (PIE X pins σ tg R) E { s with heap := s.heap.push { cls := .type "range", data := .fields #[.int lo t, .int hi u, .int 1 v] }, toks := tk } := by
  refine wpAny_pyIter_range (IsRange.new ..) (small_one h1 h2 h3 h4) ?_
  have I1 : Inv X pins σ H { s with heap := s.heap.push { cls := .type "range", data := .fields #[.int lo t, .int hi u, .int 1 v] }, toks := tk } := I.kept fun b o e => Heap.get?_push_of_some _ e
  refine ⟨(s.heap.push { cls := .type "range", data := .fields #[.int lo t, .int hi u, .int 1 v] }).objs.size, [(s.heap.push { cls := .type "range", data := .fields #[.int lo t, .int hi u, .int 1 v] }).objs.size], _, _, H, rfl,
    I1.kept (t' := tk) fun b o e => Heap.get?_push_of_some _ e, turn_range _ lo (hi - lo).toNat, ?_, fun b hb => ?_, q⟩
  · have e1 : lo + ((0 : Nat) : Int) * 1 = lo := by simp
    have e2 : (((hi - lo).toNat : Nat) : Int) - ((0 : Nat) : Int) = Builtin.Range.rangeSize lo hi 1 := by rw [rangeSize_one]; split <;> omega
    show IsRangeIter _ _ (lo + ((0 : Nat) : Int) * 1) ((((hi - lo).toNat : Nat) : Int) - ((0 : Nat) : Int)) 1
    rw [e1, e2]
    exact Heap.get?_push_size _ rfl
  · have e : b = (s.heap.push { cls := .type "range", data := .fields #[.int lo t, .int hi u, .int 1 v] }).objs.size := by simpa using hb
    subst e
    exact I1.fpOk (Nat.le_refl _) (I1.hok.fresh (Nat.le_refl _))
noncomputable def iRng1 (ta : TA) : TI := fun σ H R => ta σ H fun vs H1 => ∃ j : Int, vs = [.int j] ∧ -(2 ^ 62) ≤ j ∧ j < 2 ^ 62 ∧ R (Itr 0 j.toNat) H1
noncomputable def iRng2 (ta : TA) : TI := fun σ H R => ta σ H fun vs H1 => ∃ i j : Int, vs = [.int i, .int j] ∧ (-(2 ^ 62) ≤ i ∧ i < 2 ^ 62 ∧ -(2 ^ 62) ≤ j ∧ j < 2 ^ 62) ∧ R (Itr i (j - i).toNat) H1
theorem pi_range1 {a : Expr} {ta : TA} {p pos : Pos} (hg : Gl X "range") (hm : X.mg "range" = none) (ha : PA X [a] ta) (hs : starEach [a] X.env = [(false, eval a X.env)] := by rfl) : PI X tg (.Call (.Name "range" p) [a] [] pos) (iRng1 ta) := by
  intro pins s σ H R I h
  refine Call_ (ld_blt I hg hm boot_range (PyProof.Rows.callWith_type1 (thnA (ha pos pins s σ H _ I h) fun us s1 vs H1 I1 r1 q1 => ?_) hs rfl))
  obtain ⟨j, e, q1, q2, q⟩ := q1
  subst e
  cases r1 with
  | cons r rr =>
    cases rr
    obtain ⟨t, rfl⟩ := r
    exact call_range_1 (range_it I1 (by omega) (by omega) q1 q2 (by simpa using q))
theorem pi_range2 {a b : Expr} {ta : TA} {p pos : Pos} (hg : Gl X "range") (hm : X.mg "range" = none) (ha : PA X [a, b] ta) (hs : starEach [a, b] X.env = [(false, eval a X.env), (false, eval b X.env)] := by rfl) (hs2 : starEach [b] X.env = [(false, eval b X.env)] := by rfl) :
    PI X tg (.Call (.Name "range" p) [a, b] [] pos) (iRng2 ta) := by
  intro pins s σ H R I h
  refine Call_ (ld_blt I hg hm boot_range (PyProof.Rows.callWith_type1 (thnA (ha pos pins s σ H _ I h) fun us s1 vs H1 I1 r1 q1 => ?_) (by rw [hs, hs2]) (by rw [hs2]; rfl)))
  obtain ⟨i, j, e, ⟨q1, q2, q3, q4⟩, q⟩ := q1
  subst e
  cases r1 with
  | cons r rr =>
    cases rr with
    | cons r' rr =>
      cases rr
      obtain ⟨t, rfl⟩ := r
      obtain ⟨t', rfl⟩ := r'
      exact call_range_2 (range_it I1 q1 q2 q3 q4 q)



noncomputable def tFor (wi : TI) (g : TG) (tb : TS) : TS := fun D σ H => wi σ H fun J H1 => ∃ W : Nat → Nat → St → Hp → Prop, (∃ m, W 0 m σ H1) ∧ ∀ i m σ H, W i m σ H →
  (J.stop i H ∧ D.nx σ H) ∨ (J.go i H ∧ ∃ N : St → Hp → Prop, (∀ σ' H', N σ' H' → ∃ m', m' < m ∧ W (i + 1) m' σ' H') ∧ ∀ x H', J.yld i H x H' → g x σ H' fun σ2 H2 => tb { D with nx := N, ct := N, bk := D.nx } σ2 H2)

noncomputable def pinsAt (fp : List Addr) (h : Heap) : List (Addr × Obj) := fp.filterMap fun b => (h.get? b).map fun o => (b, o)
theorem mem_pinsAt {fp : List Addr} {h : Heap} {b : Addr} {o : Obj} (hb : b ∈ fp) (e : h.get? b = some o) : (b, o) ∈ pinsAt fp h := List.mem_filterMap.mpr ⟨b, hb, by rw [e]; rfl⟩
theorem of_pinsAt {fp : List Addr} {h : Heap} {p : Addr × Obj} (hp : p ∈ pinsAt fp h) : p.1 ∈ fp ∧ h.get? p.1 = some p.2 := by
  obtain ⟨b, hb, e⟩ := List.mem_filterMap.mp hp
  cases q : h.get? b with
  | none => rw [q] at e; cases e
  | some o =>
    rw [q] at e
    have e' : (b, o) = p := Option.some.inj e
    subst e'
    exact ⟨hb, q⟩
theorem Inv.pinned {pins : List (Addr × Obj)} {σ : St} {H : Hp} {s : Shared} {fp : List Addr} (I : Inv X pins σ H s) (hf : ∀ b ∈ fp, FpOk X pins H b) (ho : ∀ b ∈ fp, ∃ o, s.heap.get? b = some o ∧ ∀ v, o.data ≠ .cell v) : Inv X (pins ++ pinsAt fp s.heap) σ H s :=
  I.pins_of fun p hp => (List.mem_append.mp hp).elim (fun z => I.pin p (List.mem_append_right _ z)) fun z => by
    obtain ⟨hb, e⟩ := of_pinsAt z
    obtain ⟨f0, f1, f2, _⟩ := hf p.1 hb
    obtain ⟨o, e', d⟩ := ho p.1 hb
    rw [e] at e'; cases e'
    exact ⟨e, f0, f1, f2, d⟩
theorem Inv.unpinned {pins pl : List (Addr × Obj)} {σ : St} {H : Hp} {s : Shared} (I : Inv X (pins ++ pl) σ H s) : Inv X pins σ H s := I.pins_of fun p hp => I.pin p (List.mem_append_right _ (List.mem_append_left _ hp))
theorem ps_for {iter : Expr} {body : List Stmt} {wi : TI} {g : TG} {tb : TS} {pos : Pos} (hp : PassesOwn (model X.prog X.w) X.A X.env X.xe) (hc : X.calm = true) (hi : PI X tg iter wi) (hg : PG X tg g) (hb : PSs X body tb)
    (hs : ∀ x, foldedSetIterable iter X.env x = pure x := by intro _; rfl) : PS X (.For tg iter body [] pos) (tFor wi g tb) := by
  intro pins s σ H D I h
  refine wpAny_For (thn (hi pins s σ H _ I h) fun v s1 h1 => thn h1 fun itv s2 h2 => ?_) hs
  obtain ⟨it, fp, tn, J, H2, e, I2, T, st2, f2, W, ⟨m0, w0⟩, turn⟩ := h2
  subst e
  -- what stays true of the iterator's objects through the loop
  have stat : ∀ {H' : Hp}, (∀ b ∈ fp, H' b = none) → ∀ b ∈ fp, FpOk X pins H' b := fun hn b hb => ⟨hn b hb, (f2 b hb).2⟩
  refine codeAny_forLoop_any (fun n s' => ∃ i σ' H', Inv X pins σ' H' s' ∧ tn i s'.heap ∧ (∀ b ∈ fp, H' b = none) ∧ W i n σ' H') ?_ m0 ⟨0, σ, H2, I2, st2, fun b hb => (f2 b hb).1, w0⟩
  rintro n s3 ⟨i, σ3, H3, I3, st3, fr3, w3⟩
  rcases turn i n σ3 H3 w3 with ⟨stop, qn⟩ | ⟨go, N, hN, step⟩
  · refine wpAny_passesOwn hp (thn (T.done X rfl rfl rfl hc i pins s3 σ3 H3 X.xe I3 (stat fr3) st3 stop) fun r s4 ⟨hr, I4⟩ => ?_)
    subst hr
    exact wpAny_execs_nil ⟨σ3, H3, I4, qn⟩
  · refine wpAny_passesOwn hp (thn (T.item X rfl rfl rfl hc i pins s3 σ3 H3 X.xe I3 (stat fr3) st3 go) fun r s4 ⟨u, hr, h4⟩ => ?_)
    subst hr
    refine wpAny_passesOwn hp (thn h4 fun _ s5 ⟨x, H5, I5, r5, y5, st5, fr5⟩ => ?_)
    have I5' := I5.pinned (stat fr5) (T.obj _ _ st5)
    refine wpAny_passesOwn hp (thn (hg _ s5 σ3 H5 x u _ I5' r5 (step x H5 y5)) fun _ s6 ⟨σ6, H6, I6, q6⟩ => ?_)
    refine wpAny_passesOwn hp (thn (hb _ s6 σ6 H6 _ I6 q6) fun f s7 q7 => ?_)
    have again : ∀ {σ7 : St} {H7 : Hp}, Inv X (pins ++ pinsAt fp s5.heap) σ7 H7 s7 → N σ7 H7 → ∃ m, m < n ∧ ∃ i σ' H', Inv X pins σ' H' s7 ∧ tn i s7.heap ∧ (∀ b ∈ fp, H' b = none) ∧ W i m σ' H' := fun {σ7 H7} I7 n7 => by
      obtain ⟨m', hm, w7⟩ := hN σ7 H7 n7
      refine ⟨m', hm, i + 1, σ7, H7, I7.unpinned, T.keep _ _ _ st5 fun b hb o e => (I7.pin (b, o) (List.mem_append_right _ (List.mem_append_right _ (mem_pinsAt hb e)))).1, fun b hb => ?_, w7⟩
      obtain ⟨o, e, d⟩ := T.obj _ _ st5 b hb
      exact (I7.pin (b, o) (List.mem_append_right _ (List.mem_append_right _ (mem_pinsAt hb e)))).2.1
    cases f with
    | next => obtain ⟨σ7, H7, I7, n7⟩ := q7; exact again I7 n7
    | cont => obtain ⟨σ7, H7, I7, n7⟩ := q7; exact again I7 n7
    | brk => obtain ⟨σ7, H7, I7, q7⟩ := q7; exact ⟨σ7, H7, I7.unpinned, q7⟩
    | ret v => obtain ⟨x7, σ7, H7, I7, r7, q7⟩ := q7; exact ⟨x7, σ7, H7, I7.unpinned, r7, q7⟩
end



theorem for_list {K : PySem.W.Frag} {a : Addr} {xs : List V} {g : TG} {tb : TS} {D : Ends} {σ : St} {H : Hp} (Pv : Nat → St → Hp → Prop) (h0 : Pv 0 σ H) (hl : ∀ i σ H, i ≤ xs.length → Pv i σ H → SqL K H a xs)
    (hs : ∀ i x σ H, xs[i]? = some x → Pv i σ H → g x σ H fun σ2 H2 => tb { D with nx := Pv (i + 1), ct := Pv (i + 1), bk := D.nx } σ2 H2) (hd : ∀ σ H, Pv xs.length σ H → D.nx σ H) :
    ∃ W : Nat → Nat → St → Hp → Prop, (∃ m, W 0 m σ H) ∧ ∀ i m σ H, W i m σ H →
      ((Itl K a).stop i H ∧ D.nx σ H) ∨ ((Itl K a).go i H ∧ ∃ N : St → Hp → Prop, (∀ σ' H', N σ' H' → ∃ m', m' < m ∧ W (i + 1) m' σ' H') ∧ ∀ x H', (Itl K a).yld i H x H' → g x σ H' fun σ2 H2 => tb { D with nx := N, ct := N, bk := D.nx } σ2 H2) := by
  refine ⟨fun i m σ H => m = xs.length - i ∧ i ≤ xs.length ∧ Pv i σ H, ⟨xs.length, by simp, Nat.zero_le _, h0⟩, ?_⟩
  rintro i m σ H ⟨rfl, hi, p⟩
  have q := hl i σ H hi p
  by_cases hlt : i < xs.length
  · refine .inr ⟨⟨xs, xs[i], q, by simp [hlt]⟩, Pv (i + 1), fun σ' H' p' => ⟨xs.length - (i + 1), by omega, rfl, hlt, p'⟩, fun x H' y => ?_⟩
    obtain ⟨e, y⟩ := y
    subst e
    exact hs i x σ _ (y xs q) p
  · have e : i = xs.length := by omega
    subst e
    exact .inl ⟨⟨xs, q, Nat.le_refl _⟩, hd σ H p⟩
theorem for_tup {K : PySem.W.Frag} {a : Addr} {xs : List V} {g : TG} {tb : TS} {D : Ends} {σ : St} {H : Hp} (Pv : Nat → St → Hp → Prop) (h0 : Pv 0 σ H) (hl : ∀ i σ H, i ≤ xs.length → Pv i σ H → SqT K H a xs)
    (hs : ∀ i x σ H, xs[i]? = some x → Pv i σ H → g x σ H fun σ2 H2 => tb { D with nx := Pv (i + 1), ct := Pv (i + 1), bk := D.nx } σ2 H2) (hd : ∀ σ H, Pv xs.length σ H → D.nx σ H) :
    ∃ W : Nat → Nat → St → Hp → Prop, (∃ m, W 0 m σ H) ∧ ∀ i m σ H, W i m σ H →
      ((Itt K a).stop i H ∧ D.nx σ H) ∨ ((Itt K a).go i H ∧ ∃ N : St → Hp → Prop, (∀ σ' H', N σ' H' → ∃ m', m' < m ∧ W (i + 1) m' σ' H') ∧ ∀ x H', (Itt K a).yld i H x H' → g x σ H' fun σ2 H2 => tb { D with nx := N, ct := N, bk := D.nx } σ2 H2) := by
  refine ⟨fun i m σ H => m = xs.length - i ∧ i ≤ xs.length ∧ Pv i σ H, ⟨xs.length, by simp, Nat.zero_le _, h0⟩, ?_⟩
  rintro i m σ H ⟨rfl, hi, p⟩
  have q := hl i σ H hi p
  by_cases hlt : i < xs.length
  · refine .inr ⟨⟨xs, xs[i], q, by simp [hlt]⟩, Pv (i + 1), fun σ' H' p' => ⟨xs.length - (i + 1), by omega, rfl, hlt, p'⟩, fun x H' y => ?_⟩
    obtain ⟨e, y⟩ := y
    subst e
    exact hs i x σ _ (y xs q) p
  · have e : i = xs.length := by omega
    subst e
    exact .inl ⟨⟨xs, q, Nat.le_refl _⟩, hd σ H p⟩
theorem for_range {lo : Int} {n : Nat} {g : TG} {tb : TS} {D : Ends} {σ : St} {H : Hp} (Pv : Nat → St → Hp → Prop) (h0 : Pv 0 σ H)
    (hs : ∀ i σ H, i < n → Pv i σ H → g (.int (lo + i)) σ H fun σ2 H2 => tb { D with nx := Pv (i + 1), ct := Pv (i + 1), bk := D.nx } σ2 H2) (hd : ∀ σ H, Pv n σ H → D.nx σ H) :
    ∃ W : Nat → Nat → St → Hp → Prop, (∃ m, W 0 m σ H) ∧ ∀ i m σ H, W i m σ H →
      ((Itr lo n).stop i H ∧ D.nx σ H) ∨ ((Itr lo n).go i H ∧ ∃ N : St → Hp → Prop, (∀ σ' H', N σ' H' → ∃ m', m' < m ∧ W (i + 1) m' σ' H') ∧ ∀ x H', (Itr lo n).yld i H x H' → g x σ H' fun σ2 H2 => tb { D with nx := N, ct := N, bk := D.nx } σ2 H2) := by
  refine ⟨fun i m σ H => m = n - i ∧ i ≤ n ∧ Pv i σ H, ⟨n, by simp, Nat.zero_le _, h0⟩, ?_⟩
  rintro i m σ H ⟨rfl, hi, p⟩
  by_cases hlt : i < n
  · refine .inr ⟨hlt, Pv (i + 1), fun σ' H' p' => ⟨n - (i + 1), by omega, rfl, hlt, p'⟩, fun x H' y => ?_⟩
    obtain ⟨e, y⟩ := y
    subst e y
    exact hs i σ _ hlt p
  · have e : i = n := by omega
    subst e
    exact .inl ⟨Nat.le_refl _, hd σ H p⟩
end L2

namespace L2
open PySem PySem.Spec PyProof.Rows

noncomputable abbrev R2 := V → V → Hp → VK → Prop

noncomputable def OpR (X : Cx) (f : Value → Value → Sem Value) (r : R2) : Prop :=
  ∀ (pins : List (Addr × Obj)) (s : Shared) (σ : St) (H : Hp) (x y : V) (v u : Value) (Q : VK), Inv X pins σ H s → RelV x v → RelV y u → r x y H Q →
    wpAny (model X.prog X.w) X.A (f v u) (EP X pins σ Q) X.xe s


noncomputable def CallR (X : Cx) (f : Value) (r : List V → Hp → VK → Prop) : Prop :=
  ∀ (pins : List (Addr × Obj)) (s : Shared) (σ : St) (H : Hp) (xs : List V) (us : List Value) (Q : VK), Inv X pins σ H s → Vals xs us → r xs H Q →
    wpAny (model X.prog X.w) X.A (call f us) (EP X pins σ Q) X.xe s


noncomputable def tOp (r : R2) (ta tb : TE) : TE := fun σ H Q => ta σ H fun x H1 => tb σ H1 fun y H2 => r x y H2 Q

noncomputable def rI (C : Int → Int → Prop) (g : Int → Int → V) : R2 := fun x y H Q => ∃ i j, x = .int i ∧ y = .int j ∧ C i j ∧ Q (g i j) H
noncomputable def rI0 (g : Int → Int → V) : R2 := fun x y H Q => ∃ i j, x = .int i ∧ y = .int j ∧ Q (g i j) H

section
variable {X : Cx} {a b c : Expr} {ta tb tc : TE} {pos : Pos}

theorem binT (ha : PE X a ta) (hb : PE X b tb) {pins : List (Addr × Obj)} {s : Shared} {σ : St} {H : Hp} {R : V → V → Hp → Prop} (I : Inv X pins σ H s)
    (h : ta σ H fun x H1 => tb σ H1 fun y H2 => R x y H2) {Q : Value → Shared → Prop} {f : Value → Value → Sem Value}
    (hf : ∀ v u s2 x y H2, Inv X pins σ H2 s2 → RelV x v → RelV y u → R x y H2 → wpAny (model X.prog X.w) X.A (f v u) Q X.xe s2) :
    wpAny (model X.prog X.w) X.A (eval a X.env) (fun v s₁ => wpAny (model X.prog X.w) X.A (eval b X.env) (fun u s₂ => wpAny (model X.prog X.w) X.A (f v u) Q X.xe s₂) X.xe s₁) X.xe s := by
  refine thnE (ha pins s σ H _ I h) fun v s1 x H1 I1 r1 q1 => ?_
  refine thnE (hb pins s1 σ H1 _ I1 q1) fun u s2 y H2 I2 r2 q2 => ?_
  exact hf v u s2 x y H2 I2 r1 r2 q2

theorem pe_op {op : Operator} {r : R2} (ho : OpR X (binaryOp op) r) (ha : PE X a ta) (hb : PE X b tb) : PE X (.BinOp a op b pos) (tOp r ta tb) := by
  intro pins s σ H Q I h
  exact wpAny_BinOp (binT ha hb I h fun v u s2 x y H2 I2 rx ry q => ho pins s2 σ H2 x y v u Q I2 rx ry q)


theorem opI {f : Value → Value → Sem Value} {C : Int → Int → Prop} {g : Int → Int → Int}
    (rule : ∀ (i j : Int) (t u : Tok) (s : Shared) (Q : Value → Shared → Prop) (E : Value → Shared → Prop), C i j → Q (.int (g i j) s.toks) { s with toks := s.toks + 1 } → wpAny (model X.prog X.w) X.A (f (.int i t) (.int j u)) Q E s) :
    OpR X f (rI C fun i j => .int (g i j)) := by
  intro pins s σ H x y v u Q I rx ry h
  obtain ⟨i, j, rfl, rfl, hc, q⟩ := h
  obtain ⟨t, rfl⟩ := rx
  obtain ⟨t', rfl⟩ := ry
  exact rule i j t t' s _ _ hc ⟨.int (g i j), H, I.tok _, ⟨_, rfl⟩, q⟩
theorem opI0 {f : Value → Value → Sem Value} {g : Int → Int → Int}
    (rule : ∀ (i j : Int) (t u : Tok) (s : Shared) (Q : Value → Shared → Prop) (E : Value → Shared → Prop), Q (.int (g i j) s.toks) { s with toks := s.toks + 1 } → wpAny (model X.prog X.w) X.A (f (.int i t) (.int j u)) Q E s) :
    OpR X f (rI0 fun i j => .int (g i j)) := by
  intro pins s σ H x y v u Q I rx ry h
  obtain ⟨i, j, rfl, rfl, q⟩ := h
  obtain ⟨t, rfl⟩ := rx
  obtain ⟨t', rfl⟩ := ry
  exact rule i j t t' s _ _ ⟨.int (g i j), H, I.tok _, ⟨_, rfl⟩, q⟩
theorem opB0 {f : Value → Value → Sem Value} {g : Int → Int → Bool}
    (rule : ∀ (i j : Int) (t u : Tok) (s : Shared) (Q : Value → Shared → Prop) (E : Value → Shared → Prop), Q (.bool (g i j)) s → wpAny (model X.prog X.w) X.A (f (.int i t) (.int j u)) Q E s) :
    OpR X f (rI0 fun i j => .bl (g i j)) := by
  intro pins s σ H x y v u Q I rx ry h
  obtain ⟨i, j, rfl, rfl, q⟩ := h
  obtain ⟨t, rfl⟩ := rx
  obtain ⟨t', rfl⟩ := ry
  exact rule i j t t' s _ _ ⟨.bl (g i j), H, I, rfl, q⟩

noncomputable def CDiv (i j : Int) : Prop := 0 < j ∧ j < 1073741824
noncomputable def CMul (i j : Int) : Prop := (-(2 ^ 64) < i ∧ i < 2 ^ 64) ∨ (-(2 ^ 64) < j ∧ j < 2 ^ 64)
theorem CMul.ok {i j : Int} (h : CMul i j) : IntMulOk i j := by
  rcases h with ⟨h1, h2⟩ | ⟨h1, h2⟩
  · exact .of_left (intBits_le_64 h1 h2)
  · exact .of_right (intBits_le_64 h1 h2)

theorem op_add : OpR X (binaryOp .Add) (rI0 fun i j => .int (i + j)) := opI0 fun _ _ _ _ _ _ _ q => add_int q
theorem op_sub : OpR X (binaryOp .Sub) (rI0 fun i j => .int (i - j)) := opI0 fun _ _ _ _ _ _ _ q => sub_int q
theorem op_mul : OpR X (binaryOp .Mult) (rI CMul fun i j => .int (i * j)) := opI fun _ _ _ _ _ _ _ hc q => mul_int q hc.ok

theorem op_fdiv : OpR X (binaryOp .FloorDiv) (rI CDiv fun i j => .int (i / j)) := opI fun i j _ _ _ _ _ hc q => by
  have h1 : (0 : Int) < j := hc.1
  have h2 : j < 1073741824 := hc.2
  exact floordiv_int (by omega) (by rw [Int.fdiv_eq_ediv_of_nonneg i (by omega)]; exact q) (.inl (PyProof.noPylong_small (by omega)))

theorem op_mod : OpR X (binaryOp .Mod) (rI (fun _ j => 0 < j) fun i j => .int (i % j)) := opI fun i j _ _ _ _ _ hc q => by
  have h1 : (0 : Int) < j := hc
  exact mod_int' (by omega) (by rw [Int.fmod_eq_emod_of_nonneg i (by omega)]; exact q)




end



noncomputable def scal : V → V → Bool
  | .non, .non => true | .non, .int _ => true | .int _, .non => true | .non, .bl _ => true | .bl _, .non => true | .non, .str _ => true | .str _, .non => true
  | .int _, .int _ => true | .bl _, .bl _ => true | .str _, .str _ => true | .byt _, .byt _ => true
  | .int _, .str _ => true | .str _, .int _ => true | .bl _, .str _ => true | .str _, .bl _ => true
  | _, _ => false
noncomputable def rEq : R2 := fun x y H Q => scal x y = true ∧ Q (.bl (decide (x = y))) H
noncomputable def rNe : R2 := fun x y H Q => scal x y = true ∧ Q (.bl (!decide (x = y))) H

theorem dec_int {i j : Int} : decide (V.int i = V.int j) = (i == j) := by
  rw [Bool.eq_iff_iff]
  simp
theorem dec_bl {i j : Bool} : decide (V.bl i = V.bl j) = (i == j) := by
  rw [Bool.eq_iff_iff]
  simp
theorem dec_str {i j : Str} : decide (V.str i = V.str j) = (i == j) := by
  rw [Bool.eq_iff_iff]
  simp
theorem dec_byt {i j : Array UInt8} : decide (V.byt i = V.byt j) = (i.toList == j.toList) := by
  rw [Bool.eq_iff_iff]
  cases i
  cases j
  simp

section
variable {X : Cx} {a b c : Expr} {ta tb tc : TE} {pos : Pos}
theorem fin_bl {pins : List (Addr × Obj)} {σ : St} {H : Hp} {s : Shared} {Q : VK} {k k' : Bool} (I : Inv X pins σ H s) (q : Q (.bl k) H) (e : k = k') : EP X pins σ Q (.bool k') s := by
  subst e
  exact ⟨.bl k, H, I, rfl, q⟩
theorem op_eq : OpR X (compareOp .Eq) rEq := by
  intro pins s σ H x y v u Q I rx ry h
  obtain ⟨hs, q⟩ := h
  cases x with
  | non =>
    cases rx
    cases y with
    | non => cases ry; exact PySem.EqNone.eq_none_none (fin_bl I q (by simp))
    | bl j => cases ry; exact PySem.EqNone.eq_none_bool (fin_bl I q (by simp))
    | int j => obtain ⟨t', rfl⟩ := ry; exact PySem.EqNone.eq_none_int (fin_bl I q (by simp))
    | str j => obtain ⟨t', rfl⟩ := ry; exact PySem.EqNone.eq_none_str (fin_bl I q (by simp))
    | _ => exact absurd (show false = true from hs) Bool.false_ne_true
  | bl i =>
    cases rx
    cases y with
    | non => cases ry; exact PySem.EqNone.eq_bool_none (fin_bl I q (by simp))
    | bl j => cases ry; exact eq_bool (fin_bl I q dec_bl)
    | str j => obtain ⟨t', rfl⟩ := ry; exact PySem.EqMixed.eq_bool_str (fin_bl I q (by simp))
    | _ => exact absurd (show false = true from hs) Bool.false_ne_true
  | int i =>
    obtain ⟨t, rfl⟩ := rx
    cases y with
    | non => cases ry; exact PySem.EqNone.eq_int_none (fin_bl I q (by simp))
    | int j => obtain ⟨t', rfl⟩ := ry; exact eq_int (fin_bl I q dec_int)
    | str j => obtain ⟨t', rfl⟩ := ry; exact PySem.EqMixed.eq_int_str (fin_bl I q (by simp))
    | _ => exact absurd (show false = true from hs) Bool.false_ne_true
  | str i =>
    obtain ⟨t, rfl⟩ := rx
    cases y with
    | non => cases ry; exact PySem.EqNone.eq_str_none (fin_bl I q (by simp))
    | bl j => cases ry; exact PySem.EqMixed.eq_str_bool (fin_bl I q (by simp))
    | int j => obtain ⟨t', rfl⟩ := ry; exact PySem.EqMixed.eq_str_int (fin_bl I q (by simp))
    | str j => obtain ⟨t', rfl⟩ := ry; exact eq_str (fin_bl I q dec_str)
    | _ => exact absurd (show false = true from hs) Bool.false_ne_true
  | byt i =>
    obtain ⟨t, rfl⟩ := rx
    cases y with
    | byt j => obtain ⟨t', rfl⟩ := ry; exact PySem.W.eq_bytes (fin_bl I q dec_byt)
    | _ => exact absurd (show false = true from hs) Bool.false_ne_true
  | _ => cases y <;> exact absurd (show false = true from hs) Bool.false_ne_true
theorem op_ne : OpR X (compareOp .NotEq) rNe := by
  intro pins s σ H x y v u Q I rx ry h
  obtain ⟨hs, q⟩ := h
  cases x with
  | non =>
    cases rx
    cases y with
    | non => cases ry; exact PySem.EqNone.ne_none_none (fin_bl I q (by simp))
    | bl j => cases ry; exact PySem.EqNone.ne_none_bool (fin_bl I q (by simp))
    | int j => obtain ⟨t', rfl⟩ := ry; exact PySem.EqNone.ne_none_int (fin_bl I q (by simp))
    | str j => obtain ⟨t', rfl⟩ := ry; exact PySem.EqNone.ne_none_str (fin_bl I q (by simp))
    | _ => exact absurd (show false = true from hs) Bool.false_ne_true
  | bl i =>
    cases rx
    cases y with
    | non => cases ry; exact PySem.EqNone.ne_bool_none (fin_bl I q (by simp))
    | bl j => cases ry; exact ne_bool (fin_bl I q (congrArg not dec_bl))
    | str j => obtain ⟨t', rfl⟩ := ry; exact PySem.EqMixed.ne_bool_str (fin_bl I q (by simp))
    | _ => exact absurd (show false = true from hs) Bool.false_ne_true
  | int i =>
    obtain ⟨t, rfl⟩ := rx
    cases y with
    | non => cases ry; exact PySem.EqNone.ne_int_none (fin_bl I q (by simp))
    | int j => obtain ⟨t', rfl⟩ := ry; exact ne_int (fin_bl I q (congrArg not dec_int))
    | str j => obtain ⟨t', rfl⟩ := ry; exact PySem.EqMixed.ne_int_str (fin_bl I q (by simp))
    | _ => exact absurd (show false = true from hs) Bool.false_ne_true
  | str i =>
    obtain ⟨t, rfl⟩ := rx
    cases y with
    | non => cases ry; exact PySem.EqNone.ne_str_none (fin_bl I q (by simp))
    | bl j => cases ry; exact PySem.EqMixed.ne_str_bool (fin_bl I q (by simp))
    | int j => obtain ⟨t', rfl⟩ := ry; exact PySem.EqMixed.ne_str_int (fin_bl I q (by simp))
    | str j => obtain ⟨t', rfl⟩ := ry; exact ne_str (fin_bl I q (congrArg not dec_str))
    | _ => exact absurd (show false = true from hs) Bool.false_ne_true
  | byt i =>
    obtain ⟨t, rfl⟩ := rx
    cases y with
    | byt j => obtain ⟨t', rfl⟩ := ry; exact PySem.W.ne_bytes (fin_bl I q (congrArg not dec_byt))
    | _ => exact absurd (show false = true from hs) Bool.false_ne_true
  | _ => cases y <;> exact absurd (show false = true from hs) Bool.false_ne_true

theorem op_lt : OpR X (compareOp .Lt) (rI0 fun i j => .bl (decide (i < j))) := opB0 fun _ _ _ _ _ _ _ q => lt_int q
theorem op_le : OpR X (compareOp .LtE) (rI0 fun i j => .bl (decide (i ≤ j))) := opB0 fun _ _ _ _ _ _ _ q => le_int q
theorem op_gt : OpR X (compareOp .Gt) (rI0 fun i j => .bl (decide (j < i))) := opB0 fun _ _ _ _ _ _ _ q => gt_int q

theorem op_notN : OpR X (compareOp .IsNot) (fun x y H Q => y = .non ∧ Q (.bl (!decide (x = .non))) H) := by
  intro pins s σ H x y v u Q I rx ry h
  obtain ⟨rfl, q⟩ := h
  cases ry
  refine isnot_none_gen (fin_bl I q ?_)
  cases x <;> first
    | (cases rx; rfl)
    | (obtain ⟨t, rfl⟩ := rx; rfl)




theorem nomark (b : Expr) {op : CmpOp} (h : op ≠ .In := by decide) (h2 : op ≠ .NotIn := by decide) : behindInMarks op b = false := by
  have e1 : (op == CmpOp.In) = false := by cases op <;> first | rfl | exact absurd rfl h
  have e2 : (op == CmpOp.NotIn) = false := by cases op <;> first | rfl | exact absurd rfl h2
  cases b <;> simp [behindInMarks, e1, e2]

theorem pe_cmpR {op : CmpOp} {r : R2} (ho : OpR X (compareOp op) r) (ha : PE X a ta) (hb : PE X b tb) (hm : behindInMarks op b = false) : PE X (.Compare a [op] [b] pos) (tOp r ta tb) := by
  intro pins s σ H Q I h
  exact wpAny_Compare1 (binT ha hb I h fun v u s2 x y H2 I2 rx ry q => ho pins s2 σ H2 x y v u Q I2 rx ry q) hm

noncomputable def tTest (t : TE) : TT := fun σ H Q => t σ H fun x H' => ∃ k, x = .bl k ∧ Q k H'
theorem pt_cmpR {op : CmpOp} {r : R2} (ho : OpR X (compareOp op) r) (ha : PE X a ta) (hb : PE X b tb) (hm : behindInMarks op b = false) : PT X (.Compare a [op] [b] pos) (tTest (tOp r ta tb)) := by
  intro pins s σ H Q I h
  refine wpAny_isTrue_Compare1 (thnE (ha pins s σ H _ I h) fun v s1 x H1 I1 r1 q1 => thn (hb pins s1 σ H1 _ I1 q1) fun u s2 ⟨y, H2, I2, r2, q2⟩ =>
    thnE (ho pins s2 σ H2 x y v u _ I2 r1 r2 q2) fun c s3 z H3 I3 r3 zz0 => ?_) hm
  obtain ⟨k, e, q3⟩ := zz0
  subst e
  cases r3
  exact wpAny_truthy_bool ⟨H3, I3, q3⟩

noncomputable def tChain (r r' : R2) (ta tb tc : TE) : TE := fun σ H Q => ta σ H fun x H1 => tb σ H1 fun y H2 => r x y H2 fun z H3 => ∃ k, z = .bl k ∧
  (if k = true then tc σ H3 fun w' H4 => r' y w' H4 Q else Q (.bl false) H3)
theorem pe_chain {op op' : CmpOp} {r r' : R2} (ho : OpR X (compareOp op) r) (ho' : OpR X (compareOp op') r') (ha : PE X a ta) (hb : PE X b tb) (hc : PE X c tc)
    (hm : lastMarks [op, op'] [b, c] = false := by with_unfolding_all rfl) : PE X (.Compare a [op, op'] [b, c] pos) (tChain r r' ta tb tc) := by
  intro pins s σ H Q I h
  refine Compare_chain (thnE (ha pins s σ H _ I h) fun v s1 x H1 I1 r1 q1 => chain_link (thn (hb pins s1 σ H1 _ I1 q1) fun u s2 ⟨y, H2, I2, r2, q2⟩ =>
    thnE (ho pins s2 σ H2 x y v u _ I2 r1 r2 q2) fun d s3 z H3 I3 r3 zz1 => ?_)) hm
  obtain ⟨k, e, q3⟩ := zz1
  subst e
  cases r3
  refine wpAny_truthy_bool ?_
  cases k with
  | false => exact ite_ff ⟨.bl false, H3, I3, rfl, q3⟩
  | true => exact ite_tt (chain_last (thn (hc pins s3 σ H3 _ I3 q3) fun w' s4 ⟨z', H4, I4, r4, q4⟩ => ho' pins s4 σ H4 y z' u w' Q I4 r2 r4 q4))



theorem line63 : (sizeLine : Nat) < 2 ^ 63 := by rw [sizeLine_eq]; decide





theorem vals1 {x : V} {us : List Value} (r : Vals [x] us) : ∃ u, us = [u] ∧ RelV x u := by
  cases r with
  | cons r1 r2 => cases r2; exact ⟨_, rfl, r1⟩
theorem vals2 {x y : V} {us : List Value} (r : Vals [x, y] us) : ∃ u w', us = [u, w'] ∧ RelV x u ∧ RelV y w' := by
  cases r with
  | cons r1 r2 =>
    cases r2 with
    | cons r3 r4 => cases r4; exact ⟨_, _, rfl, r1, r3⟩
theorem call_max2 (hc : X.calm = true) : CallR X (.builtin "max") (fun xs H Q => ∃ i j, xs = [.int i, .int j] ∧ Q (.int (if j > i then j else i)) H) := by
  intro pins s σ H xs us Q I r h
  obtain ⟨i, j, rfl, q⟩ := h
  obtain ⟨u, w', rfl, ⟨t, rfl⟩, ⟨t', rfl⟩⟩ := vals2 r
  refine max_two_ints (I.ok.hd hc) fun h' tk k => ⟨_, H, I.kept k, ?_, q⟩
  by_cases hj : j > i
  · rw [if_pos hj, if_pos hj]; exact ⟨_, rfl⟩
  · rw [if_neg hj, if_neg hj]; exact ⟨_, rfl⟩

end
end L2

namespace L2
open PySem PySem.Spec PyProof.Rows


structure ObjM (h : Heap) (x dx C : Addr) (mA : Str → Option Value) : Prop where
  obj : h.get? x = some (PySem.W.instObj C dx)
  ns : h.Ns1 dx mA
  ne : dx ≠ x

theorem lookIn_ns {h : Heap} {dx : Addr} {mA : Str → Option Value} (n : h.Ns1 dx mA) : ∃ od, h.get? dx = some od ∧ ∀ name, PySem.W.lookIn name od = some (mA name) := by
  obtain ⟨o, es, ep, ho, hd, hk, _, hm⟩ := n
  refine ⟨o, ho, fun name => ?_⟩
  have e := hm name
  unfold nsFind findBy at e
  rw [← Array.find?_toList] at e
  unfold PySem.W.lookIn
  rw [hd]
  dsimp only
  split
  · rename_i y q
    rw [q] at e
    exact congrArg some e
  · rename_i q
    rw [q] at e
    have a : es.toList.any (·.refKey) = false := by
      rw [List.any_eq_false]
      intro y hy
      obtain ⟨z, t, hkey⟩ := hk y (Array.mem_toList_iff.mp hy)
      simp [DictEntry.refKey, hkey]
    have a' : ¬ es.toList.any (·.refKey) = true := by rw [a]; exact Bool.false_ne_true
    rw [if_neg a']
    exact congrArg some e

theorem ObjM.look {h : Heap} {x dx C : Addr} {mA : Str → Option Value} (I : ObjM h x dx C mA) : ∃ od, PySem.W.InstAt h x (PySem.W.instObj C dx) C (some od) ∧ ∀ name, PySem.W.lookIn name od = some (mA name) :=
  let ⟨od, ho, hl⟩ := lookIn_ns I.ns
  ⟨od, ⟨I.obj, rfl, rfl, ho⟩, hl⟩

section
variable {prog : Program} {w : World} {A : Around} {E : Value → Shared → Prop} {s : Shared} {K : PySem.W.Frag} {x dx C f : Addr} {mA : Str → Option Value} {name : Str} {v : Value}





end



theorem RelO.some_of {v : V} {o : Option Value} (r : RelO (some v) o) : ∃ u, o = some u ∧ RelV v u := by
  cases o with
  | none => exact (show False from r).elim
  | some u => exact ⟨u, rfl, r⟩

section
variable {P : Program} {w : World} {H H' : Hp} {h h' : Heap} {a C dx : Addr} {fs fs' : List (Str × V)}
theorem ins_get (hok : HOk P w H h) (e : H a = some (.ins C dx fs)) : ∃ mA, ObjM h a dx C mA ∧ (∀ f, RelO (fs.lookup f) (mA f)) ∧ PySem.Within mA (fs.map (·.1)) ∧ fs.length ≤ 1000 ∧ H dx = some (.own a) := by
  obtain ⟨d, z, ne, ob, mA, n, r, q⟩ := (show ObjOk P w H h a (.ins C dx fs) from hok a _ e)
  exact ⟨mA, ⟨ob, n, ne⟩, r, q, z, d⟩
end


structure Cls (K : PySem.W.Frag) (C : Addr) : Prop where
  pg : PySem.W.plainGet K C Str.empty = true
  hd : PySem.W.hasDictIn K C = true
  po : PySem.W.plainOver K C = true
  sa : PySem.W.findIn K (.ref C) "__setattr__" = some (some (.builtin "object.__setattr__"))
theorem Cls.get {K : PySem.W.Frag} {C : Addr} (c : Cls K C) (f : Str) : PySem.W.plainGet K C f = true := c.pg


structure Con (K : PySem.W.Frag) (C : Addr) (f : Str) (v : V) (u : Value) : Prop where
  at_ : PySem.W.findIn K (.ref C) f = some (some u)
  rel : RelV v u
  get : PySem.W.specialIn K u "__get__" = some none
  cp : PySem.W.copiedNames.contains f = false

structure Meth (K : PySem.W.Frag) (C : Addr) (m : Str) (f : Addr) : Prop where
  at_ : PySem.W.findIn K (.ref C) m = some (some (.ref f))
  fn : PySem.W.isFn K (.ref f) = true
  kp : PySem.W.keepIn K (.ref f) = true

section
variable {X : Cx} {pins : List (Addr × Obj)} {σ : St} {H : Hp} {s : Shared} {a C dx : Addr} {fs : List (Str × V)} {f : Str} {v : V} {A : Around} {E : Value → Shared → Prop}






end








section
variable {X : Cx} {o e value : Expr} {f : Str} {pos pos' tpos : Pos} {ta tv : TE}

end


section
variable {X : Cx} {pins : List (Addr × Obj)} {σ : St} {H : Hp} {s : Shared} {A : Around} {E : Value → Shared → Prop} {Q : Value → Shared → Prop} {c : Value} {b : Bool}

inductive TyOf (K : PySem.W.Frag) (H : Hp) : V → Value → Prop where
  | non : TyOf K H .non (.type "NoneType")
  | bl (x : Bool) : TyOf K H (.bl x) (.type "bool")
  | int (i : Int) : TyOf K H (.int i) (.type "int")
  | str (x : Str) : TyOf K H (.str x) (.type "str")
  | flt (x : UInt64) : TyOf K H (.flt x) (.type "float")
  | lst {a : Addr} {xs : List V} (e : H a = some (.lst xs)) : TyOf K H (.ref a) (.type "list")
  | frz {a : Addr} {o : Obj} {xs : List V} (e : H a = some (.frz o (.lst xs))) : TyOf K H (.ref a) (.type "list")
  | tup {a : Addr} {xs : List V} (e : H a = some (.tup xs)) : TyOf K H (.ref a) (.type "tuple")
  | dK {a : Addr} {kvs : List (Key × V)} (e : H a = some (.dK kvs)) : TyOf K H (.ref a) (.type "dict")
  | dT {a : Addr} {kvs : List (List Key × V)} (e : H a = some (.dT kvs)) : TyOf K H (.ref a) (.type "dict")
  | ins {a C dx : Addr} {fs : List (Str × V)} (e : H a = some (.ins C dx fs)) (cl : Cls K C) (ha : PySem.W.findIn K (.ref C) "__class__" = some (some (.builtin "object.__class__")))
      (hn : PySem.W.specialIn K (.builtin "object.__class__") "__get__" = some (some (.builtin "getset_descriptor.__get__"))) (htk : PySem.W.takesIn K (.builtin "object.__class__") = some true)
      (hm : PySem.W.mroIn K C (.type "object") = some true) : TyOf K H (.ref a) (.ref C)

theorem isinst_ok {x : V} {u t : Value} (I : Inv X pins σ H s) (rx : RelV x u) (ty : TyOf X.K H x t) (e : PySem.W.kitOne X.K t c = some b) (h : ∀ tk, Q (.bool b) { s with toks := tk }) :
    wpAny (model X.prog X.w) A (call (.builtin "isinstance") [u, c]) Q E s := by
  cases ty with
  | non => cases (show u = Value.none from rx); exact PySem.W.kia_one PySem.W.kitx_none I.kIn True.intro e (fun z => nomatch z) h
  | bl y => cases (show u = Value.bool y from rx); exact PySem.W.kia_one PySem.W.kitx_bool I.kIn True.intro e (fun z => nomatch z) h
  | int i => obtain ⟨t, q⟩ := (show ∃ t, u = Value.int i t from rx); cases q; exact PySem.W.kia_one PySem.W.kitx_int I.kIn True.intro e (fun z => nomatch z) h
  | str y => obtain ⟨t, q⟩ := (show ∃ t, u = Value.str y t from rx); cases q; exact PySem.W.kia_one PySem.W.kitx_str I.kIn True.intro e (fun z => nomatch z) h
  | flt y => obtain ⟨t, q⟩ := (show ∃ t, u = Value.float y t from rx); cases q; exact PySem.W.kia_one PySem.W.kitx_float I.kIn True.intro e (fun z => nomatch z) h
  | @lst a xs ea =>
    cases (show u = Value.ref a from rx)
    obtain ⟨_, _, n, _, h1⟩ := (show ObjOk X.prog X.w H s.heap a (.lst xs) from I.hok a _ ea)
    exact PySem.W.kia_one PySem.W.kitx_list I.kIn ⟨_, h1, rfl⟩ e (fun z => nomatch z) h
  | @frz a ob xs ea =>
    cases (show u = Value.ref a from rx)
    obtain ⟨_, _, _, n, _, h1⟩ := (show ObjOk X.prog X.w H s.heap a (.frz ob (.lst xs)) from I.hok a _ ea)
    exact PySem.W.kia_one PySem.W.kitx_list I.kIn ⟨_, h1, rfl⟩ e (fun z => nomatch z) h
  | @tup a xs ea =>
    cases (show u = Value.ref a from rx)
    obtain ⟨_, _, _, p⟩ := (show ObjOk X.prog X.w H s.heap a (.tup xs) from I.hok a _ ea)
    obtain ⟨o, h1, ⟨h2, _⟩, _⟩ := p
    exact PySem.W.kia_one PySem.W.kitx_tuple I.kIn ⟨o, h1, h2⟩ e (fun z => nomatch z) h
  | @dK a kvs ea =>
    cases (show u = Value.ref a from rx)
    obtain ⟨_, _, vs, _, p⟩ := (show ObjOk X.prog X.w H s.heap a (.dK kvs) from I.hok a _ ea)
    obtain ⟨o, es, ep, h1, h2, _⟩ := p
    exact PySem.W.kia_one PySem.W.kitx_dict I.kIn ⟨o, h1, h2.1⟩ e (fun z => nomatch z) h
  | @dT a kvs ea =>
    cases (show u = Value.ref a from rx)
    obtain ⟨_, _, xs, _, o, es, ep, h1, h2, _⟩ := (show ObjOk X.prog X.w H s.heap a (.dT kvs) from I.hok a _ ea)
    exact PySem.W.kia_one PySem.W.kitx_dict I.kIn ⟨o, h1, h2.1⟩ e (fun z => nomatch z) h
  | @ins a C dx fs ea cl ha hn htk hm =>
    cases (show u = Value.ref a from rx)
    obtain ⟨mA, O, _⟩ := ins_get I.hok ea
    obtain ⟨od, J, _⟩ := O.look
    exact PySem.W.kia_one (PySem.W.kitx_own (cl.get _) cl.hd ha hn htk hm) I.kIn J e (fun z => nomatch z) h
end
end L2

namespace L2
open PySem PySem.Spec PyProof.Rows


structure Room (k : Nat) (A : Around) : Prop where
  hd : A.handled = none
  dp : A.depth + 3 * k + 5 < recursionLimit
  un : A.units + 16 * k + 200 < cLine
theorem Room.mono {j k : Nat} {A : Around} (r : Room k A) (h : j ≤ k) : Room j A := ⟨r.hd, by have := r.dp; omega, by have := r.un; omega⟩
theorem Room.deeper {k : Nat} {A : Around} (r : Room (k + 1) A) (env : Env) : Room k (A.deeper env) :=
  ⟨r.hd, by have := r.dp; show A.depth + 1 + 3 * k + 5 < _; omega, by have := r.un; show A.units + 3 + 16 * k + 200 < _; omega⟩
theorem Room.depth {k : Nat} {A : Around} (r : Room k A) : A.depth < recursionLimit := by have := r.dp; omega
theorem Room.units {k : Nat} {A : Around} (r : Room k A) : A.units + 64 < cLine := by have := r.un; omega


noncomputable def tNil : TA := fun _ H Q => Q [] H
noncomputable def tCons (ta : TE) (tr : TA) : TA := fun σ H Q => ta σ H fun x H1 => tr σ H1 fun xs H2 => Q (x :: xs) H2
section
variable {X : Cx} {e : Expr} {es : List Expr} {te : TE} {t : TA} {pos : Pos}
theorem pa_nil : PA X [] tNil := fun _ _ _ _ H Q I h => Calls.spliced_nil ⟨[], H, I, .nil, h⟩
theorem pa_cons (ha : PE X e te) (hr : PA X es t) (hs : starEach (e :: es) X.env = (false, eval e X.env) :: starEach es X.env := by rfl) : PA X (e :: es) (tCons te t) := by
  intro pos pins s σ H Q I h
  rw [hs]
  show wpAny _ _ (spliced ((false, eval e X.env) :: backTo pos (starEach es X.env))) _ _ s
  refine Calls.spliced_cons (thnE (ha pins s σ H _ I h) fun u s1 x H1 I1 r1 q1 => ?_)
  exact thnA (hr pos pins s1 σ H1 _ I1 q1) fun us s2 xs H2 I2 r2 q2 => ⟨x :: xs, H2, I2, .cons r1 r2, q2⟩


noncomputable def tTup (t : TA) : TE := fun σ H Q => t σ H fun xs H1 => xs.length ≤ sizeLine ∧ ∀ p, H1 p = none → Q (.ref p) (upd H1 p (.tup xs))
noncomputable def tLst (t : TA) : TE := fun σ H Q => t σ H fun xs H1 => xs.length ≤ sizeLine ∧ ∀ p, H1 p = none → Q (.ref p) (upd H1 p (.lst xs))
theorem pe_tup {x1} (h : PA X es t) : PE X (.Tuple es x1 pos) (tTup t) := by
  intro pins s σ H Q I hq
  refine wpAny_Tuple_spliced (thn (h pos pins s σ H _ I hq) fun us s1 ⟨xs, H1, I1, r, z, q⟩ => ⟨by rw [← r.length]; exact z, ?_⟩)
  have hf : H1 s1.heap.objs.size = none := I1.hok.fresh (Nat.le_refl _)
  refine ⟨.ref s1.heap.objs.size, upd H1 s1.heap.objs.size (.tup xs), I1.laid (t' := s1.toks) (fun b u e => Heap.get?_push_of_some _ e) (Nat.le_refl _) ?_, rfl, q _ hf⟩
  exact ⟨z, us, r, ⟨_, Heap.get?_push_size _ rfl, ⟨rfl, _, rfl⟩, rfl⟩⟩
theorem pe_lst (h : PA X es t) : PE X (.List es pos) (tLst t) := by
  intro pins s σ H Q I hq
  refine wpAny_List_spliced (thn (h pos pins s σ H _ I hq) fun us s1 ⟨xs, H1, I1, r, z, q⟩ => ⟨by rw [← r.length]; exact z, ?_⟩)
  have hf : H1 s1.heap.objs.size = none := I1.hok.fresh (Nat.le_refl _)
  refine ⟨.ref s1.heap.objs.size, upd H1 s1.heap.objs.size (.lst xs), I1.laid (t' := s1.toks) (fun b u e => Heap.get?_push_of_some _ e) (Nat.le_refl _) ?_, rfl, q _ hf⟩
  exact ⟨z, us, 0, r, Heap.get?_push_size _ rfl⟩
end



noncomputable abbrev Sp := List V → Hp → VK → XK → Prop

noncomputable abbrev CXT := List Env → Hp → Shared → XK → Value → Shared → Prop


structure Env0 (P : Program) (w : World) (K : PySem.W.Frag) (mg : Str → Option Value) (base : Heap) (A : Around) (outer : List Env) (s : Shared) (H : Hp) : Prop where
  frames : A.frames = some outer
  mod : Mod K mg base
  bs : ∀ b o, base.get? b = some o → s.heap.get? b = some o ∧ H b = none
  bsz : base.objs.size ≤ s.heap.objs.size
  funs : s.heap.FunFrames base outer
  frf : ∀ b ∈ frs outer, H b = none
  hok : HOk P w H s.heap
  bare : AllBare s.gens

noncomputable def CE (outer : List Env) (P : Program) (w : World) (H : Hp) (s : Shared) (Q : VK) (u : Value) (s' : Shared) : Prop :=
  ∃ v H', s'.os = s.os ∧ AllBare s'.gens ∧ Un (frs outer) [] H H' s.heap s'.heap ∧ HOk P w H' s'.heap ∧ RelV v u ∧ Q v H'
noncomputable def CR (CX : CXT) (outer : List Env) (P : Program) (w : World) (H : Hp) (s : Shared) (Q : VK) (E : XK) (r : Result) (s' : Shared) : Prop :=
  match r with
  | .ok (.ret u) => CE outer P w H s Q u s'
  | .ok _ => False
  | .error e => CX outer H s E e s'
structure FnOk (P : Program) (w : World) (K : PySem.W.Frag) (mg : Str → Option Value) (base : Heap) (CX : CXT) (k : Nat) (f : Addr) (fd : FuncData) (ps : List Str) (sp : Sp) : Prop where
  len : ∀ vs H Q E, sp vs H Q E → vs.length = ps.length
  run : ∀ (A : Around) (outer : List Env) (s : Shared) (H : Hp) (args : Args) (us : List Value) (vs : List V) (Q : VK) (E : XK), Room k A → Env0 P w K mg base A outer s H → BindsTo s fd args (ps.zip us) → Vals vs us → sp vs H Q E →
    codeAny (model P w) A (.call (.ref f) args) (CR CX outer P w H s Q E) s


section
variable {X : Cx} {pins : List (Addr × Obj)} {σ : St} {H : Hp} {s s' : Shared}

theorem Inv.env0 (I : Inv X pins σ H s) : Env0 X.prog X.w X.K X.mg X.base X.A X.stack s H :=
  ⟨I.ok.frames, I.ok.mod, I.bs, Nat.le_trans I.ok.bsz I.sz, I.stack, I.stkFree, I.hok, I.bare⟩

theorem Inv.after {Q : VK} {u : Value} (I : Inv X pins σ H s) (h : CE X.stack X.prog X.w H s Q u s') : EP X pins σ Q u s' := by
  obtain ⟨v, H', os, bare, un, hok, r, q⟩ := h
  obtain ⟨hh, g, d, t, os'⟩ := s'
  obtain rfl : os' = s.os := os
  exact ⟨v, H', I.call (h' := hh) (g' := g) (d' := d) (t' := t) (ch := []) un hok bare (fun b z => absurd z (by simp)), r, q⟩
end



noncomputable def tCall (sp : Sp) (dvs : List V) (E : XK) (t : TA) : TE := fun σ H Q => t σ H fun vs H1 => sp (vs ++ dvs) H1 Q E




noncomputable def Binds (K : PySem.W.Frag) (fd : FuncData) (ps : List Str) (ds : List Value) : Prop :=
  ∀ (s : Shared) (us : List Value), K.In s.heap → (us ++ ds).length = ps.length → BindsTo s fd ⟨us, []⟩ (ps.zip (us ++ ds))

theorem Binds.all {K : PySem.W.Frag} {fd : FuncData} {ps : List Str} (h : ∀ us : List Value, us.length = ps.length → bindArgs fd ⟨us, []⟩ = pure (ps.zip us)) : Binds K fd ps [] := fun s us _ hl => by
  rw [List.append_nil] at hl ⊢
  exact .of_eq (h us hl)


noncomputable def Passes (CX : CXT) (X : Cx) (E : XK) : Prop := ∀ (pins : List (Addr × Obj)) (σ : St) (H : Hp) (s : Shared) (e : Value) (s' : Shared), Inv X pins σ H s → CX X.stack H s E e s' → X.xe e s'

section
variable {X : Cx} {CX : CXT} {k : Nat} {f C : Addr} {fd : FuncData} {ps : List Str} {sp : Sp} {dvs : List V} {ds : List Value} {E : XK} {x m : Str} {p pos apos : Pos} {e o : Expr} {es : List Expr} {ta : TE} {t : TA}


theorem run_fn {pins : List (Addr × Obj)} {σ : St} {H : Hp} {s : Shared} {Q : VK} {us : List Value} {vs : List V} (F : FnOk X.prog X.w X.K X.mg X.base CX k f fd ps sp) (hr : Room k X.A) (hb : Binds X.K fd ps ds) (hd : Vals dvs ds) (hx : Passes CX X E)
    (I : Inv X pins σ H s) (r : Vals vs us) (h : sp (vs ++ dvs) H Q E) : wpAny (model X.prog X.w) X.A (call (.ref f) us) (EP X pins σ Q) X.xe s := by
  have r2 : Vals (vs ++ dvs) (us ++ ds) := r.append hd
  have hl : (us ++ ds).length = ps.length := by rw [← r2.length]; exact F.len _ _ _ _ h
  refine wpAny_call (codeAny_mono (F.run X.A X.stack s H ⟨us, []⟩ (us ++ ds) (vs ++ dvs) Q E hr I.env0 (hb s us I.kIn hl) r2 h) fun r s' hq => ?_)
  cases r with
  | error e => exact hx pins σ H s e s' I hq
  | ok fl =>
    cases fl with
    | ret u => exact I.after hq
    | next => exact False.elim hq
    | brk => exact False.elim hq
    | cont => exact False.elim hq

theorem pe_call (F : FnOk X.prog X.w X.K X.mg X.base CX k f fd ps sp) (hr : Room k X.A) (hg : Gl X x) (hm : X.mg x = some (.ref f)) (hk : PySem.W.keepIn X.K (.ref f) = true) (hb : Binds X.K fd ps ds) (hd : Vals dvs ds) (hx : Passes CX X E)
    (ha : PA X (e :: es) t) (hdb : (x == ("__debug__" : Str)) = false := by decide) (he : starEach (e :: es) X.env = (false, eval e X.env) :: starEach es X.env := by rfl) (hpl : (backTo pos (starEach es X.env)).any (·.1) = false := by rfl) :
    PE X (.Call (.Name x p) (e :: es) [] pos) (tCall sp dvs E t) := by
  intro pins s σ H Q I h
  refine wpAny_Call_Name_kw (ld_glob I hg hm ?_ hdb)
  refine PySem.W.callWith_K (h₀ := X.base) I.ok.mod.kin hk (thnA (ha pos pins s σ H _ I h) fun us s1 vs H1 I1 r q => ⟨I1.kIn, ?_⟩) he hpl
  exact run_fn F hr hb hd hx I1 r q



structure Mk (K : PySem.W.Frag) (C f : Addr) : Prop where
  makes : PySem.W.makesIn K C = true
  init : PySem.W.findIn K (.ref C) "__init__" = some (some (.ref f))
  fn : PySem.W.isFn K (.ref f) = true
  kp : PySem.W.keepIn K (.ref C) = true

end



section
variable {X : Cx} {CX : CXT} {k : Nat} {f C : Addr} {fd : FuncData} {ps ks : List Str} {sp : Sp} {E : XK} {x m : Str} {p pos apos kpos : Pos} {e o : Expr} {es : List Expr} {kws : List Keyword} {te ta : TE} {t tk : TA} {nm : Option Str}


structure KBinds (K : PySem.W.Frag) (fd : FuncData) (ps ks : List Str) (g : List Value → List Value → List Value) (gV : List V → List V → List V) : Prop where
  to : ∀ (s : Shared) (us ws : List Value), K.In s.heap → (g us ws).length = ps.length → BindsTo s fd ⟨us, ks.zip ws⟩ (ps.zip (g us ws))
  rel : ∀ {vs : List V} {us : List Value} {zs : List V} {ws : List Value}, Vals vs us → Vals zs ws → Vals (gV vs zs) (g us ws)
variable {g : List Value → List Value → List Value} {gV : List V → List V → List V}
end



structure FnScope (N P : List Str) (sc : Scope) : Prop where
  kind : sc.kind = .function
  co : sc.isCoroutine = false
  gen : sc.isGenerator = false
  nd : N.Nodup
  pre : N.take P.length = P
  par : ∀ x ∈ P, sc.names.lookup x = some .local ∨ sc.names.lookup x = some .cell
  nofree : ∀ y ∈ sc.names, y.2 ≠ .free

theorem bindL_out {kindOf : Str → Option NameKind} {x : Str} : ∀ {binds : List (Str × Value)} {m : Str → Option Value}, (∀ v, (x, v) ∉ binds) → bindL kindOf binds m x = m x
  | [], _, _ => rfl
  | (n, v) :: r, m, h => by
    unfold bindL
    rw [bindL_out fun w hw => h w (List.mem_cons_of_mem _ hw)]
    split
    · have : x ≠ n := by rintro rfl; exact h v List.mem_cons_self
      simp [this]
    · rfl
theorem bindC_out {kindOf : Str → Option NameKind} {x : Str} : ∀ {binds : List (Str × Value)} {m : Str → Option Value}, (∀ v, (x, v) ∉ binds) → bindC kindOf binds m x = m x
  | [], _, _ => rfl
  | (n, v) :: r, m, h => by
    unfold bindC
    rw [bindC_out fun w hw => h w (List.mem_cons_of_mem _ hw)]
    split
    · rfl
    · have : x ≠ n := by rintro rfl; exact h v List.mem_cons_self
      simp [this]
theorem bindL_get {kindOf : Str → Option NameKind} {x : Str} {v : Value} : ∀ {P : List Str} {vs : List Value} {i : Nat} {m : Str → Option Value}, P.Nodup → P[i]? = some x → vs[i]? = some v → kindOf x = some .local →
    bindL kindOf (P.zip vs) m x = some v
  | [], _, _, _, _, h, _, _ => by simp at h
  | _ :: _, [], _, _, _, _, h, _ => by simp at h
  | p :: P, w :: vs, 0, m, nd, h1, h2, hk => by
    simp at h1 h2; subst h1; subst h2
    show bindL kindOf ((p, w) :: P.zip vs) m p = _
    unfold bindL
    rw [bindL_out fun v hv => (List.nodup_cons.mp nd).1 (List.of_mem_zip hv).1, if_pos hk]
    simp
  | p :: P, w :: vs, i + 1, m, nd, h1, h2, hk => by
    show bindL kindOf ((p, w) :: P.zip vs) m x = _
    unfold bindL
    exact bindL_get (i := i) (List.nodup_cons.mp nd).2 (by simpa using h1) (by simpa using h2) hk
theorem bindC_get {kindOf : Str → Option NameKind} {x : Str} {v : Value} : ∀ {P : List Str} {vs : List Value} {i : Nat} {m : Str → Option Value}, P.Nodup → P[i]? = some x → vs[i]? = some v → kindOf x ≠ some .local →
    bindC kindOf (P.zip vs) m x = some v
  | [], _, _, _, _, h, _, _ => by simp at h
  | _ :: _, [], _, _, _, _, h, _ => by simp at h
  | p :: P, w :: vs, 0, m, nd, h1, h2, hk => by
    simp at h1 h2; subst h1; subst h2
    show bindC kindOf ((p, w) :: P.zip vs) m p = _
    unfold bindC
    rw [bindC_out fun v hv => (List.nodup_cons.mp nd).1 (List.of_mem_zip hv).1, if_neg hk]
    simp
  | p :: P, w :: vs, i + 1, m, nd, h1, h2, hk => by
    show bindC kindOf ((p, w) :: P.zip vs) m x = _
    unfold bindC
    exact bindC_get (i := i) (List.nodup_cons.mp nd).2 (by simpa using h1) (by simpa using h2) hk


noncomputable def start (N : List Str) (vs : List V) : St := vs.map some ++ List.replicate (N.length - vs.length) none


noncomputable def cxOf (CX : CXT) (P : Program) (w : World) (K : PySem.W.Frag) (mg : Str → Option Value) (base : Heap) (N : List Str) (qual : Str) (scope : Scope) (f : Addr) (cd : Value) (A : Around) (outer : List Env) (s : Shared) (H : Hp) (E : XK) : Cx where
  prog := P
  w := w
  K := K
  mg := mg
  base := base
  A := A.deeper (envOfC qual scope s.heap.objs.size f cd)
  N := N
  s₀ := s
  H₀ := H
  env := envOfC qual scope s.heap.objs.size f cd
  outer := outer
  stack := envOfC qual scope s.heap.objs.size f cd :: outer
  ex := []
  calm := true
  fn := fun _ => true
  pn := []
  xe := fun e s' => wpAny (model P w) (A.deeper (envOfC qual scope s.heap.objs.size f cd)) (leaving (envOfC qual scope s.heap.objs.size f cd) e) (fun _ s'' => CX outer H s E e s'') (fun e' s'' => CX outer H s E e' s'') s'

theorem cell_has {sc : Scope} {n : Nat} {x : Str} (h : sc.names.lookup x = some .cell) : ∃ c, (cellsFrom n sc.names []).lookup x = some c := by
  have q := PySem.W.cellsFrom_some sc.names n [] (.inl h)
  exact Option.isSome_iff_exists.mp q

theorem inv_start {CX : CXT} {P : Program} {w : World} {K : PySem.W.Frag} {mg : Str → Option Value} {base : Heap} {N ps : List Str} {qual : Str} {scope : Scope} {f : Addr} {cd : Value} {A : Around} {outer : List Env} {s s1 : Shared} {H : Hp} {E : XK} {us : List Value} {vs : List V}
    (S : FnScope N ps scope) (hd : A.handled = none) (e0 : Env0 P w K mg base A outer s H) (hl : vs.length = ps.length) (r : Vals vs us)
    (x : InCallC s s.heap.objs.size (bindL (envOfC qual scope s.heap.objs.size f cd).kindOf (ps.zip us) fun _ => none) (cellsFrom (s.heap.objs.size + 1) scope.names []) (bindC (envOfC qual scope s.heap.objs.size f cd).kindOf (ps.zip us) fun _ => none) s1) :
    Inv (cxOf CX P w K mg base N qual scope f cd A outer s H E) [] (start N vs) H s1 := by
  have hpl : ps.length ≤ N.length := by have := congrArg List.length S.pre; rw [List.length_take] at this; omega
  obtain ⟨h1, tk, rfl, hk⟩ := x.done
  have noA : ∀ b : Addr, b ∉ (cxOf CX P w K mg base N qual scope f cd A outer s H E).ex := fun b z => absurd (show b ∈ ([] : List Addr) from z) (by simp)
  refine ⟨⟨e0.mod, S.kind, rfl, rfl, Nat.le_refl _, fun y z c h1 h2 => ?_, fun y hy => ?_, fun y c _ h => ?_, fun _ => hd, Around.frames_deeper e0.frames, .inr ⟨rfl, rfl⟩, fun b z => absurd z (noA b), e0.bs, e0.bsz, fun b _ _ => noA b, fun b z => absurd z (noA b), e0.funs, e0.frf⟩,
    rfl, e0.bare, Un.kept hk, ⟨_, x.toInCall.ns, fun i y v h1 h2 h3 => ?_⟩, fun y c h => ⟨_, x.cell y c h⟩, e0.hok.fresh (Nat.le_refl _), fun y c h => ?_, fun p hp => absurd (show p ∈ ([] : List (Addr × Obj)) from hp) (by simp), e0.hok.kept hk, ?_⟩
  · exact name_of_addr x.apart (PySem.mem_of_lookup h1) (PySem.mem_of_lookup h2)
  · have hy : scope.names.lookup y = some .cell ∨ scope.names.lookup y = some .free := hy
    rcases hy with hy | hy
    · exact cell_has hy
    · exact absurd rfl (S.nofree _ (PySem.mem_of_lookup hy))
  · exact Nat.le_of_lt (x.above y c (PySem.mem_of_lookup h))
  · have hi : i < vs.length := by
      unfold start at h2
      by_cases hi : i < vs.length
      · exact hi
      · rw [List.getElem?_append_right (by simpa using hi)] at h2
        rw [List.getElem?_replicate] at h2
        split at h2 <;> cases h2
    have ha : vs[i]? = some v := by
      unfold start at h2
      rw [List.getElem?_append_left (by simpa using hi), List.getElem?_map] at h2
      cases e : vs[i]? with
      | none => rw [e] at h2; cases h2
      | some a => rw [e] at h2; cases h2; rfl
    obtain ⟨u, hu, rv⟩ := r.get ha
    have hp : ps[i]? = some y := by
      rw [← S.pre, List.getElem?_take_of_lt (by omega)]; exact h1
    have ndP : ps.Nodup := by rw [← S.pre]; exact S.nd.sublist (List.take_sublist _ _)
    refine ⟨u, rv, ?_⟩
    rcases S.par y (List.mem_of_getElem? hp) with k | k
    · exact .inl ⟨k, bindL_get ndP hp hu k⟩
    · obtain ⟨c, e⟩ := cell_has (n := s.heap.objs.size + 1) k
      refine .inr ⟨.inl k, c, e, ?_⟩
      have q := x.cell y c e
      rw [bindC_get ndP hp hu (by show scope.names.lookup y ≠ _; rw [k]; decide)] at q
      exact q
  · exact e0.hok.fresh (Nat.le_of_lt (x.above y c (PySem.mem_of_lookup h)))
  · unfold start
    show _ = N.length
    rw [List.length_append, List.length_map, List.length_replicate]
    omega


theorem fn_of {CX : CXT} {P : Program} {w : World} {K : PySem.W.Frag} {mg : Str → Option Value} {base : Heap} {k : Nat} {f : Addr} {name qual : Str} {params : Arguments} {body : List Stmt} {scope : Scope} {dV kV doc pm cdv ct oc : Value} {an od : Option Addr}
    {osl : Array (Option Value)} {N ps : List Str} {sp : Sp} (lk : K.lookup f = some ⟨oc, od, .func (PySem.W.fnOf name qual params body scope dV kV doc pm an cdv ct), osl⟩) (hcd : PySem.W.codeIn K cdv qual = true) (S : FnScope N ps scope)
    (len : ∀ vs H Q E, sp vs H Q E → vs.length = ps.length)
    (hbody : ∀ (A : Around) (outer : List Env) (s : Shared) (H : Hp) (vs : List V) (Q : VK) (E : XK), Room k (A.deeper (envOfC qual scope s.heap.objs.size f cdv)) → sp vs H Q E →
      ∃ t, PSs (cxOf CX P w K mg base N qual scope f cdv A outer s H E) body t ∧ t { nx := fun _ H' => Q .non H', rt := Q } (start N vs) H) :
    FnOk P w K mg base CX (k + 1) f (PySem.W.fnOf name qual params body scope dV kV doc pm an cdv ct) ps sp := by
  refine ⟨len, fun A outer s H args us vs Q E hr e0 hb r hsp => ?_⟩
  have hl := len _ _ _ _ hsp
  have KX : K.In s.heap := e0.mod.kin.keeps fun b o e => (e0.bs b o e).1
  have lim : s.heap.NoLimit := e0.mod.nolimit.keeps fun b o e => (e0.bs b o e).1
  have hkind : ∀ y ∈ ps.zip us, scope.names.lookup y.1 = some .local ∨ (scope.names.lookup y.1 = some .cell ∧ ((cellsFrom (s.heap.objs.size + 1) scope.names []).lookup y.1).isSome = true) := fun ⟨n, v⟩ hy => by
    rcases S.par n (List.of_mem_zip hy).1 with q | q
    · exact .inl q
    · exact .inr ⟨q, PySem.W.cellsFrom_some _ _ _ (.inl q)⟩
  refine codeAny_call_function hr.depth (KX _ _ lk) rfl S.co S.gen rfl (PySem.W.codeRec_of KX hcd) (hb _ _ _ _ ?_)
  refine wpAny_newFunctionEnv_cells S.kind hkind fun env he s1 x => ?_
  subst he
  refine ⟨lim.keeps x.toInCall.keep, codeAny_func ?_⟩
  obtain ⟨t, ht, hq⟩ := hbody A outer s H vs Q E (hr.deeper _) hsp
  have I : Inv (cxOf CX P w K mg base N qual scope f cdv A outer s H E) [] (start N vs) H s1 := inv_start S hr.hd e0 hl r x
  refine wpAny_mono (ht [] s1 (start N vs) H _ I hq) (fun fl s' hs => ?_) fun e s' hs => hs
  have fin : ∀ {σ' : St} {H' : Hp} {v : V} {u : Value}, Inv (cxOf CX P w K mg base N qual scope f cdv A outer s H E) [] σ' H' s' → RelV v u → Q v H' → CE outer P w H s Q u s' :=
    fun {σ' H' v u} J rv q => ⟨v, H', J.os, J.bare, J.base, J.hok, rv, q⟩
  cases fl with
  | ret u =>
    obtain ⟨v, σ', H', J, rv, q⟩ := hs
    exact fin J rv q
  | next =>
    obtain ⟨σ', H', J, q⟩ := hs
    exact fin (v := V.non) (u := Value.none) J rfl q
  | brk =>
    obtain ⟨_, _, _, q⟩ := hs
    exact False.elim q
  | cont =>
    obtain ⟨_, _, _, q⟩ := hs
    exact False.elim q
end L2

namespace L2
open PySem PySem.Spec PyProof.Rows
section
variable {X : Cx} {x : Str} {p pos : Pos} {e : Expr} {es : List Expr} {t : TA} {id T : String} {r : List V → Hp → VK → Prop}

noncomputable def tCB (r : List V → Hp → VK → Prop) (t : TA) : TE := fun σ H Q => t σ H fun vs H1 => r vs H1 Q

theorem pe_callB (hc : CallR X (.builtin id) r) (hg : Gl X x) (hm : X.mg x = none) (hv : bootBuiltins x = some (.builtin id)) (ha : PA X (e :: es) t) (hn : x ≠ "__name__" := by decide) (hdb : (x == ("__debug__" : Str)) = false := by decide)
    (he : starEach (e :: es) X.env = (false, eval e X.env) :: starEach es X.env := by rfl) (hpl : (backTo pos (starEach es X.env)).any (·.1) = false := by rfl) : PE X (.Call (.Name x p) (e :: es) [] pos) (tCB r t) := by
  intro pins s σ H Q I h
  refine wpAny_Call_Name_kw (ld_blt I hg hm hv ?_ hn hdb)
  exact PyProof.Rows.callWith_builtin1 (thnA (ha pos pins s σ H _ I h) fun us s1 vs H1 I1 r1 q1 => hc pins s1 σ H1 vs us Q I1 r1 q1) he hpl

theorem pe_callTy (hc : CallR X (.type T) r) (hg : Gl X x) (hm : X.mg x = none) (hv : bootBuiltins x = some (.type T)) (ha : PA X (e :: es) t) (hn : x ≠ "__name__" := by decide) (hdb : (x == ("__debug__" : Str)) = false := by decide)
    (he : starEach (e :: es) X.env = (false, eval e X.env) :: starEach es X.env := by rfl) (hpl : (backTo pos (starEach es X.env)).any (·.1) = false := by rfl) : PE X (.Call (.Name x p) (e :: es) [] pos) (tCB r t) := by
  intro pins s σ H Q I h
  refine wpAny_Call_Name_kw (ld_blt I hg hm hv ?_ hn hdb)
  exact PyProof.Rows.callWith_type1 (thnA (ha pos pins s σ H _ I h) fun us s1 vs H1 I1 r1 q1 => hc pins s1 σ H1 vs us Q I1 r1 q1) he hpl
end
end L2

namespace HT
open PySem PyProof.Rows




section
open PySem.SeqAt
open PySem.AutoSeq1 (wpAny_loadPart')
open PySem.MeetsSeq PySem.MeetsSeq2 PySem.MeetsSeq3

end

section
variable {prog : Program} {w : World} {A : Around} {E : Value → Shared → Prop} {s : Shared}





noncomputable def sIx (n d : Nat) : Option Int → Nat
  | none => d
  | some v => if v < 0 then (v + (n : Int)).toNat else min v.toNat n
theorem sIx_none (n d : Nat) : sIx n d none = d := rfl
theorem sIx_nat (n d k : Nat) : sIx n d (some (k : Int)) = min k n := by
  show (if (k : Int) < 0 then ((k : Int) + (n : Int)).toNat else min (k : Int).toNat n) = min k n
  rw [if_neg (by omega), Int.toNat_natCast]

end
end HT

namespace L2
open PySem PySem.Spec PyProof.Rows


noncomputable abbrev TO := St → Hp → (Option Int → Hp → Prop) → Prop

noncomputable def PO (X : Cx) (e : Option Expr) (t : TO) : Prop :=
  ∀ (pins : List (Addr × Obj)) (s : Shared) (σ : St) (H : Hp) (Q : Option Int → Hp → Prop), Inv X pins σ H s → t σ H Q →
    wpAny (model X.prog X.w) X.A (evalPart e X.env) (fun u s' => ∃ o H', Inv X pins σ H' s' ∧ IsPart u o ∧ Q o H') X.xe s
noncomputable def tNoPart : TO := fun _ H Q => Q none H
noncomputable def tPart (t : TE) : TO := fun σ H Q => t σ H fun x H1 => ∃ i, x = .int i ∧ Q (some i) H1


section
variable {X : Cx} {e : Expr} {te : TE} {lo hi : Option Expr} {tl th : TO} {pos p2 : Pos}

theorem po_none : PO X none tNoPart := by
  intro pins s σ H Q I h
  rw [evalPart_none]
  exact wpAny_pure ⟨none, H, I, .none, h⟩
theorem po_some (h : PE X e te) : PO X (some e) (tPart te) := by
  intro pins s σ H Q I hw
  rw [evalPart_some]
  refine thnE (h pins s σ H _ I hw) fun u s1 x H1 I1 r1 q1 => ?_
  obtain ⟨i, rfl, q⟩ := q1
  obtain ⟨t, rfl⟩ := r1
  exact ⟨some i, H1, I1, .int i t, q⟩


noncomputable def SlR (X : Cx) (r : V → Option Int → Option Int → Hp → VK → Prop) : Prop :=
  ∀ (pins : List (Addr × Obj)) (s : Shared) (σ : St) (H : Hp) (x : V) (v vl vu : Value) (lo hi : Option Int) (sl : Addr) (Q : VK), Inv X pins σ H s → RelV x v → s.heap.IsSliceOf sl vl vu .none → IsPart vl lo → IsPart vu hi → r x lo hi H Q →
    ∃ T id, typeLookup (.type T) "__getitem__" = pure (some (.builtin id)) ∧ s.TypeIs v T ∧ wpAny (model X.prog X.w) X.A (getItem v (.ref sl)) (EP X pins σ Q) X.xe s
noncomputable def tSl (r : V → Option Int → Option Int → Hp → VK → Prop) (te : TE) (tl th : TO) : TE := fun σ H Q => te σ H fun x H1 => tl σ H1 fun l H2 => th σ H2 fun u H3 => r x l u H3 Q

theorem pe_slice {r : V → Option Int → Option Int → Hp → VK → Prop} (hr : SlR X r) (he : PE X e te) (hl : PO X lo tl) (hu : PO X hi th) : PE X (.Subscript e (.Slice lo hi none p2) pos) (tSl r te tl th) := by
  intro pins s σ H Q I h
  refine Subscript_ (thnE (he pins s σ H _ I h) fun v s1 x H1 I1 r1 q1 => ?_)
  refine wpAny_Slice (thn (hl pins s1 σ H1 _ I1 q1) fun vl s2 ⟨l, H2, I2, pl, q2⟩ => thn (hu pins s2 σ H2 _ I2 q2) fun vu s3 ⟨u, H3, I3, pu, q3⟩ => ?_)
  rw [evalPart_none]
  refine wpAny_pure ?_
  have I4 : Inv X pins σ H3 { s3 with heap := s3.heap.push { cls := .type "slice", data := .fields #[vl, vu, .none] } } := I3.kept (t' := s3.toks) fun b ob q => Heap.get?_push_of_some _ q
  obtain ⟨T, id, hT, ht, hg⟩ := hr pins { s3 with heap := s3.heap.push { cls := .type "slice", data := .fields #[vl, vu, .none] } } σ H3 x v vl vu l u s3.heap.objs.size Q I4 r1 (Heap.IsSliceOf.new ..) pl pu q3
  show wpAny (model X.prog X.w) X.A (subscriptTail e (.Slice lo hi none p2) v (.ref s3.heap.objs.size)) (EP X pins σ Q) X.xe { s3 with heap := s3.heap.push { cls := .type "slice", data := .fields #[vl, vu, .none] } }
  exact tail_any (ops := [.ref s3.heap.objs.size, v]) ht hT hg (by with_unfolding_all rfl)


noncomputable def cutV (xs : List V) (lo hi : Option Int) : List V := (xs.drop (HT.sIx xs.length 0 lo)).take (HT.sIx xs.length xs.length hi - HT.sIx xs.length 0 lo)
theorem cutV_length (xs : List V) (lo hi : Option Int) : (cutV xs lo hi).length ≤ xs.length := by
  unfold cutV
  rw [List.length_take, List.length_drop]
  omega




end
end L2

namespace L2
open PySem PySem.Spec PyProof.Rows



noncomputable def ixN (n : Nat) (i : Int) : Option Nat := if 0 ≤ i then (if i < n then some i.toNat else none) else if -(n : Int) ≤ i then some (i + n).toNat else none
noncomputable def atI {α : Type} (xs : List α) (i : Int) : Option α := (ixN xs.length i).bind fun j => xs[j]?
theorem ixN_seq {n : Nat} {i : Int} {j : Nat} (h : ixN n i = some j) : seqIndex? i n = some j ∧ j < n ∧ -(n : Int) ≤ i ∧ i < n := by
  unfold ixN at h
  by_cases h0 : 0 ≤ i
  · rw [if_pos h0] at h
    by_cases h1 : i < n
    · rw [if_pos h1] at h
      have e : i.toNat = j := Option.some.inj h
      exact ⟨by rw [seqIndex_of h0 h1, e], by omega, by omega, h1⟩
    · rw [if_neg h1] at h; cases h
  · rw [if_neg h0] at h
    by_cases h1 : -(n : Int) ≤ i
    · rw [if_pos h1] at h
      have e : (i + n).toNat = j := Option.some.inj h
      exact ⟨by rw [seqIndex_neg (by omega) h1, e], by omega, h1, by omega⟩
    · rw [if_neg h1] at h; cases h
theorem atI_get {α : Type} {xs : List α} {i : Int} {v : α} (h : atI xs i = some v) : ∃ j, seqIndex? i xs.length = some j ∧ xs[j]? = some v ∧ j < xs.length ∧ -(xs.length : Int) ≤ i ∧ i < xs.length := by
  unfold atI at h
  cases e : ixN xs.length i with
  | none => rw [e] at h; cases h
  | some j =>
    rw [e] at h
    obtain ⟨h1, h2, h3, h4⟩ := ixN_seq e
    exact ⟨j, h1, h, h2, h3, h4⟩
theorem atI_nat {α : Type} {xs : List α} {j : Nat} {v : α} (h : xs[j]? = some v) : atI xs (j : Int) = some v := by
  have hj : j < xs.length := (List.getElem?_eq_some_iff.mp h).1
  have e : ixN xs.length (j : Int) = some j := by
    unfold ixN
    rw [if_pos (by omega), if_pos (by omega)]; simp
  unfold atI; rw [e]; exact h



noncomputable def PlainIx (b : Expr) : Prop := ∀ o i, subscripted b false o i = operate [o, i] (getItem o i)

noncomputable def IxR (X : Cx) (r : R2) : Prop :=
  ∀ (value slice : Expr) (pins : List (Addr × Obj)) (s : Shared) (σ : St) (H : Hp) (x y : V) (v u : Value) (Q : VK), Inv X pins σ H s → RelV x v → RelV y u → r x y H Q →
    subscripted slice false v u = operate [v, u] (getItem v u) → wpAny (model X.prog X.w) X.A (subscriptTail value slice v u) (EP X pins σ Q) X.xe s

noncomputable def MtR (X : Cx) (id : String) (r : V → List V → Hp → VK → Prop) : Prop :=
  ∀ (pins : List (Addr × Obj)) (s : Shared) (σ : St) (H : Hp) (x : V) (xs : List V) (v : Value) (us : List Value) (Q : VK), Inv X pins σ H s → RelV x v → Vals xs us → r x xs H Q →
    wpAny (model X.prog X.w) X.A (call (.builtin id) (v :: us)) (EP X pins σ Q) X.xe s
section
variable {X : Cx} {a b : Expr} {ta tb : TE} {pos : Pos}

theorem pe_ix {r : R2} (hr : IxR X r) (ha : PE X a ta) (hb : PE X b tb) (hs : PlainIx b) : PE X (.Subscript a b pos) (tOp r ta tb) := by
  intro pins s σ H Q I h
  exact Subscript_ (binT ha hb I h fun v u s2 x y H2 I2 rx ry q => hr a b pins s2 σ H2 x y v u Q I2 rx ry q (hs _ _))

noncomputable def rIxL (K : PySem.W.Frag) : R2 := fun x y H Q => ∃ p xs i v, x = .ref p ∧ y = .int i ∧ SqL K H p xs ∧ atI xs i = some v ∧ Q v H
noncomputable def rIxT (K : PySem.W.Frag) : R2 := fun x y H Q => ∃ p xs i v, x = .ref p ∧ y = .int i ∧ SqT K H p xs ∧ atI xs i = some v ∧ Q v H
theorem ix_list : IxR X (rIxL X.K) := by
  intro value slice pins s σ H x y v u Q I rx ry h hs
  obtain ⟨p, xs, i, z, rfl, rfl, hq, he, q⟩ := h
  cases rx
  obtain ⟨t, rfl⟩ := ry
  obtain ⟨its, r, pl, hz⟩ := I.list hq
  obtain ⟨j, h1, h2, h3, h4, h5⟩ := atI_get he
  obtain ⟨w, ew, rw'⟩ := r.get h2
  have hl := r.length
  have hn := line63
  have fin : EP X pins σ Q w s := ⟨z, H, I, rw', q⟩
  by_cases h0 : 0 ≤ i
  · have hj : i.toNat = j := by
      rw [seqIndex_of h0 h5] at h1
      exact Option.some.inj h1
    exact item_listR pl.isList h0 (by omega) (by rw [hj]; simpa using ew) fin hs
  · have hj : (i + (its.toArray.size : Int)).toNat = j := by
      rw [seqIndex_neg (by omega) h4] at h1
      rw [List.size_toArray, ← hl]
      exact Option.some.inj h1
    exact subscriptTail_builtinR (x := w) pl.isList.typeIs slot_list_getitem.lookup
      (wpAny_getItem_list_neg (Q := fun r s' => r = w ∧ EP X pins σ Q r s') pl.isList (by omega) (by rw [List.size_toArray] <;> omega) (by omega) (by rw [hj]; simpa using ew) ⟨rfl, fin⟩) hs
theorem ix_tup : IxR X (rIxT X.K) := by
  intro value slice pins s σ H x y v u Q I rx ry h hs
  obtain ⟨p, xs, i, z, rfl, rfl, hq, he, q⟩ := h
  cases rx
  obtain ⟨t, rfl⟩ := ry
  obtain ⟨its, r, pl, hz⟩ := I.tuple hq
  obtain ⟨j, h1, h2, h3, h4, h5⟩ := atI_get he
  obtain ⟨w, ew, rw'⟩ := r.get h2
  have hl := r.length
  have hn := line63
  have fin : EP X pins σ Q w s := ⟨z, H, I, rw', q⟩
  exact subscriptTail_builtinR (x := w) pl.typeIs slot_tuple_getitem.lookup
    (getItem_tuple (j := j) (Q := fun r s' => r = w ∧ EP X pins σ Q r s') pl (by omega) (by omega) (by rw [List.size_toArray, ← hl]; exact h1) (by simpa using ew) ⟨rfl, fin⟩) hs




theorem mapSeq_set (its : List Value) (n j : Nat) (u : Value) : Obj.mapSeq (·.setIfInBounds j u) { cls := .type "list", data := .seq its.toArray n } = { cls := .type "list", data := .seq (its.set j u).toArray n } := by
  simp [Obj.mapSeq]
theorem Inv.lst {pins : List (Addr × Obj)} {σ : St} {H : Hp} {s : Shared} {p : Addr} {xs : List V} (I : Inv X pins σ H s) (h : H p = some (.lst xs)) :
    ∃ (its : List Value) (n : Nat), Vals xs its ∧ s.heap.get? p = some { cls := .type "list", data := .seq its.toArray n } ∧ xs.length ≤ sizeLine := by
  obtain ⟨z, its, n, r, e⟩ := I.hok p _ h
  exact ⟨its, n, r, e, z⟩

theorem Inv.lstUpd {pins : List (Addr × Obj)} {σ : St} {H : Hp} {s : Shared} {p : Addr} {xs ys : List V} {its its' : List Value} {n n' : Nat} {f : Obj → Obj} (I : Inv X pins σ H s) (h : H p = some (.lst xs))
    (ho : s.heap.get? p = some { cls := .type "list", data := .seq its.toArray n }) (hf : f { cls := .type "list", data := .seq its.toArray n } = { cls := .type "list", data := .seq its'.toArray n' }) (r : Vals ys its') (hz : ys.length ≤ sizeLine) (t : Nat) :
    Inv X pins σ (upd H p (.lst ys)) { s with heap := s.heap.update p f, toks := t } := by
  have e : (s.heap.update p f).get? p = some { cls := .type "list", data := .seq its'.toArray n' } := by
    rw [Heap.get?_update_self f ho (by rw [hf] <;> rfl), hf]
  refine I.write (x := p) (e := p) (by rw [h]; trivial) (.inl rfl) (fun b u hb q => (Heap.get?_update_other _ _ (Ne.symm hb)).trans q) ⟨_, e⟩ ?_
  exact ⟨hz, its', n', r, e⟩
noncomputable def rSetL : V → V → V → Hp → (Hp → Prop) → Prop := fun o i v H Q => ∃ p xs k j, o = .ref p ∧ i = .int k ∧ H p = some (.lst xs) ∧ ixN xs.length k = some j ∧ Q (upd H p (.lst (xs.set j v)))
theorem set_list : PSet X rSetL := by
  intro pins s σ H o i v ov iv u Q I ro ri rv h
  obtain ⟨p, xs, k, j, rfl, rfl, hp, hj, q⟩ := h
  cases ro
  obtain ⟨t, rfl⟩ := ri
  obtain ⟨its, n, r, ho, hz⟩ := I.lst hp
  obtain ⟨h1, h2, h3, h4⟩ := ixN_seq hj
  have hl := r.length
  have hn := line63
  have I' : Inv X pins σ (upd H p (.lst (xs.set j v))) { s with heap := s.heap.update p (Obj.mapSeq (·.setIfInBounds j u)) } :=
    I.lstUpd hp ho (mapSeq_set its n j u) (r.set rv j) (by rw [List.length_set]; exact hz) s.toks
  by_cases h0 : 0 ≤ k
  · have hk : k.toNat = j := by
      rw [seqIndex_of h0 h4] at h1
      exact Option.some.inj h1
    exact PySem.W.ki_setAt ho h0 (by omega) (by rw [List.size_toArray, ← hl]; exact h4) (by rw [hk]; exact ⟨_, I', q⟩)
  · have hk : (k + (its.toArray.size : Int)).toNat = j := by
      rw [seqIndex_neg (by omega) h3] at h1
      rw [List.size_toArray, ← hl]
      exact Option.some.inj h1
    exact PySem.W.ki_setBack ho (by omega) (by rw [List.size_toArray, ← hl]; exact h3) (by omega) (by rw [hk]; exact ⟨_, I', q⟩)


theorem slice_bounds (lo hi : Option Int) (n : Nat) : (sliceBounds lo hi none n).1 = ((HT.sIx n 0 lo : Nat) : Int) ∧ (sliceBounds lo hi none n).2.1 = ((HT.sIx n n hi : Nat) : Int) ∧ (sliceBounds lo hi none n).2.2 = 1 := by
  refine ⟨?_, ?_, rfl⟩
  · cases lo with
    | none => simp [sliceBounds, HT.sIx]
    | some i =>
      simp only [sliceBounds, HT.sIx, Option.getD_none, show (1 : Int) > 0 by decide, if_true]
      by_cases h : i < 0
      · simp only [h, if_true] <;> omega
      · simp only [h, if_false] <;> omega
  · cases hi with
    | none => simp [sliceBounds, HT.sIx]
    | some i =>
      simp only [sliceBounds, HT.sIx, Option.getD_none, show (1 : Int) > 0 by decide, if_true]
      by_cases h : i < 0
      · simp only [h, if_true] <;> omega
      · simp only [h, if_false] <;> omega
theorem slicePick_cut (its : List Value) (lo hi : Option Int) : slicePick its.toArray lo hi none = ((its.drop (HT.sIx its.length 0 lo)).take (HT.sIx its.length its.length hi - HT.sIx its.length 0 lo)).toArray := by
  obtain ⟨h1, h2, h3⟩ := slice_bounds lo hi its.toArray.size
  unfold slicePick
  rw [h1, h2, h3]
  simp only [sliceRange_one, pick_run, List.size_toArray] <;> rfl

noncomputable def rSlL (K : PySem.W.Frag) : V → Option Int → Option Int → Hp → VK → Prop := fun x lo hi H Q => ∃ a xs, x = .ref a ∧ SqL K H a xs ∧ ∀ p, H p = none → Q (.ref p) (upd H p (.lst (cutV xs lo hi)))
theorem sl_list : SlR X (rSlL X.K) := by
  intro pins s σ H x v vl vu lo hi sl Q I rx hs pl pu h
  obtain ⟨a, xs, rfl, hx, q⟩ := h
  cases rx
  obtain ⟨its, r, ht, hz⟩ := I.list hx
  have hlen := r.length
  refine ⟨"list", _, slot_list_getitem.lookup, ht.isList.typeIs, ?_⟩
  refine wpAny_getItem_list_slice ht.isList hs pl pu .none (by simp) ?_ (by rw [List.size_toArray] <;> omega)
  rw [slicePick_cut, ← hlen]
  refine ⟨.ref s.heap.objs.size, _, I.laid (t' := s.toks) (o := .lst (cutV xs lo hi)) (fun b ob q => Heap.get?_push_of_some _ q) (Nat.le_refl _) ?_, rfl, q _ (I.hok.fresh (Nat.le_refl _))⟩
  exact ⟨Nat.le_trans (cutV_length xs lo hi) hz, _, 0, (r.drop (HT.sIx xs.length 0 lo)).take (HT.sIx xs.length xs.length hi - HT.sIx xs.length 0 lo), Heap.get?_push_size _ rfl⟩


noncomputable def flatV : V → Bool
  | .non => true
  | .bl _ => true
  | .int _ => true
  | .str _ => true
  | _ => false

noncomputable def eqV : V → V → Bool
  | .non, .non => true
  | .bl a, .bl b => a == b
  | .bl a, .int b => (if a then 1 else 0) == b
  | .int a, .bl b => a == (if b then 1 else 0)
  | .int a, .int b => a == b
  | .str a, .str b => a == b
  | _, _ => false
theorem eqAt_V {A : Around} {s : Shared} {y x : V} {u v : Value} (ry : RelV y u) (rx : RelV x v) (fy : flatV y = true) (fx : flatV x = true) : SeqAt.EqAt A s u v (eqV y x) := by
  cases y with
  | non =>
    cases ry
    cases x with
    | non => cases rx; exact SeqAt.EqAt.same _
    | bl b => cases rx; exact SeqAt.EqAt.none_bool b
    | int b => obtain ⟨t, rfl⟩ := rx; exact SeqAt.EqAt.none_int b t
    | str b => obtain ⟨t, rfl⟩ := rx; exact SeqAt.EqAt.none_str b t
    | _ => exact absurd (show false = true from fx) Bool.false_ne_true
  | bl a =>
    cases ry
    cases x with
    | non => cases rx; exact SeqAt.EqAt.bool_none a
    | bl b => cases rx; exact SeqAt.EqAt.bool_bool a b
    | int b => obtain ⟨t, rfl⟩ := rx; exact SeqAt.EqAt.bool_int a b t
    | str b => obtain ⟨t, rfl⟩ := rx; exact SeqAt.EqAt.bool_str a b t
    | _ => exact absurd (show false = true from fx) Bool.false_ne_true
  | int a =>
    obtain ⟨t', rfl⟩ := ry
    cases x with
    | non => cases rx; exact SeqAt.EqAt.int_none a t'
    | bl b => cases rx; exact SeqAt.EqAt.int_bool a t' b
    | int b => obtain ⟨t, rfl⟩ := rx; exact SeqAt.EqAt.int_int a t' b t
    | str b => obtain ⟨t, rfl⟩ := rx; exact SeqAt.EqAt.int_str a t' b t
    | _ => exact absurd (show false = true from fx) Bool.false_ne_true
  | str a =>
    obtain ⟨t', rfl⟩ := ry
    cases x with
    | non => cases rx; exact SeqAt.EqAt.str_none a t'
    | bl b => cases rx; exact SeqAt.EqAt.str_bool a t' b
    | int b => obtain ⟨t, rfl⟩ := rx; exact SeqAt.EqAt.str_int a t' b t
    | str b => obtain ⟨t, rfl⟩ := rx; exact SeqAt.EqAt.str_str a t' b t
    | _ => exact absurd (show false = true from fx) Bool.false_ne_true
  | _ => exact absurd (show false = true from fy) Bool.false_ne_true

noncomputable def eqU (x : V) (u : Value) : Bool := match u with
  | .none => eqV .non x
  | .bool b => eqV (.bl b) x
  | .int i _ => eqV (.int i) x
  | .str z _ => eqV (.str z) x
  | _ => false
theorem eqU_of {x y : V} {u : Value} (r : RelV y u) (f : flatV y = true) : eqU x u = eqV y x := by
  cases y with
  | non => cases r; rfl
  | bl b => cases r; rfl
  | int i => obtain ⟨t, rfl⟩ := r; rfl
  | str z => obtain ⟨t, rfl⟩ := r; rfl
  | _ => exact absurd (show false = true from f) Bool.false_ne_true
theorem mem_eqAt {A : Around} {s : Shared} {x : V} {v : Value} (rx : RelV x v) (fx : flatV x = true) : ∀ {xs : List V} {us : List Value}, Vals xs us → xs.all flatV = true → ∀ u ∈ us, SeqAt.EqAt A s u v (eqU x u)
  | _, _, .nil, _ => fun u hu => by cases hu
  | y :: xs, u :: us, .cons r t, f => fun u' hu => by
    rw [List.all_cons, Bool.and_eq_true] at f
    rcases List.mem_cons.mp hu with rfl | hu
    · rw [eqU_of r f.1]; exact eqAt_V r rx f.1 fx
    · exact mem_eqAt rx fx t f.2 u' hu



theorem call_len_seq : CallR X (.builtin "len") (fun xs H Q => ∃ p ys, xs = [.ref p] ∧ (SqL X.K H p ys ∨ SqT X.K H p ys) ∧ Q (.int ys.length) H) := by
  intro pins s σ H xs us Q I r h
  obtain ⟨p, ys, rfl, hq, q⟩ := h
  obtain ⟨u, rfl, rx⟩ := vals1 r
  cases rx
  have hn := line63
  rcases hq with hq | hq
  · obtain ⟨its, r', pl, hz⟩ := I.list hq
    have hlen := r'.length
    exact Calls.call_len_list pl.isList (by simp only [List.size_toArray] <;> omega) ⟨.int ys.length, H, I.tok _, ⟨s.toks + 1, by rw [List.size_toArray, hlen]⟩, q⟩
  · obtain ⟨its, r', pl, hz⟩ := I.tuple hq
    have hlen := r'.length
    exact len_tuple pl (by simp only [List.size_toArray] <;> omega) ⟨.int ys.length, H, I.tok _, ⟨s.toks + 1, by rw [List.size_toArray, hlen]⟩, q⟩
theorem call_tuple_of : CallR X (.type "tuple") (fun xs H Q => ∃ p ys, xs = [.ref p] ∧ ((SqL X.K H p ys ∧ ∀ l, H l = none → Q (.ref l) (upd H l (.tup ys))) ∨ (SqT X.K H p ys ∧ Q (.ref p) H))) := by
  intro pins s σ H xs us Q I r h
  obtain ⟨p, ys, rfl, h⟩ := h
  obtain ⟨u, rfl, rx⟩ := vals1 r
  cases rx
  rcases h with ⟨hq, q⟩ | ⟨hq, q⟩
  · obtain ⟨its, r', pl, hz⟩ := I.list hq
    have hlen := r'.length
    refine call_tuple_list pl.isList (fun h' kp => ?_) (by simp only [List.size_toArray] <;> omega)
    have I1 : Inv X pins σ H { s with heap := h' } := I.kept (t' := s.toks) kp
    have I2 : Inv X pins σ (upd H h'.objs.size (.tup ys)) { s with heap := h'.push { cls := .type "tuple", data := .seq its.toArray } } :=
      I1.laid (t' := s.toks) (fun b o e => Heap.get?_push_of_some _ e) (Nat.le_refl _) (show ObjOk X.prog X.w _ _ _ (.tup ys) from ⟨hz, its, r', TupP.new _ _⟩)
    exact ⟨.ref h'.objs.size, _, I2, rfl, q _ (I1.hok.fresh (Nat.le_refl _))⟩
  · obtain ⟨its, r', pl, hz⟩ := I.tuple hq
    exact call_tuple_same pl ⟨.ref p, H, I, rfl, q⟩



noncomputable def tyV (K : PySem.W.Frag) (T : String) (x : V) (H : Hp) : Prop := match x with
  | .str _ => T = "str"
  | .int _ => T = "int"
  | .ref p => (T = "list" ∧ ∃ xs, SqL K H p xs) ∨ (T = "tuple" ∧ ∃ o, K.lookup p = some o ∧ o.cls = .type "tuple" ∧ o.dict = none) ∨
      (T = "dict" ∧ ((∃ kvs, H p = some (.dK kvs)) ∨ ∃ kvs, H p = some (.dT kvs))) ∨ (T = "set" ∧ ∃ S n, H p = some (.set S n))
  | _ => False
theorem tyV_is {pins : List (Addr × Obj)} {σ : St} {H : Hp} {s : Shared} {T : String} {x : V} {v : Value} (I : Inv X pins σ H s) (r : RelV x v) (ty : tyV X.K T x H) :
    s.TypeIs v T ∧ ∀ a, v = .ref a → ∃ ob, s.heap.get? a = some ob ∧ ob.dict = none := by
  cases x with
  | str z =>
    obtain ⟨t, rfl⟩ := r
    cases (show T = "str" from ty)
    exact ⟨typeIs_str s z t, fun _ e => nomatch e⟩
  | int i =>
    obtain ⟨t, rfl⟩ := r
    cases (show T = "int" from ty)
    exact ⟨typeIs_int s i t, fun _ e => nomatch e⟩
  | ref p =>
    cases r
    rcases ty with ⟨rfl, xs, hq⟩ | ⟨rfl, o, hk, hc, hd⟩ | ⟨rfl, hk⟩ | ⟨rfl, S, n, hk⟩
    · obtain ⟨its, _, pl, _⟩ := I.list hq
      refine ⟨pl.isList.typeIs, fun a e => ?_⟩
      cases e
      obtain ⟨o, n, e, c, hd, _⟩ := pl
      exact ⟨o, e, hd⟩
    · refine ⟨⟨o, I.kIn p o hk, hc⟩, fun a e => ?_⟩
      cases e
      exact ⟨o, I.kIn _ o hk, hd⟩
    · have z : ∃ o, s.heap.get? p = some o ∧ o.ExactDict := by
        rcases hk with ⟨kvs, hk⟩ | ⟨kvs, hk⟩
        · obtain ⟨_, _, _, _, o, _, _, e, ex, _⟩ := I.hok p _ hk
          exact ⟨o, e, ex⟩
        · obtain ⟨_, _, _, _, o, _, _, e, ex, _⟩ := I.hok p _ hk
          exact ⟨o, e, ex⟩
      obtain ⟨o, e, ex⟩ := z
      refine ⟨⟨o, e, ex.1⟩, fun a e2 => ?_⟩
      cases e2
      exact ⟨o, e, ex.2.1⟩
    · obtain ⟨o, _, _, _, e, ex, _⟩ := I.hok p _ hk
      refine ⟨⟨o, e, ex.1⟩, fun a e2 => ?_⟩
      cases e2
      exact ⟨o, e, ex.2.1⟩
  | _ => exact False.elim ty
noncomputable def tBM0 (K : PySem.W.Frag) (T : String) (r : V → List V → Hp → VK → Prop) (to : TE) : TE := fun σ H Q => to σ H fun x H1 => tyV K T x H1 ∧ r x [] H1 Q
noncomputable def tBM (K : PySem.W.Frag) (T : String) (r : V → List V → Hp → VK → Prop) (to : TE) (t : TA) : TE := fun σ H Q => to σ H fun x H1 => tyV K T x H1 ∧ t σ H1 fun xs H2 => r x xs H2 Q
variable {o e : Expr} {es : List Expr} {to : TE} {t : TA} {name : Str} {apos cpos : Pos} {T id : String} {r : V → List V → Hp → VK → Prop}
theorem pe_bm0 (pa : PlainAttrs T) (slot : Slot T name id) (hty : typeOf (.builtin id) = pure (.type "method_descriptor")) (hm : MtR X id r) (ho : PE X o to)
    (hbase : attributeBase o name X.env (eval o X.env) = eval o X.env := by rfl) (hline : (apos.endLine == cpos.line) = true := by rfl) : PE X (.Call (.Attribute o name apos) [] [] cpos) (tBM0 X.K T r to) := by
  intro pins s σ H Q I h
  refine wpAny_Call_method0_late hbase hline (thnE (ho pins s σ H _ I h) fun v s1 x H1 I1 r1 zz2 => ?_)
  obtain ⟨ty, q1⟩ := zz2
  obtain ⟨h1, h2⟩ := tyV_is I1 r1 ty
  exact ⟨T, id, pa, slot, hty, h1, h2, Calls.callWith_builtin rfl (PySem.evalArgs_none (hm pins s1 σ H1 x [] v [] Q I1 r1 .nil q1))⟩
theorem pe_bm (pa : PlainAttrs T) (slot : Slot T name id) (hty : typeOf (.builtin id) = pure (.type "method_descriptor")) (hm : MtR X id r) (ho : PE X o to) (ha : PA X (e :: es) t)
    (hbase : attributeBase o name X.env (eval o X.env) = eval o X.env := by rfl)
    (hfew : ((backTo cpos (starEach (e :: es) X.env)).all (fun x => !x.1) && (backToKw cpos (keywordEach [] X.env)).all (fun x => x.1.isSome)
      && decide ((e :: es).length + ([] : List Keyword).length + (if ([] : List Keyword).isEmpty then 0 else 1) < 30)) = true := by rfl)
    (hline : (apos.endLine == cpos.line) = true := by rfl) (hs : starEach (e :: es) X.env = (false, eval e X.env) :: starEach es X.env := by rfl) (hplain : (backTo cpos (starEach es X.env)).any (·.1) = false := by rfl) :
    PE X (.Call (.Attribute o name apos) (e :: es) [] cpos) (tBM X.K T r to t) := by
  intro pins s σ H Q I h
  refine wpAny_Call_method_late hbase hfew hline rfl (thnE (ho pins s σ H _ I h) fun v s1 x H1 I1 r1 zz3 => ?_)
  obtain ⟨ty, q1⟩ := zz3
  obtain ⟨h1, h2⟩ := tyV_is I1 r1 ty
  refine ⟨T, id, pa, slot, hty, h1, h2, ?_⟩
  have hA := ha cpos pins s1 σ H1 _ I1 q1
  rw [hs] at hA ⊢
  refine Calls.callWith_builtin (by show (false || (backTo cpos (starEach es X.env)).any (·.1)) = false; rw [hplain] <;> rfl) (Calls.evalArgs_plain ?_)
  exact thn hA fun us s2 ⟨vs, H2, I2, r2, q2⟩ => hm pins s2 σ H2 x vs v us Q I2 r1 r2 q2
/- xs.append(e), list.index on a module's tuple .. are MtR facts of 06m -/
end
end L2

namespace L2
open PySem PySem.Spec PyProof.Rows

noncomputable def MtM (X : Cx) (id : String) (r : V → List V → Hp → VK → Prop) : Prop :=
  ∀ (pins : List (Addr × Obj)) (s : Shared) (σ : St) (H : Hp) (x : V) (xs : List V) (v : Value) (us : List Value) (Q : VK), Inv X pins σ H s → RelV x v → Vals xs us → r x xs H Q →
    wpAny (model X.prog X.w) X.A (call (.builtin id) (v :: us)) (EP X pins σ Q) X.xe s


theorem Vals.one : ∀ {x : V} {us : List Value}, Vals [x] us → ∃ u, us = [u] ∧ RelV x u
  | _, _, .cons r .nil => ⟨_, rfl, r⟩
theorem Vals.zero : ∀ {us : List Value}, Vals [] us → us = []
  | _, .nil => rfl
theorem Vals.reverse {xs : List V} {us : List Value} (h : Vals xs us) : Vals xs.reverse us.reverse := by
  induction h with
  | nil => exact .nil
  | cons r t ih => rw [List.reverse_cons, List.reverse_cons]; exact Vals.append ih (.cons r .nil)

section
variable {X : Cx} {pins : List (Addr × Obj)} {σ : St} {H : Hp} {s : Shared} {l b : Addr} {xs ys zs : List V}


theorem Inv.lset {its its' : List Value} {n : Nat} {f : Array Value → Array Value} {t' : Nat} (I : Inv X pins σ H s) (hH : H l = some (.lst xs))
    (e : s.heap.get? l = some { cls := .type "list", data := .seq its.toArray n }) (hf : f its.toArray = its'.toArray) (hv : Vals ys its') (hz : ys.length ≤ sizeLine) :
    Inv X pins σ (upd H l (.lst ys)) { s with heap := s.heap.update l (Obj.mapSeq f), toks := t' } := by
  have q := PySem.IsL.update e f
  rw [hf] at q
  refine I.write (x := l) (e := l) (by rw [hH]; exact trivial) (.inl rfl) (fun b' u hb hu => (Heap.get?_update_other s.heap (Obj.mapSeq f) (Ne.symm hb)).trans hu) ⟨_, q⟩ ?_
  exact ⟨hz, its', _, hv, q⟩
theorem Inv.lnew {its : List Value} {t' : Nat} (I : Inv X pins σ H s) (hv : Vals ys its) (hz : ys.length ≤ sizeLine) :
    Inv X pins σ (upd H s.heap.objs.size (.lst ys)) { s with heap := s.heap.push { cls := .type "list", data := .seq its.toArray }, toks := t' } :=
  I.laid (fun _ _ q => Heap.get?_push_of_some _ q) (Nat.le_refl _) ⟨hz, its, 0, hv, Heap.get?_push_size _ rfl⟩
theorem Inv.fresh (I : Inv X pins σ H s) : H s.heap.objs.size = none := I.hok.fresh (Nat.le_refl _)
theorem Inv.lstM (I : Inv X pins σ H s) (hH : H l = some (.lst xs)) : xs.length ≤ sizeLine ∧ ∃ (its : List Value) (n : Nat), Vals xs its ∧ xs.length = its.length ∧ s.heap.get? l = some { cls := .type "list", data := .seq its.toArray n } := by
  obtain ⟨z, its, n, r, e⟩ := I.hok l _ hH
  exact ⟨z, its, n, r, r.length, e⟩

theorem notLongL {n : Nat} (h : n ≤ sizeLine) : Builtin.List.listTooLong n = false := by
  unfold Builtin.List.listTooLong
  exact decide_eq_false (by omega)
end

section
variable {X : Cx}


noncomputable def rAppend : V → List V → Hp → VK → Prop := fun x vs H Q => ∃ l xs y, x = .ref l ∧ vs = [y] ∧ H l = some (.lst xs) ∧ xs.length < sizeLine ∧ Q .non (upd H l (.lst (xs ++ [y])))
theorem mt_append : MtM X "list.append" rAppend := by
  intro pins s σ H x vs v us Q I rx rv h
  obtain ⟨l, xs, y, rfl, rfl, hH, hz, q⟩ := h
  cases rx
  obtain ⟨u, rfl, ru⟩ := rv.one
  obtain ⟨z, its, n, r, hl, e⟩ := I.lstM hH
  refine call_meets F.slot_list_append ⟨_, e, rfl⟩ F.entry_list_append (F.args_list_append_2 _ _) (PySem.list_append l its.toArray n u (by rw [List.size_toArray]; omega)) ⟨e, ?_⟩
  refine ⟨.non, _, I.lset (its' := its ++ [u]) hH e (by simp) (r.append (.cons ru .nil)) ?_, rfl, q⟩
  rw [List.length_append, List.length_singleton]
  omega

noncomputable def rExtend : V → List V → Hp → VK → Prop := fun x vs H Q => ∃ l b xs zs, x = .ref l ∧ vs = [.ref b] ∧ H l = some (.lst xs) ∧ H b = some (.lst zs) ∧ xs.length + zs.length ≤ sizeLine ∧ Q .non (upd H l (.lst (xs ++ zs)))
theorem mt_extend : MtM X "list.extend" rExtend := by
  intro pins s σ H x vs v us Q I rx rv h
  obtain ⟨l, b, xs, zs, rfl, rfl, hH, hB, hz, q⟩ := h
  cases rx
  obtain ⟨u, rfl, ru⟩ := rv.one
  cases ru
  obtain ⟨z, its, n, r, hl, e⟩ := I.lstM hH
  obtain ⟨z2, its2, n2, r2, hl2, e2⟩ := I.lstM hB
  have hsz : its.toArray.size + its2.toArray.size ≤ sizeLine := by rw [List.size_toArray, List.size_toArray]; omega
  have hlong : ¬ (!its.toArray.isEmpty && Builtin.List.listTooLong (its.toArray.size + its2.toArray.size)) = true := by
    rw [notLongL hsz, Bool.and_false]
    exact Bool.false_ne_true
  refine call_meets F.slot_list_extend ⟨_, e, rfl⟩ F.entry_list_extend (F.args_list_extend_2 _ _)
    (AutoSeq1.list_extend_list_list_0 l its.toArray n b its2.toArray n2 hlong (by rw [List.size_toArray]; omega) (by omega)) ⟨e, e2, ?_⟩
  refine ⟨.non, _, I.lset (its' := its ++ its2) hH e (by simp) (r.append r2) ?_, rfl, q⟩
  rw [List.length_append]
  omega



noncomputable def rReverse : V → List V → Hp → VK → Prop := fun x vs H Q => ∃ l xs, x = .ref l ∧ vs = [] ∧ H l = some (.lst xs) ∧ Q .non (upd H l (.lst xs.reverse))
theorem mt_reverse : MtM X "list.reverse" rReverse := by
  intro pins s σ H x vs v us Q I rx rv h
  obtain ⟨l, xs, rfl, rfl, hH, q⟩ := h
  cases rx
  have hus := rv.zero
  subst hus
  obtain ⟨z, its, n, r, hl, e⟩ := I.lstM hH
  refine call_meets F.slot_list_reverse ⟨_, e, rfl⟩ F.entry_list_reverse (F.args_list_reverse_1 _) (AutoSeq1.list_reverse_list_0 l its.toArray n (by rw [List.size_toArray]; omega)) ⟨e, ?_⟩
  refine ⟨.non, _, I.lset (its' := its.reverse) hH e (by simp) r.reverse ?_, rfl, q⟩
  rw [List.length_reverse]
  omega



noncomputable def rCat : R2 := fun x y H Q => ∃ l b xs zs, x = .ref l ∧ y = .ref b ∧ H l = some (.lst xs) ∧ H b = some (.lst zs) ∧ xs.length + zs.length ≤ sizeLine ∧ ∀ p, H p = none → Q (.ref p) (upd H p (.lst (xs ++ zs)))
theorem op_cat : OpR X (binaryOp .Add) rCat := by
  intro pins s σ H x y v u Q I rx ry h
  obtain ⟨l, b, xs, zs, rfl, rfl, hH, hB, hz, q⟩ := h
  cases rx
  cases ry
  obtain ⟨z, its, n, r, hl, e⟩ := I.lstM hH
  obtain ⟨z2, its2, n2, r2, hl2, e2⟩ := I.lstM hB
  refine PySem.P.add_list e e2 ?_ (by rw [List.size_toArray, List.size_toArray]; omega)
  have ea : its.toArray ++ its2.toArray = (its ++ its2).toArray := by simp
  rw [ea]
  exact ⟨.ref _, _, I.lnew (t' := s.toks) (r.append r2) (by rw [List.length_append]; omega), rfl, q _ I.fresh⟩



end


section
variable {prog : Program} {w : World} {A : Around} {E : Value → Shared → Prop} {s : Shared}
set_option maxRecDepth 100000 in
end

section
variable {X : Cx}
end
end L2

namespace Att
open PySem PySem.W PySem.Calls PyProof.Rows


theorem ints_of_wellAll {P : Params} {h : Heap} : ∀ (ns : List Int) (vs : List Value), WellAll P h vs (ns.map WData.int) → IntsAre vs ns := by
  intro ns
  induction ns with
  | nil =>
    intro vs w
    rw [List.map_nil] at w
    cases w
    exact .nil
  | cons n ns ih =>
    intro vs w
    rw [List.map_cons] at w
    cases w with
    | cons a b =>
      cases a
      exact .cons _ _ (ih _ b)

theorem script_of {l : OpenLaw} {n : Nat} (hn : l.most = some n) {P : Params} {h : Heap} {args : List WData} {vals : List Value}
    (hpre : l.row.toRowW.claim.pre args = true) (hwl : WellAll P h vals args) :
    ∃ a vs ns, vals = [Value.ref a] ∧ args = [WData.list (ns.map WData.int)] ∧ h.get? a = some { cls := .type "list", data := .seq vs.toArray } ∧ IntsAre vs ns ∧ ns.length ≤ n := by
  have hsh : WShape.hasAll [] args [.list .int] = true := (pre_splitW hpre).1
  have hc : l.pre.holds [] { args := args } = true := (pre_splitW hpre).2
  obtain ⟨d, r, rfl, h1, h2⟩ := hasAllW_cons hsh
  obtain rfl := hasAllW_nil h2
  obtain ⟨xs, rfl, h3⟩ := hasW_list h1
  obtain ⟨ns, rfl⟩ := items_int h3
  have hlen : ns.length ≤ n := by
    unfold OpenLaw.pre at hc
    have h4 : (WTm.not (.lt (.lit (.int (n : Int))) (.len (.arg 0)))).holds [] { args := [.list (ns.map .int)] } = true := by
      have h4 := (holds_andW hc).1
      rw [hn] at h4
      exact h4
    have h5 := condW_of h4 (w_not (w_lt w_lit (w_len_list (w_arg rfl))))
    rw [List.length_map] at h5
    refine Nat.le_of_not_lt fun q => ?_
    have q' : (n : Int) < ((ns.length : Nat) : Int) := by omega
    first
      | (rw [decide_eq_true q'] at h5; exact absurd h5 (by decide))
      | (simp at h5; omega)
  cases hwl with
  | cons w1 w2 =>
    cases w2
    cases w1 with
    | list ho hall => exact ⟨_, _, ns, rfl, rfl, ho, ints_of_wellAll ns _ hall, hlen⟩

theorem post_true (l : OpenLaw) (args : List WData) : l.row.toRowW.claim.post args (.bool true) args = true :=
  postW_of (r := l.row.toRowW) (X := (true == true))
    (show WShape.has [] (.bool true) .bool = true by first | rfl | decide | simp [WShape.has, WShape.arms, WShape.armsAll])
    (show (WTm.eq .res (.lit (.bool true))).value [] { args := args, res := some (.bool true), after := args } = some (.bool (true == true)) from w_eq_bool (w_res rfl) w_lit) rfl




theorem attach_call {l : OpenLaw} {n : Nat} {q : Program} {loose : List Str} {XP : (Str → Option Value) → Heap → Prop} {YP : World → Heap → Prop} {d : DefRec}
    (hn : l.most = some n) (hdf : d.params.defaults = [])
    (call : ∀ (w : World) (s₀ s₁ : Shared) (mg mb : Str → Option Value) (fa : Addr) (o : Obj) (pm cd doc : Value) (a : Addr) (vs : List Value) (ns : List Int),
      Ground q loose [] XP w s₀ mg mb s₁.heap → YP w s₁.heap →
      s₁.heap.get? fa = some o → o.data = .func (docDef d.name d.params d.body d.scope pm cd doc) → s₁.heap.CodeRec cd d.name → mg d.name = some (.ref fa) →
      s₁.heap.get? a = some { cls := .type "list", data := .seq vs.toArray } → IntsAre vs ns → ns.length ≤ n → s₁.gens = #[] →
      codeAny (model l.prog w) callerA (.call (.ref fa) ⟨[.ref a], []⟩) (fun r s' => r = .ok (.ret (.bool true)) ∧ OldK s₁.heap s'.heap ∧ s'.os = s₁.os ∧ AllBare s'.gens) s₁) :
    WalkO q loose XP YP l.row.toRowW d [] (fun f vs => PySem.call f vs) := by
  intro w s₀ s₁ mg mb G Y fa o pm cd doc dV kV ho hd hcd hD hmg hg args vals as hpre hlay hrd hwl hlo
  obtain rfl : dV = .none := Dflts.none hD hdf
  obtain rfl : kV = .none := Dflts.noKw hD
  obtain ⟨a, vs, ns, rfl, rfl, hobj, hints, hlen⟩ := script_of hn hpre hwl
  refine enter_call (codeAny_mono (call w s₀ s₁ mg mb fa o pm cd doc a vs ns G Y ho (fd_plain hd) hcd hmg hobj hints hlen hg) fun r s' hq => ?_)
  obtain ⟨rfl, h2, h3, h4⟩ := hq
  exact ⟨.inl ⟨.bool true, .bool true, [], rfl, fun _ => rfl, .bool true, post_true l _, fun _ => ⟨List.Pairwise.nil, fun _ hm => (nomatch hm)⟩⟩, h2, h3, h4⟩



section
variable {prog : Program} {w : World} {A : Around} {E : Value → Shared → Prop} {s : Shared} {K : Frag}







end
end Att

namespace L2
open PySem PySem.Spec PyProof.Rows

theorem vals_ints : ∀ {vs : List Value} {ns : List Int}, IntsAre vs ns → Vals (ns.map V.int) vs
  | _, _, .nil => .nil
  | _, _, .cons n t h => .cons ⟨t, rfl⟩ (vals_ints h)



end L2

namespace L2
open PySem PySem.Spec PyProof.Rows


end L2

/- THE LAST THEOREM (shape; LID, My.* are yours):
   My.Adr: a structure of the addresses that your layer names (classes, functions); My.Txt K t: a structure (Prop) of the equations over K;
   My.txt_mk : {K} {implicit addresses ..} (e1 : nsIn K mainGlobals "law" = some (some (.ref f))) (e2 : K.lookup f = some ⟨oc, od, .func (fnOf "law" "law" params body scope dV kV doc pm an cdv ct), sl⟩) (e3 : codeIn K cdv "law" = true) .. : ∃ t, My.Txt K t

set_option maxRecDepth 100000 in
set_option maxHeartbeats 0 in
(the tactic k_is has no namespace: write k_is) -/


namespace L2
open PySem PySem.Spec PyProof.Rows



noncomputable def defArgs (s : Stmt) : Arguments := match s with
  | .FunctionDef _ a _ _ _ _ _ _ _ _ => a
  | _ => { posonlyargs := [], args := [], vararg := none, kwonlyargs := [], kw_defaults := [], kwarg := none, defaults := [] }
noncomputable def defBody (s : Stmt) : List Stmt := match s with
  | .FunctionDef _ _ b _ _ _ _ _ _ _ => b
  | _ => []
noncomputable def defScope (s : Stmt) : Scope := match s with
  | .FunctionDef _ _ _ _ _ _ sc _ _ _ => sc
  | _ => { kind := .function, names := [], isGenerator := false, isCoroutine := false }


noncomputable abbrev CX0 : CXT := fun _ _ _ _ _ _ => False
noncomputable abbrev E0 : XK := fun _ _ _ => False
theorem pass0 {X : Cx} : Passes CX0 X E0 := fun _ _ _ _ _ _ _ h => h.elim


structure Fun (K : PySem.W.Frag) (x qual : Str) (st : Stmt) (f : Addr) (fd : FuncData) : Prop where
  ex : ∃ (oc : Value) (od : Option Addr) (kV doc pm : Value) (an : Option Addr) (cdv ct : Value) (osl : Array (Option Value)),
    fd = PySem.W.fnOf x qual (defArgs st) (defBody st) (defScope st) .none kV doc pm an cdv ct ∧ K.lookup f = some ⟨oc, od, .func fd, osl⟩ ∧ PySem.W.codeIn K cdv qual = true
  kp : PySem.W.keepIn K (.ref f) = true
section
variable {P : Program} {w : World} {K : PySem.W.Frag} {mg : Str → Option Value} {base : Heap}

theorem Fun.ok {x qual : Str} {st : Stmt} {f : Addr} {fd : FuncData} {N ps : List Str} {k : Nat} {sp : Sp} (F : Fun K x qual st f fd) (S : FnScope N ps (defScope st)) (len : ∀ vs H Q E, sp vs H Q E → vs.length = ps.length)
    (hbody : ∀ (cdv : Value) (A : Around) (outer : List Env) (s : Shared) (H : Hp) (vs : List V) (Q : VK) (E : XK), Room k (A.deeper (envOfC qual (defScope st) s.heap.objs.size f cdv)) → sp vs H Q E →
      ∃ t, PSs (cxOf CX0 P w K mg base N qual (defScope st) f cdv A outer s H E).nox (defBody st) t ∧ t { nx := fun _ H' => Q .non H', rt := Q } (start N vs) H) : FnOk P w K mg base CX0 (k + 1) f fd ps sp := by
  obtain ⟨oc, od, kV, doc, pm, an, cdv, ct, osl, rfl, lk, hcd⟩ := F.ex
  refine fn_of lk hcd S len fun A outer s H vs Q E hr hsp => ?_
  obtain ⟨t, h, q⟩ := hbody cdv A outer s H vs Q E hr hsp
  exact ⟨t, h.nox, q⟩

theorem Fun.binds {x qual : Str} {st : Stmt} {f : Addr} {fd : FuncData} {ps : List Str} (F : Fun K x qual st f fd)
    (h : ∀ (kV doc pm : Value) (an : Option Addr) (cdv ct : Value) (us : List Value), us.length = ps.length → bindArgs (PySem.W.fnOf x qual (defArgs st) (defBody st) (defScope st) .none kV doc pm an cdv ct) ⟨us, []⟩ = pure (ps.zip us)) : Binds K fd ps [] := by
  obtain ⟨oc, od, kV, doc, pm, an, cdv, ct, osl, rfl, lk, hcd⟩ := F.ex
  exact .all (h kV doc pm an cdv ct)
theorem fun_mk {x qual : Str} {st : Stmt} {f : Addr} {oc : Value} {od an : Option Addr} {osl : Array (Option Value)} {kV doc pm cdv ct : Value} (l : K.lookup f = some ⟨oc, od, .func (PySem.W.fnOf x qual (defArgs st) (defBody st) (defScope st) .none kV doc pm an cdv ct), osl⟩)
    (c : PySem.W.codeIn K cdv qual = true) (k : PySem.W.keepIn K (.ref f) = true) : Fun K x qual st f (PySem.W.fnOf x qual (defArgs st) (defBody st) (defScope st) .none kV doc pm an cdv ct) := ⟨⟨oc, od, kV, doc, pm, an, cdv, ct, osl, rfl, l, c⟩, k⟩
end
theorem small1000 {n : Nat} (h : n ≤ 1000) : n < sizeLine := Nat.lt_of_le_of_lt h (by decide)


section
variable {X : Cx}
theorem pv (i : Nat) {x : Str} {pos : Pos} (hN : X.N[i]? = some x := by rfl) (hv : Vis X.env.scope x := by first | exact Or.inl rfl | exact Or.inr (Or.inl rfl) | exact Or.inr (Or.inr rfl)) (hd : (x == ("__debug__" : Str)) = false := by decide)
    (hcd : (x == ("__classdict__" : Str)) = false := by decide) : PE X (.Name x pos) (tVar i) := pe_var hN hv hd hcd
end


theorem iteF {A B : Prop} (h : B) : if false = true then A else B := by
  rw [if_neg Bool.false_ne_true]
  exact h
theorem iteT {A B : Prop} (h : A) : if true = true then A else B := by
  rw [if_pos rfl]
  exact h
theorem ite2 {c A B : Prop} [Decidable c] (h1 : c → A) (h2 : ¬ c → B) : if c then A else B := by
  by_cases h : c
  · rw [if_pos h]
    exact h1 h
  · rw [if_neg h]
    exact h2 h



noncomputable def Same (H H' : Hp) : Prop := ∀ b o, H b = some o → H' b = some o
theorem Same.refl (H : Hp) : Same H H := fun _ _ h => h
theorem Same.trans {H H1 H2 : Hp} (a : Same H H1) (b : Same H1 H2) : Same H H2 := fun c o h => b c o (a c o h)
theorem Same.free {H H' : Hp} (e : Same H H') {l : Addr} (h : H' l = Option.none) : H l = Option.none := by
  cases q : H l with
  | none => rfl
  | some o =>
    rw [e l o q] at h
    cases h
theorem Same.seq {K : PySem.W.Frag} {H H' : Hp} {a : Addr} {xs : List V} (e : Same H H') (h : SqL K H a xs) : SqL K H' a xs := by
  rcases h with (h | ⟨o, h⟩) | h
  · exact .inl (.inl (e _ _ h))
  · exact .inl (.inr ⟨o, e _ _ h⟩)
  · exact .inr h

end L2


namespace L2
open PySem PySem.Spec PyProof.Rows


noncomputable def closOf (cells : List (Str × Addr)) : List (Str × NameKind) → List (Str × Addr) → List (Str × Addr)
  | [], cs => cs
  | (n, k) :: r, cs => closOf cells r (if (k == .free) = true then (match cells.lookup n with | some a => (n, a) :: cs | none => cs) else cs)
theorem closOf_good {cells : List (Str × Addr)} : ∀ (names : List (Str × NameKind)) (cs : List (Str × Addr)), (∀ x c, cs.lookup x = some c → cells.lookup x = some c) →
    ∀ x c, (closOf cells names cs).lookup x = some c → cells.lookup x = some c
  | [], _, h => h
  | (n, k) :: r, cs, h => by
    refine closOf_good r _ fun x c e => ?_
    split at e
    · split at e
      · rename_i a ha
        rw [List.lookup_cons] at e
        split at e
        · rename_i hx
          have hx' : x = n := by simpa using hx
          subst hx'
          cases e
          exact ha
        · exact h x c e
      · exact h x c e
    · exact h x c e
theorem closOf_keep {cells : List (Str × Addr)} : ∀ (names : List (Str × NameKind)) (cs : List (Str × Addr)) (x : Str), (cs.lookup x).isSome = true → ((closOf cells names cs).lookup x).isSome = true
  | [], _, _, h => h
  | (n, k) :: r, cs, x, h => by
    refine closOf_keep r _ x ?_
    split
    · split
      · rw [List.lookup_cons]
        split
        · rfl
        · exact h
      · exact h
    · exact h
theorem closOf_has {cells : List (Str × Addr)} : ∀ (names : List (Str × NameKind)) (cs : List (Str × Addr)) (x : Str), (x, NameKind.free) ∈ names → (cells.lookup x).isSome = true → ((closOf cells names cs).lookup x).isSome = true
  | [], _, _, h, _ => by cases h
  | (n, k) :: r, cs, x, h, hc => by
    rcases List.mem_cons.mp h with e | h
    · cases e
      refine closOf_keep r _ _ ?_
      obtain ⟨a, ha⟩ := Option.isSome_iff_exists.mp hc
      rw [if_pos (by rfl), ha]
      simp
    · exact closOf_has r _ x h hc
theorem closureFor_eq {scope : Scope} {env : Env} (h : ∀ x ∈ scope.names, x.2 = .free → ∃ c, env.cells.lookup x.1 = some c) : closureFor scope env = pure (closOf env.cells scope.names []) := by
  have key : ∀ (l : List (Str × NameKind)) (cs : List (Str × Addr)), (∀ x ∈ l, x.2 = .free → ∃ c, env.cells.lookup x.1 = some c) →
      (forIn l cs fun (x : Str × NameKind) (r : List (Str × Addr)) => (match x with | (name, kind) => if (kind == NameKind.free) = true then (do let a ← cellOf env name; pure (ForInStep.yield ((name, a) :: r)) : Sem (ForInStep (List (Str × Addr)))) else pure (ForInStep.yield r))) = (pure (closOf env.cells l cs) : Sem (List (Str × Addr))) := by
    intro l
    induction l with
    | nil => intro cs _; rfl
    | cons x r ih =>
      intro cs hx
      obtain ⟨n, k⟩ := x
      have ih' := fun cs => ih cs fun y hy => hx y (List.mem_cons_of_mem _ hy)
      rw [List.forIn_cons]
      unfold closOf
      by_cases hk : (k == NameKind.free) = true
      · obtain ⟨c, hc⟩ := hx (n, k) List.mem_cons_self (by simpa using hk)
        dsimp only at hc
        simp only [hk, if_true, cellOf, hc]
        exact ih' _
      · simp only [hk, Bool.false_eq_true, if_false]
        exact ih' _
  have e := key scope.names [] h
  show (do let r ← forIn scope.names [] _; pure r) = _
  refine Eq.trans (congrArg (fun m : Sem (List (Str × Addr)) => m >>= fun r => pure r) e) ?_
  rfl

theorem lookup_relabel {env : Env} : ∀ {names : List (Str × NameKind)} {x : Str}, (∀ y ∈ names, y.2 ≠ NameKind.cell) →
    (names.map fun (n, k) => if (k == NameKind.free && env.scope.kind == .function && env.kindOf n == some .cell) then (n, NameKind.cell) else (n, k)).lookup x = some .cell ∨
    (names.map fun (n, k) => if (k == NameKind.free && env.scope.kind == .function && env.kindOf n == some .cell) then (n, NameKind.cell) else (n, k)).lookup x = some .free → names.lookup x = some .free
  | [], _, _, h => by simp at h
  | (n, k) :: r, x, hn, h => by
    have ih := @lookup_relabel env r x fun y hy => hn y (List.mem_cons_of_mem _ hy)
    have hk : k ≠ NameKind.cell := hn (n, k) List.mem_cons_self
    by_cases hx : (x == n) = true
    · simp only [List.map_cons, List.lookup_cons] at h ⊢
      simp only [hx]
      by_cases hc : (k == NameKind.free && env.scope.kind == .function && env.kindOf n == some .cell) = true
      · have : k = NameKind.free := by
          simp only [Bool.and_eq_true] at hc
          simpa using hc.1.1
        rw [this]
      · simp only [hc, List.lookup_cons, Bool.false_eq_true, if_false, hx] at h
        rcases h with h | h
        · exact absurd (Option.some.inj h) hk
        · exact h
    · have hx' : (x == n) = false := by simpa using hx
      simp only [List.map_cons, List.lookup_cons] at h ⊢
      simp only [hx']
      refine ih ?_
      by_cases hc : (k == NameKind.free && env.scope.kind == .function && env.kindOf n == some .cell) = true
      · simpa only [hc, List.lookup_cons, if_true, hx'] using h
      · simpa only [hc, List.lookup_cons, Bool.false_eq_true, if_false, hx'] using h
theorem lookup_relabel_free {env : Env} : ∀ {names : List (Str × NameKind)} {x : Str}, names.lookup x = some .free →
    (names.map fun (n, k) => if (k == NameKind.free && env.scope.kind == .function && env.kindOf n == some .cell) then (n, NameKind.cell) else (n, k)).lookup x = some .cell ∨
    (names.map fun (n, k) => if (k == NameKind.free && env.scope.kind == .function && env.kindOf n == some .cell) then (n, NameKind.cell) else (n, k)).lookup x = some .free
  | [], _, h => by simp at h
  | (n, k) :: r, x, h => by
    have ih := @lookup_relabel_free env r x
    by_cases hx : (x == n) = true
    · simp only [List.lookup_cons, hx] at h
      simp only [List.map_cons, List.lookup_cons]
      by_cases hc : (k == NameKind.free && env.scope.kind == .function && env.kindOf n == some .cell) = true
      · simp only [hc, List.lookup_cons, if_true, hx]
        exact .inl trivial
      · simp only [hc, List.lookup_cons, Bool.false_eq_true, if_false, hx]
        exact .inr h
    · have hx' : (x == n) = false := by simpa using hx
      simp only [List.lookup_cons, hx'] at h
      simp only [List.map_cons, List.lookup_cons]
      by_cases hc : (k == NameKind.free && env.scope.kind == .function && env.kindOf n == some .cell) = true
      · simp only [hc, List.lookup_cons, if_true, hx']
        exact ih h
      · simp only [hc, List.lookup_cons, Bool.false_eq_true, if_false, hx']
        exact ih h


noncomputable abbrev compCx (X : Cx) (scope : Scope) (N : List Str) (C : Addr) (s₃ : Shared) (H₃ : Hp) (fp : List Addr) : Cx where
  prog := X.prog
  w := X.w
  K := X.K
  mg := X.mg
  base := X.base
  A := X.A
  N := N
  s₀ := s₃
  H₀ := H₃
  env := compEnvC scope (closOf X.env.cells scope.names []) C X.env
  outer := X.stack
  stack := X.stack
  ex := fp
  fn := fun _ => false
  calm := X.calm
  pn := []
  xe := fun _ _ => False

noncomputable def cst (js : List (Option Nat)) (σ : St) : St := js.map fun j => match j with
  | none => none
  | some k => σ.getD k none
noncomputable def jsOk (M : List Str) (names : List (Str × NameKind)) : List Str → List (Option Nat) → Bool
  | [], [] => true
  | x :: N, j :: js => (match j with
    | none => true
    | some k => M[k]? == some x && names.lookup x == some .free) && jsOk M names N js
  | _, _ => false
theorem jsOk_length {M : List Str} {names : List (Str × NameKind)} : ∀ {N : List Str} {js : List (Option Nat)}, jsOk M names N js = true → js.length = N.length
  | [], [], _ => rfl
  | x :: N, j :: js, h => by
    unfold jsOk at h
    rw [Bool.and_eq_true] at h
    simp [jsOk_length h.2]
  | [], _ :: _, h => by cases h
  | _ :: _, [], h => by cases h
theorem jsOk_get {M : List Str} {names : List (Str × NameKind)} : ∀ {N : List Str} {js : List (Option Nat)}, jsOk M names N js = true → ∀ (i : Nat) (k : Nat) (x : Str), js[i]? = some (some k) → N[i]? = some x → M[k]? = some x ∧ names.lookup x = some .free
  | [], [], _ => fun i k x e _ => by simp at e
  | y :: N, j :: js, h => fun i k x e1 e2 => by
    unfold jsOk at h
    rw [Bool.and_eq_true] at h
    cases i with
    | zero =>
      simp at e1 e2
      subst e1
      subst e2
      have h1 := h.1
      simp only [Bool.and_eq_true] at h1
      exact ⟨by simpa using h1.1, by simpa using h1.2⟩
    | succ i => exact jsOk_get h.2 i k x (by simpa using e1) (by simpa using e2)
  | [], _ :: _, h => by cases h
  | _ :: _, [], h => by cases h
noncomputable def compOk (M : List Str) (around scope : Scope) (N : List Str) (js : List (Option Nat)) : Bool :=
  (scope.kind == .function) && (scope.names.all fun x => !(x.2 == .cell)) && (scope.names.all fun x => !(x.2 == .local) || scope.names.lookup x.1 == some .local) &&
  (scope.names.all fun x => !(x.2 == .free) || (around.names.lookup x.1 == some .cell || around.names.lookup x.1 == some .free)) && jsOk M scope.names N js
structure CompOk (M : List Str) (around scope : Scope) (N : List Str) (js : List (Option Nat)) : Prop where
  kind : scope.kind = .function
  nocell : ∀ x ∈ scope.names, x.2 ≠ .cell
  locs : ∀ x ∈ scope.names, x.2 = .local → scope.names.lookup x.1 = some .local
  frees : ∀ x ∈ scope.names, x.2 = .free → around.names.lookup x.1 = some .cell ∨ around.names.lookup x.1 = some .free
  js : jsOk M scope.names N js = true
theorem CompOk.of {M : List Str} {around scope : Scope} {N : List Str} {js : List (Option Nat)} (h : compOk M around scope N js = true) : CompOk M around scope N js := by
  unfold compOk at h
  simp only [Bool.and_eq_true, List.all_eq_true] at h
  obtain ⟨⟨⟨⟨h1, h2⟩, h3⟩, h4⟩, h5⟩ := h
  refine ⟨by simpa using h1, fun x hx e => ?_, fun x hx e => ?_, fun x hx e => ?_, h5⟩
  · have := h2 x hx
    rw [e] at this
    cases this
  · have := h3 x hx
    rw [e] at this
    simpa using this
  · have := h4 x hx
    rw [e] at this
    simpa using this

noncomputable def Ext (σ σ' : St) : Prop := σ.length = σ'.length ∧ ∀ (i : Nat) v, σ[i]? = some (some v) → σ'[i]? = some (some v)
theorem Ext.set {σ : St} {i : Nat} {v : V} (h : σ[i]? = some none) : Ext σ (σ.set i (some v)) := by
  refine ⟨by simp, fun j w e => ?_⟩
  by_cases hj : i = j
  · subst hj
    rw [h] at e
    cases e
  · rw [List.getElem?_set_ne hj]
    exact e

noncomputable def PTs (X : Cx) (ifs : List Expr) (t : TT) : Prop :=
  ∀ (pins : List (Addr × Obj)) (s : Shared) (σ : St) (H : Hp) (Q : Bool → Hp → Prop), Inv X pins σ H s → t σ H Q →
    wpAny (model X.prog X.w) X.A (forIn ifs true fun c r => if r = true then do let ok ← isTrue c X.env (eval c X.env); pure (ForInStep.yield ok) else pure (ForInStep.yield r)) (TP X pins σ Q) X.xe s
noncomputable def tYes : TT := fun _ H Q => Q true H
theorem pts_nil {X : Cx} : PTs X [] tYes := fun _ _ _ H _ I h => wpAny_pure ⟨H, I, h⟩
theorem pts_one {X : Cx} {c : Expr} {t : TT} (h : PT X c t) : PTs X [c] t := fun pins s σ H Q I hw => by
  simp only [List.forIn_cons, List.forIn_nil, if_true]
  exact wpAny_bind (wpAny_bind (wpAny_mono (h pins s σ H Q I hw) (fun b s' hb => wpAny_pure (wpAny_pure hb)) fun _ _ x => x))

noncomputable def tBlock (js : List (Option Nat)) (g : TG) (tc : TT) (te : TE) (σ : St) (R : VK) (J : It) (H1 : Hp) : Prop := ∀ D, H1 D = none → ∃ W : Nat → Nat → List V → Hp → Prop, (∃ m, W 0 m [] (upd H1 D (.lst []))) ∧
  ∀ i m ys H2, W i m ys H2 → H2 D = some (.lst ys) → (J.stop i H2 ∧ R (.ref D) H2) ∨ (J.go i H2 ∧ ∀ x H3, J.yld i H2 x H3 → g x (cst js σ) H3 fun σ2 H4 => Ext (cst js σ) σ2 ∧ tc σ2 H4 fun c H5 =>
    if c = true then te σ2 H5 fun y H6 => H6 D = some (.lst ys) ∧ ys.length < sizeLine ∧ ∃ m', m' < m ∧ W (i + 1) m' (ys ++ [y]) (upd H6 D (.lst (ys ++ [y]))) else H5 D = some (.lst ys) ∧ ∃ m', m' < m ∧ W (i + 1) m' ys H5)
noncomputable def tComp (js : List (Option Nat)) (wi : TI) (g : TG) (tc : TT) (te : TE) : TE := fun σ H Q => wi σ H fun J H1 => tBlock js g tc te σ Q J H1

section
variable {prog : Program} {w : World} {A : Around} {R : Result → Shared → Prop} {s : Shared}
theorem codeAny_compLoop_go {elt target iter : Expr} {ifs : List Expr} {scope : Scope} {pos : Pos} {it acc : Value} {env : Env} (I : Nat → Shared → Prop)
    (turn : ∀ n s, I n s → wpAny (model prog w) A (pyNext it) (fun r s₁ => match r with
      | none => R (.ok .next) s₁
      | some v => wpAny (model prog w) A (letOwnedTupleGo target it v) (fun _ s₁' => wpAny (model prog w) A (assign target env v) (fun _ s₂ =>
          wpAny (model prog w) A (forIn ifs true fun c r => if r = true then do let ok ← isTrue c env (eval c env); pure (ForInStep.yield ok) else pure (ForInStep.yield r)) (fun ok s₃ =>
            if ok = true then wpAny (model prog w) A (eval elt env) (fun x s₄ =>
              wpAny (model prog w) A (call (.builtin "list.append") [acc, x]) (fun _ s₅ => ∃ m, m < n ∧ I m s₅) (fun _ _ => False) s₄) (fun _ _ => False) s₃
            else ∃ m, m < n ∧ I m s₃) (fun _ _ => False) s₂) (fun _ _ => False) s₁') (fun _ _ => False) s₁) (fun _ _ => False) s)
    (n : Nat) (h : I n s) :
    codeAny (model prog w) A (.compLoop (.ListComp elt [⟨target, iter, ifs, 0⟩] scope pos) 0 it acc env) R s := by
  refine codeAny_loop rfl I (fun n s hI => ?_) n h
  show wpAny _ A ((compTurn (.ListComp elt [⟨target, iter, ifs, 0⟩] scope pos) 0 it acc env).onRaise (fun x => do noteFrame x env; theTreesLotGoes x)) _ _ s
  refine wpAny_noted ?_
  rw [compTurn_list]
  have up : ∀ {α : Type} {t : Sem α} {Q : α → Shared → Prop} {s : Shared}, wpAny (model prog w) A t Q (fun _ _ => False) s →
      wpAny (model prog w) A t Q (notedBy (model prog w) A env fun e s' => R (.error e) s') s := fun h => wpAny_mono h (fun _ _ x => x) fun _ _ z => False.elim z
  refine wpAny_bind (wpAny_standAt (wpAny_bind (wpAny_mono (up (turn n s hI)) (fun r s₁ h₁ => ?_) fun _ _ h' => h')))
  cases r with
  | none => exact wpAny_pure h₁
  | some v =>
    refine wpAny_bind (wpAny_mono (up h₁) (fun _ s₁' h₁' => ?_) fun _ _ h' => h')
    refine wpAny_bind (wpAny_mono (up h₁') (fun _ s₂ h₂ => wpAny_bind (wpAny_mono (up h₂) (fun ok s₃ h₃ => ?_) fun _ _ h' => h')) fun _ _ h' => h')
    cases ok with
    | false => exact wpAny_pure ⟨rfl, h₃⟩
    | true =>
      exact wpAny_bind (wpAny_bind (wpAny_mono (up h₃) (fun x s₄ h₄ => wpAny_bind (wpAny_mono (up h₄) (fun _ s₅ h₅ => wpAny_pure (wpAny_pure ⟨rfl, h₅⟩)) fun _ _ h' => h')) fun _ _ h' => h'))
end

section
variable {X : Cx} {elt iter tg : Expr} {ifs : List Expr} {scope : Scope} {pos cpos : Pos} {N : List Str} {js : List (Option Nat)} {wi : TI} {g : TG} {tc : TT} {te : TE}
theorem comp_run {use : Option (Value → Sem Unit)} (hok : CompOk X.N X.env.scope scope N js) (hc : X.calm = true) (hi : PI X tg iter wi)
    (hg : ∀ C s₃ H₃ fp, PG (compCx X scope N C s₃ H₃ fp) tg g) (ht : ∀ C s₃ H₃ fp, PTs (compCx X scope N C s₃ H₃ fp) ifs tc) (he : ∀ C s₃ H₃ fp, PE (compCx X scope N C s₃ H₃ fp) elt te)
    {pins : List (Addr × Obj)} {s : Shared} {σ : St} {H : Hp} {R : VK} {Q : Value → Shared → Prop} (I : Inv X pins σ H s) (h : tComp js wi g tc te σ H R)
    (hend : ∀ C D s' H', Inv X pins σ H' s' → R (.ref D) H' → (∃ m, s'.heap.Ns C m) → FpOk X pins H' C → compPost (model X.prog X.w) X.A X.xe use Q (.ref D) C (.ok .next) s')
    (hs : ∀ x, foldedSetIterable iter X.env x = pure x := by intro _; rfl) :
    wpAny (model X.prog X.w) X.A (comprehension (.ListComp elt [⟨tg, iter, ifs, 0⟩] scope pos) scope X.env cpos (newList []) false (eval iter X.env) use) Q X.xe s := by
  have hcells : ∀ x ∈ scope.names, x.2 = .free → ∃ c, X.env.cells.lookup x.1 = some c := fun x hx e => I.ok.has x.1 (hok.frees x hx e)
  refine wpAny_comprehension_free (use := use) rfl hs (closureFor_eq hcells) hok.kind hok.locs ?_
  refine thn (hi pins s σ H _ I h) fun xv s1 h1 => thn h1 fun itv s2 h2 => ?_
  obtain ⟨it, fp, tn, J, H2, e, I2, T, st2, f2, hR⟩ := h2
  subst e
  refine wpAny_newObj_type ?_
  obtain ⟨W, ⟨m0, w0⟩, turn⟩ := hR s2.heap.objs.size I2.fresh
  have I3 : Inv X pins σ (upd H2 s2.heap.objs.size (.lst [])) { s2 with heap := s2.heap.push { cls := .type "list", dict := none, data := .seq ([] : List Value).toArray } } := I2.lnew (t' := s2.toks) .nil (Nat.zero_le _)
  have lt2 : ∀ b ∈ fp, b < s2.heap.objs.size := fun b hb => by
    obtain ⟨o, ho, _⟩ := T.obj _ _ st2 b hb
    exact Heap.lt_size ho
  have st3 : tn 0 (s2.heap.push { cls := .type "list", dict := none, data := .seq ([] : List Value).toArray }) := T.keep _ _ _ st2 fun b _ o e => Heap.get?_push_of_some _ e
  have lt3 : ∀ b ∈ fp, b < (s2.heap.push { cls := .type "list", dict := none, data := .seq ([] : List Value).toArray }).objs.size := fun b hb => by
    rw [Heap.size_push]
    exact Nat.lt_succ_of_lt (lt2 b hb)
  have fr3 : ∀ b ∈ fp, upd H2 s2.heap.objs.size (.lst []) b = none := fun b hb => by
    rw [upd_ne (Nat.ne_of_lt (lt2 b hb))]
    exact (f2 b hb).1
  have hD3 : upd H2 s2.heap.objs.size (.lst []) s2.heap.objs.size = some (.lst []) := upd_same
  generalize hs3 : ({ s2 with heap := s2.heap.push { cls := .type "list", dict := none, data := .seq ([] : List Value).toArray } } : Shared) = s3 at I3 ⊢
  have eh3 : s3.heap = s2.heap.push { cls := .type "list", dict := none, data := .seq ([] : List Value).toArray } := by rw [← hs3]
  rw [← eh3] at st3 lt3
  generalize upd H2 s2.heap.objs.size (.lst []) = H3 at I3 w0 fr3 hD3
  generalize s2.heap.objs.size = D at turn hD3 ⊢
  refine wpAny_newFunctionEnv hok.nocell (by intro y hy; simp at hy) (fun h4 ns4 sb4 => ?_) hok.kind
  have old : ∀ b o, s3.heap.get? b = some o → h4.get? b = some o := fun b o e => sb4.extBut b o (Nat.ne_of_lt (Heap.lt_size e)) (Heap.get?_push_of_some _ e)
  have good := closOf_good (cells := X.env.cells) scope.names [] (fun x c e => by simp at e)
  have hasc : ∀ x, scope.names.lookup x = some .free → ∃ c, (closOf X.env.cells scope.names []).lookup x = some c := fun x e => by
    have hm := PySem.mem_of_lookup e
    obtain ⟨c, hc⟩ := hcells _ hm rfl
    exact Option.isSome_iff_exists.mp (closOf_has scope.names [] x hm (by rw [hc]; rfl))
  have I4 : Inv (compCx X scope N s3.heap.objs.size s3 H3 fp) [] (cst js σ) H3 { s3 with heap := h4, toks := s3.toks + ([] : List (Str × Value)).length } := by
    refine ⟨⟨I3.mod, hok.kind, I3.ok.glob, I3.ok.blt, Nat.le_refl _, fun x y c e1 e2 => I3.ok.inj x y c (good x c e1) (good y c e2), fun x hx => hasc x (lookup_relabel hok.nocell hx), (fun x c e => by cases e), I3.ok.hd, I3.ok.frames, .inl rfl, fun b hb => ⟨Nat.ne_of_lt (lt3 b hb), fun x c e => (f2 b hb).2.2.2.2.1 x c (good x c e)⟩,
        fun b o e => I3.bs b o e, Nat.le_trans I3.ok.bsz I3.sz, fun b o e hb => ?_, fun b hb z => ?_, I3.stack, I3.stkFree⟩,
      rfl, I3.bare, Un.kept old, ⟨_, ns4, fun i x v e1 e2 e3 => ?_⟩, fun x c e => ?_, I3.fresh, fun x c e => I3.freeC x c (good x c e), (fun p hp => by cases hp), I3.hok.kept old, ?_⟩
    · rcases (f2 b hb).2.2.2.1 with z | z
      · exact I3.ok.noex b o e z
      · exact absurd (Nat.lt_of_lt_of_le (Heap.lt_size e) (Nat.le_trans I3.ok.bsz z)) (Nat.lt_irrefl _)
    · rcases List.mem_cons.mp (I3.stkSub b z) with z | z
      · exact (f2 b hb).2.1 z
      · exact (f2 b hb).2.2.1 z
    · have e2' : (js.map fun j => match j with | none => (none : Option V) | some k => σ.getD k none)[i]? = some (some v) := e2
      rw [List.getElem?_map] at e2'
      cases ej : js[i]? with
      | none => rw [ej] at e2'; cases e2'
      | some j =>
        rw [ej] at e2'
        cases j with
        | none => cases e2'
        | some k =>
          have eσ : σ.getD k none = some v := Option.some.inj e2'
          obtain ⟨hk, hfr⟩ := jsOk_get hok.js i k x ej e1
          have eσ' : σ[k]? = some (some v) := by
            rw [List.getD_eq_getElem?_getD] at eσ
            cases ek : σ[k]? with
            | none => rw [ek] at eσ; cases eσ
            | some o => rw [ek] at eσ; simp at eσ; rw [eσ]
          have hvis := hok.frees _ (PySem.mem_of_lookup hfr) rfl
          obtain ⟨m, hn, hl⟩ := I3.loc
          obtain ⟨u, r, l⟩ := hl k x v hk eσ' (.inr hvis)
          refine ⟨u, r, .inr ⟨lookup_relabel_free hfr, ?_⟩⟩
          rcases l with ⟨l, _⟩ | ⟨_, c, ec, z⟩
          · rcases hvis with q | q
            · exact absurd (l.symm.trans q) (by decide)
            · exact absurd (l.symm.trans q) (by decide)
          · obtain ⟨c', ec'⟩ := hasc x hfr
            have := good x c' ec'
            rw [ec] at this
            cases this
            exact ⟨c, ec', z.keeps old⟩
    · obtain ⟨v, z⟩ := I3.cell x c (good x c e)
      exact ⟨v, z.keeps old⟩
    · show (js.map _).length = N.length
      rw [List.length_map]
      exact jsOk_length hok.js
  have st4 : tn 0 h4 := T.keep _ _ _ st3 fun b _ o e => old b o e
  have stat : ∀ {H' : Hp}, (∀ b ∈ fp, H' b = none) → ∀ b ∈ fp, FpOk (compCx X scope N s3.heap.objs.size s3 H3 fp) [] H' b := fun hn b hb =>
    ⟨hn b hb, Nat.ne_of_lt (lt3 b hb), fun z => (List.mem_cons.mp (I3.stkSub b z)).elim (f2 b hb).2.1 (f2 b hb).2.2.1, .inl hb, fun x c e => (f2 b hb).2.2.2.2.1 x c (good x c e), (fun p hp => by cases hp)⟩
  have fin : ∀ {i m : Nat} {ys : List V} {H5 : Hp} {s6 : Shared}, Inv (compCx X scope N s3.heap.objs.size s3 H3 fp) [] (cst js σ) H5 s6 → R (.ref D) H5 → compPost (model X.prog X.w) X.A X.xe use Q (.ref D) s3.heap.objs.size (.ok .next) s6 := fun {i m ys H5 s6} I6 q => by
    obtain ⟨m6, hn6, _⟩ := I6.loc
    refine hend _ _ _ H5 (I3.call' I6.os I6.base I6.hok I6.bare fun b hb => ⟨(f2 b hb).2.2.2.1, (f2 b hb).2.1, (f2 b hb).2.2.2.2.1, (f2 b hb).2.2.2.2.2⟩) q ⟨m6, hn6⟩ (I3.fpOk (Nat.le_refl _) I6.free)
  have loop : codeAny (model X.prog X.w) X.A (.compLoop (.ListComp elt [⟨tg, iter, ifs, 0⟩] scope pos) 0 (.ref it) (.ref D) (compCx X scope N s3.heap.objs.size s3 H3 fp).env)
      (compPost (model X.prog X.w) X.A X.xe use Q (.ref D) s3.heap.objs.size) { s3 with heap := h4, toks := s3.toks + ([] : List (Str × Value)).length } := by
    refine codeAny_compLoop_go (fun n s' => ∃ i ys H', Inv (compCx X scope N s3.heap.objs.size s3 H3 fp) [] (cst js σ) H' s' ∧ tn i s'.heap ∧ (∀ b ∈ fp, H' b = none) ∧ H' D = some (.lst ys) ∧ W i n ys H') ?_ m0 ⟨0, [], H3, I4, st4, fr3, hD3, w0⟩
    rintro n s5 ⟨i, ys, H5, I5, st5, fr5, hD5, w5⟩
    rcases turn i n ys H5 w5 hD5 with ⟨stop, q⟩ | ⟨go, step⟩
    · refine thn (T.done (compCx X scope N s3.heap.objs.size s3 H3 fp) rfl rfl rfl hc i [] s5 (cst js σ) H5 _ I5 (stat fr5) st5 stop) fun r s6 ⟨hr, I6⟩ => ?_
      subst hr
      exact fin (i := i) (m := n) (ys := ys) I6 q
    · refine thn (T.item (compCx X scope N s3.heap.objs.size s3 H3 fp) rfl rfl rfl hc i [] s5 (cst js σ) H5 _ I5 (stat fr5) st5 go) fun r s6 ⟨u, hr, h6⟩ => ?_
      subst hr
      refine thn h6 fun _ s7 ⟨x, H7, I7, r7, y7, st7, fr7⟩ => ?_
      have I7' := I7.pinned (stat fr7) (T.obj _ _ st7)
      have again : ∀ {σ8 : St} {H8 : Hp} {s8 : Shared} {zs : List V}, Ext (cst js σ) σ8 → Inv (compCx X scope N s3.heap.objs.size s3 H3 fp) ([] ++ pinsAt fp s7.heap) σ8 H8 s8 → H8 D = some (.lst zs) → (∃ m', m' < n ∧ W (i + 1) m' zs H8) →
          ∃ m, m < n ∧ ∃ i ys H', Inv (compCx X scope N s3.heap.objs.size s3 H3 fp) [] (cst js σ) H' s8 ∧ tn i s8.heap ∧ (∀ b ∈ fp, H' b = none) ∧ H' D = some (.lst ys) ∧ W i m ys H' := fun {σ8 H8 s8 zs} ex I8 hD8 w8 => by
        obtain ⟨m', hm, w8⟩ := w8
        refine ⟨m', hm, i + 1, zs, H8, I8.unpinned.weak ex.1 ex.2, T.keep _ _ _ st7 fun b hb o e => (I8.pin (b, o) (List.mem_append_right _ (List.mem_append_right _ (mem_pinsAt hb e)))).1, fun b hb => ?_, hD8, w8⟩
        obtain ⟨o, e, d⟩ := T.obj _ _ st7 b hb
        exact (I8.pin (b, o) (List.mem_append_right _ (List.mem_append_right _ (mem_pinsAt hb e)))).2.1
      refine thn (hg _ _ _ _ _ s7 (cst js σ) H7 x u _ I7' r7 (step x H7 y7)) fun _ s8 ⟨σ8, H8, I8, ex8, q8⟩ => ?_
      refine thn (ht _ _ _ _ _ s8 σ8 H8 _ I8 q8) fun c s9 ⟨H9, I9, q9⟩ => ?_
      cases c with
      | false =>
        rw [if_neg (by decide)] at q9 ⊢
        exact again ex8 I9 q9.1 q9.2
      | true =>
        rw [if_pos rfl] at q9 ⊢
        refine thnE (he _ _ _ _ _ s9 σ8 H9 _ I9 q9) fun y s10 v10 H10 I10 r10 zz4 => ?_
        obtain ⟨hD10, hz10, w10⟩ := zz4
        refine thn (mt_append _ s10 σ8 H10 (.ref D) [v10] (.ref D) [y] (fun _ H11 => H11 = upd H10 D (.lst (ys ++ [v10]))) I10 rfl (.cons r10 .nil) ⟨D, ys, v10, rfl, rfl, hD10, hz10, rfl⟩) fun _ s11 ⟨_, H11, I11, _, e11⟩ => ?_
        subst e11
        exact again ex8 I11 upd_same w10
  exact codeAny_compStart_list loop (T.self _ _ _ _ _ st4 loop)

theorem pe_comp (hok : compOk X.N X.env.scope scope N js = true) (hc : X.calm = true) (hi : PI X tg iter wi)
    (hg : ∀ C s₃ H₃ fp, PG (compCx X scope N C s₃ H₃ fp) tg g) (ht : ∀ C s₃ H₃ fp, PTs (compCx X scope N C s₃ H₃ fp) ifs tc) (he : ∀ C s₃ H₃ fp, PE (compCx X scope N C s₃ H₃ fp) elt te)
    (hs : ∀ x, foldedSetIterable iter X.env x = pure x := by intro _; rfl) : PE X (.ListComp elt [⟨tg, iter, ifs, 0⟩] scope pos) (tComp js wi g tc te) := by
  intro pins s σ H Q I h
  rw [eval_ListComp]
  refine comp_run (use := none) (R := Q) (CompOk.of hok) hc hi hg ht he I h (fun C D s' H' I' q hn hf => ?_) hs
  obtain ⟨m, hn⟩ := hn
  refine ⟨m, hn, fun h' hs' => ⟨.ref D, H', ?_, rfl, q⟩⟩
  exact I'.turned (t' := s'.toks) (it := C) (fun b o hb e => (hs'.2 b hb).trans e) hf.1 hf.2.1 hf.2.2.2.1 hf.2.2.2.2.1 hf.2.2.2.2.2

theorem ps_setC {i : Nat} {x : Str} {pos' spos : Pos} (hN : X.N.Nodup) (hx : X.N[i]? = some x) (hl : X.env.scope.names.lookup x = some .local) (hok : compOk X.N X.env.scope scope N js = true) (hc : X.calm = true) (hi : PI X tg iter wi)
    (hg : ∀ C s₃ H₃ fp, PG (compCx X scope N C s₃ H₃ fp) tg g) (ht : ∀ C s₃ H₃ fp, PTs (compCx X scope N C s₃ H₃ fp) ifs tc) (he : ∀ C s₃ H₃ fp, PE (compCx X scope N C s₃ H₃ fp) elt te)
    (hsw : swapsWith (.ListComp elt [⟨tg, iter, ifs, 0⟩] scope pos) (some (.Name x pos')) spos.line X.env = pure true := by rfl) (hs : ∀ x, foldedSetIterable iter X.env x = pure x := by intro _; rfl) :
    PS X (.Assign [.Name x pos'] (.ListComp elt [⟨tg, iter, ifs, 0⟩] scope pos) spos) (tAsg (tComp js wi g tc te) (gName i)) := by
  intro pins s σ H D I h
  rw [exec_Assign_Name_used _ _ _ _ hsw]
  refine wpAny_bind (wpAny_standAt (wpAny_bind ?_))
  have run := comp_run (pos := pos) (cpos := firstIterPos [⟨tg, iter, ifs, 0⟩] pos) (use := some (assign (.Name x pos') X.env)) (R := fun v H1 => D.nx (σ.set i (some v)) H1) (Q := fun _ s' => SP X pins D .next s') (CompOk.of hok) hc hi hg ht he I h (fun C L s' H' I' q hn hf => ?_) hs
  · show wpAny _ X.A (do let _ ← comprehension (.ListComp elt [⟨tg, iter, ifs, 0⟩] scope pos) scope X.env _ (newList []) false (eval iter X.env) (some (assign (.Name x pos') X.env))) _ _ s
    exact wpAny_bind (wpAny_mono run (fun _ s' hq => wpAny_pure (wpAny_pure hq)) fun _ _ e => e)
  · obtain ⟨m, o, es, ep, ho, hd, hr⟩ := hn
    have I2 : Inv X (pins ++ pinsAt [C] s'.heap) σ H' s' := I'.pinned (fp := [C]) (fun b hb => by rw [List.mem_singleton.mp hb]; exact hf) (fun b hb => by rw [List.mem_singleton.mp hb]; exact ⟨o, ho, fun v z => by rw [hd] at z; cases z⟩)
    refine wpAny_assign_Name (store_ok (v := .ref L) I2 hN hx (.inl hl) rfl (fun s2 I3 => ?_) (.inr hl))
    have hC : s2.heap.get? C = some o := (I3.pin (C, o) (List.mem_append_right _ (List.mem_append_right _ (mem_pinsAt (List.mem_singleton.mpr rfl) ho)))).1
    refine ⟨m, ⟨o, es, ep, hC, hd, hr⟩, fun h' hs' => ⟨_, H', ?_, q⟩⟩
    exact I3.unpinned.turned (t' := s2.toks) (it := C) (fun b o hb e => (hs'.2 b hb).trans e) hf.1 hf.2.1 hf.2.2.2.1 hf.2.2.2.2.1 hf.2.2.2.2.2
end
end L2

namespace L2
open PySem PySem.Spec PyProof.Rows
section
variable {X : Cx}

theorem call_all (hc : X.calm = true) : CallR X (.builtin "all") (fun xs H Q => ∃ (p : Addr) (bs : List Bool), xs = [.ref p] ∧ SqL X.K H p (bs.map V.bl) ∧ Q (.bl (bs.all id)) H) := by
  intro pins s σ H xs us Q I r h
  obtain ⟨p, bs, rfl, hq, q⟩ := h
  obtain ⟨u, rfl, rx⟩ := vals1 r
  cases rx
  obtain ⟨its, rv, pl, hz⟩ := I.list hq
  have hl := pl.isList
  have hb : LSm.BoolsAre its bs := by
    clear hz hq q hl pl I
    induction bs generalizing its with
    | nil => cases rv; exact .nil
    | cons b bs ih =>
      cases rv with
      | cons r1 r2 => cases r1; exact .cons b (ih _ r2)
  have hlt : p < s.heap.objs.size := by obtain ⟨_, e, _⟩ := hl; exact Heap.lt_size e
  refine call_all_walk (wpAny_pyIter_list hl ?_)
  refine ⟨s.heap.objs.size, [s.heap.objs.size, p], [s.heap.objs.size], its.toArray.size, _, _, fun i => (bs[i]?).getD true, rfl, Walks.list (A := X.A.in1) (I.ok.hd hc) _ p (Nat.ne_of_lt hlt) its.toArray,
    ⟨⟨_, Heap.get?_push_size _ rfl, rfl, rfl⟩, hl.push _⟩, fun i v s' Q' E' hP hQ => ?_, fun h' tk hk => ?_⟩
  · obtain ⟨b, e, rfl⟩ := hb.get i v (by simpa using hP)
    simp only [e, Option.getD_some] at hQ
    exact wpAny_truthy_bool hQ
  · have e : ((List.range its.toArray.size).all fun i => (bs[i]?).getD true) = bs.all id := by
      rw [List.size_toArray, hb.length]; exact LSm.range_all bs
    rw [e]
    exact ⟨.bl _, H, I.kept (t' := tk) (LSm.kept_iter hk), rfl, q⟩

theorem call_isinst : CallR X (.builtin "isinstance") (fun xs H Q => ∃ x T t b, xs = [x, .ty T] ∧ TyOf X.K H x t ∧ PySem.W.kitOne X.K t (.type T) = some b ∧ Q (.bl b) H) := by
  intro pins s σ H xs us Q I r h
  obtain ⟨x, T, t, b, rfl, ty, hk, q⟩ := h
  obtain ⟨u, w', rfl, rx, ry⟩ := vals2 r
  obtain rfl : w' = Value.type T := ry
  exact isinst_ok I rx ty hk fun tk => ⟨.bl b, H, I.tok tk, rfl, q⟩
theorem call_isinstK (K : PySem.W.Frag) (hK : X.K = K := by rfl) : CallR X (.builtin "isinstance") (fun xs H Q => ∃ x T t b, xs = [x, .ty T] ∧ TyOf K H x t ∧ PySem.W.kitOne K t (.type T) = some b ∧ Q (.bl b) H) := hK ▸ call_isinst
theorem ix_tupK (K : PySem.W.Frag) (hK : X.K = K := by rfl) : IxR X (rIxT K) := hK ▸ ix_tup
theorem call_lenK (K : PySem.W.Frag) (hK : X.K = K := by rfl) : CallR X (.builtin "len") (fun xs H Q => ∃ p ys, xs = [.ref p] ∧ (SqL K H p ys ∨ SqT K H p ys) ∧ Q (.int ys.length) H) := hK ▸ call_len_seq
end

mutual
inductive Rep (K : PySem.W.Frag) (H : Hp) : V → PyData → Prop
  | int (i : Int) : Rep K H (.int i) (.int i)
  | bl (b : Bool) : Rep K H (.bl b) (.bool b)
  | non : Rep K H .non .none
  | lst {a : Addr} {xs : List V} {ds : List PyData} : SqL K H a xs → RepAll K H xs ds → Rep K H (.ref a) (.list ds)
  | tup {a : Addr} {xs : List V} {ds : List PyData} : SqT K H a xs → RepAll K H xs ds → Rep K H (.ref a) (.tuple ds)
inductive RepAll (K : PySem.W.Frag) (H : Hp) : List V → List PyData → Prop
  | nil : RepAll K H [] []
  | cons {x : V} {xs : List V} {d : PyData} {ds : List PyData} : Rep K H x d → RepAll K H xs ds → RepAll K H (x :: xs) (d :: ds)
end
mutual
theorem Rep.reads {X : Cx} {pins : List (Addr × Obj)} {σ : St} {H : Hp} {s : Shared} (I : Inv X pins σ H s) : ∀ {x : V} {d : PyData}, Rep X.K H x d → ∀ {u : Value}, RelV x u → ∃ as, Reads s.heap u d as
  | _, _, .int i, u, r => by obtain ⟨t, rfl⟩ := r; exact ⟨_, .int i t⟩
  | _, _, .bl b, u, r => by cases r; exact ⟨_, .bool b⟩
  | _, _, .non, u, r => by cases r; exact ⟨_, .none⟩
  | _, _, .lst h hs, u, r => by
    cases r
    obtain ⟨its, rv, ⟨o, n, e, hc, _, hd⟩, _⟩ := I.list h
    obtain ⟨as, q⟩ := RepAll.reads I hs rv
    exact ⟨_, .list e hc hd (by simpa using q)⟩
  | _, _, .tup h hs, u, r => by
    cases r
    obtain ⟨its, rv, ⟨o, e, hc, n, hd⟩, _⟩ := I.tuple h
    obtain ⟨as, q⟩ := RepAll.reads I hs rv
    exact ⟨_, .tuple e hc hd (by simpa using q)⟩
theorem RepAll.reads {X : Cx} {pins : List (Addr × Obj)} {σ : St} {H : Hp} {s : Shared} (I : Inv X pins σ H s) : ∀ {xs : List V} {ds : List PyData}, RepAll X.K H xs ds → ∀ {us : List Value}, Vals xs us → ∃ as, ReadsAll s.heap us ds as
  | _, _, .nil, us, r => by cases r; exact ⟨_, .nil⟩
  | _, _, .cons h hs, us, r => by
    cases r with
    | cons r1 r2 =>
      obtain ⟨as, q⟩ := Rep.reads I h r1
      obtain ⟨bs, q'⟩ := RepAll.reads I hs r2
      exact ⟨_, .cons q q'⟩
end

structure Plain (d : PyData) : Prop where
  lay : d.canLay0 = true
  deep : d.depth ≤ 60
section
variable {X : Cx}
end
end L2

namespace L2
open PySem PySem.Spec PyProof.Rows

theorem Same.seqT {K : PySem.W.Frag} {H H' : Hp} {a : Addr} {xs : List V} (e : Same H H') (h : SqT K H a xs) : SqT K H' a xs := by
  rcases h with (h | ⟨o, h⟩) | h
  · exact .inl (.inl (e _ _ h))
  · exact .inl (.inr ⟨o, e _ _ h⟩)
  · exact .inr h
theorem Same.put {H H' : Hp} {l : Addr} {o : HO} (s : Same H H') (h : H l = none) : Same H (upd H' l o) := fun b u e => by
  rw [upd_ne (ne_of_none e h)]
  exact s b u e
theorem Same.new {H : Hp} {a : Addr} {o : HO} (h : H a = none) : Same H (upd H a o) := (Same.refl H).put h

structure Walk (J : It) (H1 : Hp) (n : Nat) (Is : Nat → V → Hp → Prop) : Prop where
  go : ∀ k H2, Same H1 H2 → k < n → J.go k H2
  yld : ∀ k H2 x H3, Same H1 H2 → k < n → J.yld k H2 x H3 → Same H2 H3 ∧ Is k x H3
  stop : ∀ H2, Same H1 H2 → J.stop n H2
theorem getD_some {α : Type} {xs : List α} {k : Nat} {d : α} (h : k < xs.length) : xs[k]? = some (xs.getD k d) := by
  rw [List.getD_eq_getElem?_getD, List.getElem?_eq_getElem h]
  rfl
theorem Walk.tup {K : PySem.W.Frag} {H1 : Hp} {a : Addr} {xs : List V} (h : SqT K H1 a xs) : Walk (Itt K a) H1 xs.length (fun k x _ => x = xs.getD k .non) where
  go := fun k H2 s hk => ⟨xs, _, s.seqT h, getD_some (d := V.non) hk⟩
  yld := fun k H2 x H3 s hk y => ⟨by rw [y.1]; exact Same.refl _, by
    have := y.2 xs (s.seqT h)
    rw [getD_some (d := V.non) hk] at this
    exact (Option.some.inj this).symm⟩
  stop := fun H2 s => ⟨xs, s.seqT h, Nat.le_refl _⟩
theorem Walk.rng {H1 : Hp} (lo : Int) (n : Nat) : Walk (Itr lo n) H1 n (fun k x _ => x = .int (lo + k)) where
  go := fun k H2 _ hk => hk
  yld := fun k H2 x H3 _ _ y => ⟨by rw [y.1]; exact Same.refl _, y.2⟩
  stop := fun _ _ => Nat.le_refl n

theorem block_gen {J : It} {H1 : Hp} {n : Nat} {Is : Nat → V → Hp → Prop} {js : List (Option Nat)} {g : TG} {tc : TT} {te : TE} {σ : St} {R : VK} (Wk : Walk J H1 n Is) (Pv : Addr → Nat → List V → Hp → Prop)
    (h0 : ∀ D, H1 D = none → Pv D 0 [] (upd H1 D (.lst [])))
    (step : ∀ D k x ys H2 H3 (Keep : VK) (Drop : Hp → Prop), H1 D = none → k < n → Same H1 H2 → Same H2 H3 → H3 D = some (.lst ys) → Pv D k ys H2 → Is k x H3 →
      (∀ y H6, Same H3 H6 → ys.length < sizeLine → Pv D (k + 1) (ys ++ [y]) (upd H6 D (.lst (ys ++ [y]))) → Keep y H6) → (∀ H5, Same H3 H5 → Pv D (k + 1) ys H5 → Drop H5) →
      g x (cst js σ) H3 fun σ2 H4 => Ext (cst js σ) σ2 ∧ tc σ2 H4 fun c H5 => if c = true then te σ2 H5 Keep else Drop H5)
    (fin : ∀ D ys H2, H1 D = none → Same H1 H2 → H2 D = some (.lst ys) → Pv D n ys H2 → R (.ref D) H2) : tBlock js g tc te σ R J H1 := by
  intro D hD
  refine ⟨fun i m ys H2 => m = n - i ∧ i ≤ n ∧ Same H1 H2 ∧ Pv D i ys H2, ⟨n, rfl, Nat.zero_le _, Same.new hD, h0 D hD⟩, ?_⟩
  rintro i m ys H2 ⟨rfl, hi, s, p⟩ hys
  by_cases hlt : i < n
  · refine .inr ⟨Wk.go i H2 s hlt, fun x H3 y => ?_⟩
    obtain ⟨s3, ix⟩ := Wk.yld i H2 x H3 s hlt y
    exact step D i x ys H2 H3 _ _ hD hlt s s3 (s3 _ _ hys) p ix (fun z H6 s6 hl p6 => ⟨s6 _ _ (s3 _ _ hys), hl, n - (i + 1), by omega, rfl, hlt, ((s.trans s3).trans s6).put hD, p6⟩)
      (fun H5 s5 p5 => ⟨s5 _ _ (s3 _ _ hys), n - (i + 1), by omega, rfl, hlt, (s.trans s3).trans s5, p5⟩)
  · have e : i = n := by omega
    subst e
    exact .inl ⟨Wk.stop H2 s, fin D ys H2 hD s hys p⟩

theorem block_fm {J : It} {H1 : Hp} {n : Nat} {item : Nat → V} {js : List (Option Nat)} {i : Nat} {tc : TT} {te : TE} {σ : St} {R : VK} (Wk : Walk J H1 n (fun k x _ => x = item k)) (hn : n ≤ 1000) (hi : (cst js σ)[i]? = some none)
    (p : Nat → Bool) (y : Nat → V)
    (test : ∀ k H2 (Q : Bool → Hp → Prop), k < n → Same H1 H2 → (∀ H3, Same H2 H3 → Q (p k) H3) → tc ((cst js σ).set i (some (item k))) H2 Q)
    (step : ∀ k H2 (Q : VK), k < n → p k = true → Same H1 H2 → (∀ H3, Same H2 H3 → Q (y k) H3) → te ((cst js σ).set i (some (item k))) H2 Q)
    (fin : ∀ D H2, H1 D = none → Same H1 H2 → H2 D = some (.lst (((List.range n).filter p).map y)) → R (.ref D) H2) : tBlock js (gName i) tc te σ R J H1 := by
  refine block_gen Wk (fun D k ys H2 => ys = ((List.range k).filter p).map y) (fun D hD => rfl) (fun D k x ys H1' H2 Keep Drop hD hk s1 s2 hys e ex keep drop => ?_) (fun D ys H2 hD s hys e => fin D H2 hD s (e ▸ hys))
  subst ex
  have s := s1.trans s2
  have hl : ys.length < sizeLine := by
    have h1 : (((List.range k).filter p).map y).length ≤ k := by
      rw [List.length_map]
      exact Nat.le_trans (List.length_filter_le _ _) (by simp)
    rw [e]
    exact Nat.lt_of_le_of_lt h1 (small1000 (by omega))
  have e1 : List.range (k + 1) = List.range k ++ [k] := List.range_succ
  refine ⟨Ext.set hi, test k H2 _ hk s fun H3 s3 => ?_⟩
  cases hp : p k with
  | true =>
    rw [if_pos rfl]
    refine step k H3 _ hk hp (s.trans s3) fun H4 s4 => keep _ _ (s3.trans s4) hl ?_
    rw [e1, List.filter_append, List.map_append, e]
    simp [hp]
  | false =>
    rw [if_neg (by decide)]
    refine drop _ s3 ?_
    rw [e1, List.filter_append, List.map_append, e]
    simp [hp]

theorem block_map {J : It} {H1 : Hp} {n : Nat} {item : Nat → V} {js : List (Option Nat)} {i : Nat} {te : TE} {σ : St} {R : VK} (Wk : Walk J H1 n (fun k x _ => x = item k)) (hn : n ≤ 1000) (hi : (cst js σ)[i]? = some none) (y : Nat → V)
    (step : ∀ k H2 (Q : VK), k < n → Same H1 H2 → (∀ H3, Same H2 H3 → Q (y k) H3) → te ((cst js σ).set i (some (item k))) H2 Q)
    (fin : ∀ D H2, H1 D = none → Same H1 H2 → H2 D = some (.lst ((List.range n).map y)) → R (.ref D) H2) : tBlock js (gName i) tYes te σ R J H1 :=
  block_fm Wk hn hi (fun _ => true) y (fun k H2 Q _ _ q => q H2 (Same.refl _)) (fun k H2 Q hk _ => step k H2 Q hk) fun D H2 hD s e => fin D H2 hD s (by
    rw [e, List.filter_eq_self.mpr (fun _ _ => rfl)])
theorem range_map_getD {α β : Type} (xs : List α) (d : α) (f : α → β) : ((List.range xs.length).map fun k => f (xs.getD k d)) = xs.map f := by
  apply List.ext_getElem?
  intro k
  rw [List.getElem?_map, List.getElem?_map]
  by_cases h : k < xs.length
  · rw [List.getElem?_range h, getD_some (d := d) h]
    rfl
  · rw [List.getElem?_eq_none (by simpa using h), List.getElem?_eq_none (by omega)]
    rfl

noncomputable def Has (P : Program) (w : World) (K : PySem.W.Frag) (mg : Str → Option Value) (base : Heap) (x : Str) (k : Nat) (ps : List Str) (sp : Sp) : Prop :=
  ∃ f fd, mg x = some (.ref f) ∧ PySem.W.keepIn K (.ref f) = true ∧ Binds K fd ps [] ∧ FnOk P w K mg base CX0 k f fd ps sp
section
variable {X : Cx} {x : Str} {k : Nat} {ps : List Str} {sp : Sp} {e : Expr} {es : List Expr} {t : TA} {p pos : Pos}
theorem pe_fn (h : Has X.prog X.w X.K X.mg X.base x k ps sp) (hr : Room k X.A) (ha : PA X (e :: es) t) (hg : Gl X x := by rfl) (hdb : (x == ("__debug__" : Str)) = false := by decide)
    (he : starEach (e :: es) X.env = (false, eval e X.env) :: starEach es X.env := by rfl) (hpl : (backTo pos (starEach es X.env)).any (·.1) = false := by rfl) : PE X (.Call (.Name x p) (e :: es) [] pos) (tCall sp [] E0 t) := by
  obtain ⟨f, fd, hm, hk, hb, F⟩ := h
  exact pe_call F hr hg hm hk hb .nil pass0 ha hdb he hpl
end
theorem pe_ty {X : Cx} {x : Str} {T : String} {pos : Pos} (hm : X.mg x = none) (hv : bootBuiltins x = some (.type T)) (hg : Gl X x := by rfl) (hn : x ≠ "__name__" := by decide) (hd : (x == ("__debug__" : Str)) = false := by decide) : PE X (.Name x pos) (tC (.ty T)) :=
  pe_bltn (v := .ty T) hg hm hv rfl hn hd
theorem ndOf {N : List Str} (h : N.Nodup) : N.Nodup := h

structure Def (K : PySem.W.Frag) (x : Str) (st : Stmt) (f : Addr) (fd : FuncData) : Prop where
  a : PySem.W.nsIn K mainGlobals x = some (some (.ref f))
  F : Fun K x x st f fd
theorem def_mk {K : PySem.W.Frag} {x : Str} {st : Stmt} {f : Addr} {oc : Value} {od an : Option Addr} {osl : Array (Option Value)} {kV doc pm cdv ct : Value} (a : PySem.W.nsIn K mainGlobals x = some (some (.ref f)))
    (l : K.lookup f = some ⟨oc, od, .func (PySem.W.fnOf x x (defArgs st) (defBody st) (defScope st) .none kV doc pm an cdv ct), osl⟩) (c : PySem.W.codeIn K cdv x = true) (k : PySem.W.keepIn K (.ref f) = true) : ∃ f fd, Def K x st f fd :=
  ⟨f, _, a, fun_mk l c k⟩

structure Blt (mg : Str → Option Value) : Prop where
  len : mg "len" = none
  isi : mg "isinstance" = none
  tInt : mg "int" = none
  tBool : mg "bool" = none
  tTuple : mg "tuple" = none
  tList : mg "list" = none
  all : mg "all" = none
  range : mg "range" = none
  enum : mg "enumerate" = none
  sum : mg "sum" = none
theorem kit_int_bool {K : PySem.W.Frag} : PySem.W.kitOne K (.type "int") (.type "bool") = some false := by with_unfolding_all rfl
theorem kit_int_int {K : PySem.W.Frag} : PySem.W.kitOne K (.type "int") (.type "int") = some true := by with_unfolding_all rfl
theorem kit_tup_tup {K : PySem.W.Frag} : PySem.W.kitOne K (.type "tuple") (.type "tuple") = some true := by with_unfolding_all rfl
end L2

namespace ET
open PySem PyProof.Rows
open AutoSeq1 (wpAny_loadPart')

section
variable {prog : Program} {w : World} {A : Around} {E : Value → Shared → Prop} {s : Shared}

theorem nextT_item {it t : Addr} {i : Nat} {its : Array Value} {x : Value} {Q : Value → Shared → Prop} (hit : s.heap.IsTupleIter it t i) (ht : s.heap.IsTuple t its) (hx : its[i]? = some x)
    (hQ : ∀ h', h'.IsTupleIter it t (i + 1) → Heap.SameBut it s.heap h' → Q x { s with heap := h' }) : wpAny (model prog w) A (Builtin.SmallTypes.nextOf (.ref it)) Q E s := by
  obtain ⟨o, ho, hc, hd⟩ := id hit
  obtain ⟨ot, hot, _, nt, hdt⟩ := ht
  unfold Builtin.SmallTypes.nextOf
  refine wpAny_bind (wpAny_callSpecial?_slot (name := Str.ofString "__next__") hit.typeIs F.slot_tuple_iterator_next (wpAny_call_entry F.slot_tuple_iterator_next hit.typeIs F.entry_tuple_iterator_next ?_ (F.args_tuple_iterator_next_1 _)))
  show wpAny _ _ (field (.ref it) 0 >>= _) _ _ s
  refine wpAny_bind (wpAny_field ho hd (x := .ref t) rfl ?_)
  show wpAny _ _ (if (Value.ref t == Value.none) = true then _ else _) _ _ s
  rw [if_neg (show ¬ ((Value.ref t == Value.none) = true) from Bool.false_ne_true)]
  show wpAny _ _ (field (.ref it) 1 >>= _) _ _ s
  refine wpAny_bind (wpAny_field ho hd (x := .int i 0) rfl ?_)
  show wpAny _ _ (seqItems? (.ref t) >>= _) _ _ s
  refine wpAny_bind (wpAny_seqItems hot hdt ?_)
  simp only [Int.toNat_natCast, hx]
  refine wpAny_bind (wpAny_setField ho hd (by simp) (wpAny_pure ⟨x, rfl, wpAny_pure (hQ _ ?_ (Heap.SameBut.update ..))⟩))
  exact ⟨_, Heap.get?_update_self _ ho (Obj.isFreed_of_fields (Obj.data_mapFields hd _)), (Obj.cls_mapFields ..).trans hc, by rw [Obj.data_mapFields hd]; simp [rawInt]⟩
theorem nextT_end {it t : Addr} {i : Nat} {its : Array Value} {Q : Value → Shared → Prop} (hh : A.handled = none) (hit : s.heap.IsTupleIter it t i) (ht : s.heap.IsTuple t its) (hx : its[i]? = none)
    (hE : ∀ h' e, Heap.ExtBut it s.heap h' → (∃ o, h'.get? e = some o ∧ o.cls = .type "StopIteration") → E (.ref e) { s with heap := h' }) : wpAny (model prog w) A (Builtin.SmallTypes.nextOf (.ref it)) Q E s := by
  obtain ⟨o, ho, hc, hd⟩ := id hit
  obtain ⟨ot, hot, _, nt, hdt⟩ := ht
  unfold Builtin.SmallTypes.nextOf
  refine wpAny_bind (wpAny_callSpecial?_slot (name := Str.ofString "__next__") hit.typeIs F.slot_tuple_iterator_next (wpAny_call_entry F.slot_tuple_iterator_next hit.typeIs F.entry_tuple_iterator_next ?_ (F.args_tuple_iterator_next_1 _)))
  show wpAny _ _ (field (.ref it) 0 >>= _) _ _ s
  refine wpAny_bind (wpAny_field ho hd (x := .ref t) rfl ?_)
  show wpAny _ _ (if (Value.ref t == Value.none) = true then _ else _) _ _ s
  rw [if_neg (show ¬ ((Value.ref t == Value.none) = true) from Bool.false_ne_true)]
  show wpAny _ _ (field (.ref it) 1 >>= _) _ _ s
  refine wpAny_bind (wpAny_field ho hd (x := .int i 0) rfl ?_)
  show wpAny _ _ (seqItems? (.ref t) >>= _) _ _ s
  refine wpAny_bind (wpAny_seqItems hot hdt ?_)
  simp only [Int.toNat_natCast, hx]
  refine wpAny_bind (wpAny_rule (wpAny_bind (wpAny_setField ho hd (by simp) ?_)))
  show wpAny _ _ (newExc (.type "StopIteration") [] >>= _) _ _ _
  refine wpAny_bind ?_
  simp only [newExc, newTuple]
  refine wpAny_bind (wpAny_newObj_type ?_ (by size_fits))
  refine wpAny_bind (m := firstArgMember _ _) (wpAny_of_eq (a := Value.none) (by first | rfl | (simp only [firstArgMember]; rfl)) ?_)
  refine wpAny_newObj_type ?_ (by size_fits)
  simp only [raiseNew]
  refine wpAny_bind (wpAny_handled ?_)
  first | rw [show A.in1.handled = none from hh] | rw [hh]
  refine wpAny_bind (wpAny_pure (wpAny_throw ?_))
  exact hE _ _ (((Heap.SameBut.update ..).extBut.push _).push _) ⟨_, Heap.get?_push_size _ rfl, rfl⟩
end
end ET
namespace L2
open PySem PySem.Spec PyProof.Rows

section
variable {X : Cx}
end
end L2

namespace L2
open PySem PySem.Spec PyProof.Rows

noncomputable def tabD (D : List (Str × Int)) : List (PyData × PyData) := D.map fun p => (PyData.str p.1, PyData.int p.2)
noncomputable def TabK (P : Program) (w : World) (K : PySem.W.Frag) (d : Addr) (D : List (Str × Int)) : Prop := ∀ h : Heap, K.In h → StrTab P w h d (tabD D)
section
variable {X : Cx}


noncomputable def rIndex (K : PySem.W.Frag) : V → List V → Hp → VK → Prop := fun x vs H Q => ∃ (l : Addr) (xs : List V) (y : V) (j : Nat) (z : V), x = .ref l ∧ vs = [y] ∧ SqL K H l xs ∧ flatV y = true ∧ xs.all flatV = true ∧ xs[j]? = some z ∧ eqV z y = true ∧ (∀ (i : Nat) (z : V), i < j → xs[i]? = some z → eqV z y = false) ∧ Q (.int (j : Int)) H
theorem mt_index : MtM X "list.index" (rIndex X.K) := by
  intro pins s σ H x vs v us Q I rx rv h
  obtain ⟨l, xs, y, j, z, rfl, rfl, hx, fy, fx, ej, ez, hno, q⟩ := h
  cases rx
  obtain ⟨u, rfl, ru⟩ := rv.one
  obtain ⟨its, r, ht, hz⟩ := I.list hx
  obtain ⟨⟨cls, dd, data, sl⟩, ho, hc, n, hd⟩ := id ht.isList
  simp only at hc hd
  subst hc hd
  have hlen := r.length
  obtain ⟨uz, euz, rz⟩ := r.get ej
  have hj : j < its.length := (List.getElem?_eq_some_iff.mp euz).1
  have hline : (sizeLine : Nat) < 2 ^ 62 := by rw [sizeLine_eq]; decide
  have fl : ∀ {i : Nat} {z : V}, xs[i]? = some z → flatV z = true := fun {i z} e => List.all_eq_true.mp fx _ (List.mem_of_getElem? e)
  refine call_meets PySem.F.slot_list_index ⟨_, ho, rfl⟩ PySem.F.entry_list_index (PySem.F.args_list_index_2 _ _)
    (SeqAt.list_indexAt l its.toArray n dd sl u (eqU y) j (by simpa using hj) (by omega) ?_ ?_) ⟨ho, fun w hw => mem_eqAt ru fy r fx w (by simpa using hw), ?_⟩
  · have : its.toArray[j] = uz := by
      have := List.getElem?_eq_getElem hj
      rw [euz] at this
      simpa using (Option.some.inj this).symm
    rw [this, eqU_of rz (fl ej), ez]
  · intro m hm hlt
    have hm' : m < xs.length := by simp at hm; omega
    obtain ⟨um, eum, rm⟩ := r.get (List.getElem?_eq_getElem hm')
    have : its.toArray[m] = um := by
      have h2 : m < its.length := by omega
      have := List.getElem?_eq_getElem h2
      rw [eum] at this
      simpa using (Option.some.inj this).symm
    rw [this, eqU_of rm (fl (List.getElem?_eq_getElem hm'))]
    exact hno m _ hlt (List.getElem?_eq_getElem hm')
  · exact ⟨.int j, H, I.tok _, ⟨_, rfl⟩, q⟩
end
end L2


namespace L2
open PySem PySem.Spec PyProof.Rows
theorem countP_eqU {x : V} : ∀ {xs : List V} {us : List Value}, Vals xs us → xs.all flatV = true → us.countP (eqU x) = xs.countP fun y => eqV y x
  | _, _, .nil, _ => rfl
  | y :: xs, u :: us, .cons r t, f => by
    rw [List.all_cons, Bool.and_eq_true] at f
    rw [List.countP_cons, List.countP_cons, eqU_of r f.1, countP_eqU t f.2]
section
variable {X : Cx}
noncomputable def rCountL (K : PySem.W.Frag) : V → List V → Hp → VK → Prop := fun x vs H Q => ∃ (l : Addr) (xs : List V) (y : V), x = .ref l ∧ vs = [y] ∧ SqL K H l xs ∧ flatV y = true ∧ xs.all flatV = true ∧ Q (.int ((xs.countP fun z => eqV z y : Nat) : Int)) H
theorem mt_count : MtM X "list.count" (rCountL X.K) := by
  intro pins s σ H x vs v us Q I rx rv h
  obtain ⟨l, xs, y, rfl, rfl, hx, fy, fx, q⟩ := h
  cases rx
  obtain ⟨u, rfl, ru⟩ := rv.one
  obtain ⟨its, r, ht, hz⟩ := I.list hx
  obtain ⟨⟨cls, dd, data, sl⟩, ho, hc, n, hd⟩ := id ht.isList
  simp only at hc hd
  subst hc hd
  refine call_meets PySem.F.slot_list_count ⟨_, ho, rfl⟩ PySem.F.entry_list_count (PySem.F.args_list_count_2 _ _)
    (SeqAt.list_countAt l its.toArray n dd sl u (eqU y)) ⟨ho, fun w hw => mem_eqAt ru fy r fx w (by simpa using hw), ?_⟩
  refine ⟨.int _, H, I.tok _, ⟨_, rfl⟩, ?_⟩
  rw [countP_eqU r fx]
  exact q

end
end L2


set_option maxHeartbeats 1000000
namespace L2
open PySem PySem.Spec PyProof.Rows
theorem cellsFrom_app : ∀ (names : List (Str × NameKind)) (n : Nat) (acc : List (Str × Addr)), cellsFrom n names acc = cellsFrom n names [] ++ acc
  | [], _, _ => rfl
  | (x, k) :: r, n, acc => by
    unfold cellsFrom
    split
    · rw [cellsFrom_app r (n + 1) ((x, n) :: acc), cellsFrom_app r (n + 1) [(x, n)], List.append_assoc]
      rfl
    · exact cellsFrom_app r n acc
theorem lookup_app {β : Type} (x : Str) : ∀ (l m : List (Str × β)), (l ++ m).lookup x = (l.lookup x).or (m.lookup x)
  | [], m => by simp
  | (y, b) :: l, m => by
    rw [List.cons_append, List.lookup_cons, List.lookup_cons]
    split
    · rfl
    · exact lookup_app x l m

structure InClo (h : Heap) (L : Addr) (scope : Scope) (x : Str) (v : Value) (h' : Heap) : Prop where
  ns : h'.Ns L (if scope.names.lookup x = some .local then (fun y => if y = x then some v else none) else fun _ => none)
  cell : ∀ n c, (cellsFrom (L + 1) scope.names []).lookup n = some c → h'.IsCell c (if scope.names.lookup x = some .cell ∧ n = x then some v else none)
  apart : (cellsFrom (L + 1) scope.names []).Pairwise fun x y => x.2 ≠ y.2
  above : ∀ n c, (n, c) ∈ cellsFrom (L + 1) scope.names [] → L < c
  keep : ∀ b o, h.get? b = some o → h'.get? b = some o
theorem newEnv_clo {M : Model} {A : Around} {E : Value → Shared → Prop} {s : Shared} {scope : Scope} {globals : Addr} {cl : List (Str × Addr)} {x : Str} {v : Value} {qual : Str} {func : Option Addr} {code : Value} {builtins : Addr} {Q : Env → Shared → Prop}
    (hk : scope.kind = .function) (hx : scope.names.lookup x = some .local ∨ scope.names.lookup x = some .cell)
    (hQ : ∀ h' tk, InClo s.heap s.heap.objs.size scope x v h' → Q (newEnv scope s.heap.objs.size globals (cellsFrom (s.heap.objs.size + 1) scope.names cl) qual func code none builtins) { s with heap := h', toks := tk }) :
    wpAny M A (newFunctionEnv scope globals cl [(x, v)] qual func code none builtins) Q E s := by
  simp only [newFunctionEnv, Option.isSome_none, Bool.false_eq_true, if_false]
  refine wpAny_bind (wpAny_alloc ?_)
  refine wpAny_bind (wpAny_layCells _ (fun name kind cells => by cases hkc : kind == NameKind.cell <;> simp [hkc]) _ _ _ _ ?_)
  have ok := cellsFrom_ok scope.names (s.heap.push { cls := .type "frame", data := .dict #[] }) (s.heap.objs.size + 1) [] ⟨fun _ _ hm => (nomatch hm), List.Pairwise.nil⟩ (by rw [Heap.size_push]; exact Nat.le_refl _)
  rw [Heap.size_push] at ok
  rw [show ({ s with heap := s.heap.push { cls := .type "frame", data := .dict #[] } } : Shared).heap.objs.size = s.heap.objs.size + 1 from Heap.size_push ..]
  have keep : ∀ b o, s.heap.get? b = some o → (pushCells (s.heap.push { cls := .type "frame", data := .dict #[] }) scope.names).get? b = some o := fun b o e => pushCells_keeps _ _ b o (Heap.get?_push_of_some _ e)
  have ns0 : (pushCells (s.heap.push { cls := .type "frame", data := .dict #[] }) scope.names).Ns s.heap.objs.size fun _ => none := (Heap.Ns.new s.heap (.type "frame")).keeps (pushCells_keeps _ _)
  refine wpAny_bind ?_
  rw [List.forIn_cons]
  have neL : ∀ b o, s.heap.get? b = some o → b ≠ s.heap.objs.size := fun b o e => Nat.ne_of_lt (Heap.lt_size e)
  rcases hx with hx | hx
  · refine wpAny_bind (wpAny_bind (wpAny_storeName_local (env := newEnv scope s.heap.objs.size globals (cellsFrom (s.heap.objs.size + 1) scope.names cl) qual func code none builtins) hx ns0 (fun h' hn' hs' => wpAny_pure ?_) (by show (scope.kind == .class || (scope.kind == .module && _)) = false; rw [hk]; rfl)))
    show wpAny _ _ (pure PUnit.unit) _ _ _
    refine wpAny_pure (wpAny_pure (hQ h' _ ⟨?_, fun n c e => ?_, ok.apart, fun n c hm => (ok.empty n c hm).2, fun b o e => hs'.extBut b o (neL b o e) (keep b o e)⟩))
    · rw [if_pos hx]
      exact hn'
    · rw [if_neg (fun z => by rw [hx] at z; exact absurd z.1 (by decide))]
      exact ((ok.empty n c (mem_of_lookup e)).1).sameBut hs' (Nat.ne_of_gt (ok.empty n c (mem_of_lookup e)).2)
  · have hcx : ∃ c, (cellsFrom (s.heap.objs.size + 1) scope.names []).lookup x = some c := cell_has hx
    obtain ⟨c, hc⟩ := hcx
    have hc' : (cellsFrom (s.heap.objs.size + 1) scope.names cl).lookup x = some c := by
      rw [cellsFrom_app, lookup_app, hc]
      rfl
    have hLc := (ok.empty x c (mem_of_lookup hc)).2
    refine wpAny_bind (wpAny_bind (wpAny_storeName_cell (env := newEnv scope s.heap.objs.size globals (cellsFrom (s.heap.objs.size + 1) scope.names cl) qual func code none builtins) hk hx hc' (ok.empty x c (mem_of_lookup hc)).1 fun h' hn' hs' => wpAny_pure ?_))
    show wpAny _ _ (pure PUnit.unit) _ _ _
    refine wpAny_pure (wpAny_pure (hQ h' _ ⟨?_, fun n c2 e => ?_, ok.apart, fun n c hm => (ok.empty n c hm).2, fun b o e => hs'.extBut b o ?_ (keep b o e)⟩))
    · rw [if_neg (by rw [hx]; decide)]
      exact ns0.sameBut hs' (Nat.ne_of_lt hLc)
    · by_cases hn : n = x
      · subst hn
        rw [hc] at e
        cases e
        rw [if_pos ⟨hx, rfl⟩]
        exact hn'
      · rw [if_neg (fun z => hn z.2)]
        exact ((ok.empty n c2 (mem_of_lookup e)).1).sameBut hs' fun z => hn (name_of_addr ok.apart (mem_of_lookup e) (z ▸ mem_of_lookup hc))
    · exact Nat.ne_of_lt (Nat.lt_trans (Heap.lt_size e) hLc)
end L2

set_option maxHeartbeats 1000000
namespace L2
open PySem PySem.Spec PyProof.Rows

structure CellsAt (s : Shared) (H : Hp) (cl : List (Str × Addr)) (frees : List Str) (fvs : List V) : Prop where
  inj : ∀ x y c, cl.lookup x = some c → cl.lookup y = some c → x = y
  free : ∀ x c, cl.lookup x = some c → H c = none
  cell : ∀ x c, cl.lookup x = some c → ∃ v, s.heap.IsCell c v
  val : ∀ (i : Nat) (x : Str) (v : V), frees[i]? = some x → fvs[i]? = some v → ∃ c u, cl.lookup x = some c ∧ s.heap.IsCell c (some u) ∧ RelV v u

structure FnScopeC (N : List Str) (p : Str) (frees : List Str) (sc : Scope) : Prop where
  kind : sc.kind = .function
  co : sc.isCoroutine = false
  gen : sc.isGenerator = false
  nd : N.Nodup
  pre : N.take (frees.length + 1) = p :: frees
  par : sc.names.lookup p = some .local ∨ sc.names.lookup p = some .cell
  fre : ∀ y ∈ sc.names, y.2 = .free → y.1 ∈ frees
  frk : ∀ x ∈ frees, sc.names.lookup x = some .free
  noc : ∀ y ∈ sc.names, y.2 = .cell → y.1 ∉ frees
theorem mem_cellsFrom {x : Str} {c : Addr} : ∀ {names : List (Str × NameKind)} {n : Nat}, (x, c) ∈ cellsFrom n names [] → (x, NameKind.cell) ∈ names
  | [], _, h => by simp [cellsFrom] at h
  | (y, k) :: r, n, h => by
    unfold cellsFrom at h
    split at h
    · rename_i hk
      rw [cellsFrom_app] at h
      rcases List.mem_append.mp h with h | h
      · exact List.mem_cons_of_mem _ (mem_cellsFrom h)
      · have e : k = .cell := by simpa using hk
        have h' := List.mem_singleton.mp h
        cases h'
        rw [e]
        exact List.mem_cons_self
    · exact List.mem_cons_of_mem _ (mem_cellsFrom h)
noncomputable def startC (N : List Str) (v : V) (fvs : List V) : St := some v :: fvs.map some ++ List.replicate (N.length - (fvs.length + 1)) none

noncomputable abbrev cxC (P : Program) (w : World) (K : PySem.W.Frag) (mg : Str → Option Value) (base : Heap) (N : List Str) (qual : Str) (scope : Scope) (f : Addr) (cd : Value) (cl : List (Str × Addr)) (A : Around) (outer : List Env) (s : Shared) (H : Hp) : Cx where
  prog := P
  w := w
  K := K
  mg := mg
  base := base
  A := A.deeper (PySem.W.envX qual scope s.heap.objs.size f cd (cellsFrom (s.heap.objs.size + 1) scope.names cl))
  N := N
  s₀ := s
  H₀ := H
  env := PySem.W.envX qual scope s.heap.objs.size f cd (cellsFrom (s.heap.objs.size + 1) scope.names cl)
  outer := outer
  stack := PySem.W.envX qual scope s.heap.objs.size f cd (cellsFrom (s.heap.objs.size + 1) scope.names cl) :: outer
  ex := []
  calm := true
  fn := fun y => scope.names.lookup y == some .cell
  pn := []
  xe := fun _ _ => False
theorem inv_startC {P : Program} {w : World} {K : PySem.W.Frag} {mg : Str → Option Value} {base : Heap} {N frees : List Str} {p qual : Str} {scope : Scope} {f : Addr} {cd : Value} {cl : List (Str × Addr)} {A : Around} {outer : List Env} {s : Shared} {H : Hp} {u : Value} {v : V} {fvs : List V} {h' : Heap} {tk : Nat}
    (S : FnScopeC N p frees scope) (hd : A.handled = none) (e0 : Env0 P w K mg base A outer s H) (r : RelV v u) (hfl : fvs.length = frees.length) (C : CellsAt s H cl frees fvs) (x : InClo s.heap s.heap.objs.size scope p u h') :
    Inv (cxC P w K mg base N qual scope f cd cl A outer s H) [] (startC N v fvs) H { s with heap := h', toks := tk } := by
  have hpl : frees.length + 1 ≤ N.length := by have := congrArg List.length S.pre; rw [List.length_take, List.length_cons] at this; omega
  have look : ∀ y c, (cellsFrom (s.heap.objs.size + 1) scope.names cl).lookup y = some c → (cellsFrom (s.heap.objs.size + 1) scope.names []).lookup y = some c ∨ ((cellsFrom (s.heap.objs.size + 1) scope.names []).lookup y = none ∧ cl.lookup y = some c) := fun y c e => by
    rw [cellsFrom_app, lookup_app] at e
    cases q : (cellsFrom (s.heap.objs.size + 1) scope.names []).lookup y with
    | some c' => rw [q] at e; exact .inl e
    | none => rw [q] at e; exact .inr ⟨rfl, e⟩
  have ownGe : ∀ y c, (cellsFrom (s.heap.objs.size + 1) scope.names []).lookup y = some c → s.heap.objs.size < c := fun y c e => x.above y c (mem_of_lookup e)
  have clLt : ∀ y c, cl.lookup y = some c → c < s.heap.objs.size := fun y c e => by
    obtain ⟨v, z⟩ := C.cell y c e
    exact z.lt
  have noA : ∀ b : Addr, b ∉ (cxC P w K mg base N qual scope f cd cl A outer s H).ex := fun b z => absurd (show b ∈ ([] : List Addr) from z) (by simp)
  refine ⟨⟨e0.mod, S.kind, rfl, rfl, Nat.le_refl _, fun y z c h1 h2 => ?_, fun y hy => ?_, fun y c hf h => ?_, fun _ => hd, Around.frames_deeper e0.frames, .inr ⟨rfl, rfl⟩, fun b z => absurd z (noA b), e0.bs, e0.bsz, fun b _ _ => noA b, fun b z => absurd z (noA b), e0.funs, e0.frf⟩,
    rfl, e0.bare, Un.kept x.keep, ⟨_, x.ns, fun i y v' h1 h2 h3 => ?_⟩, fun y c h => ?_, e0.hok.fresh (Nat.le_refl _), fun y c h => ?_, fun p hp => absurd (show p ∈ ([] : List (Addr × Obj)) from hp) (by simp), e0.hok.kept x.keep, ?_⟩
  · rcases look y c h1 with a1 | ⟨_, a1⟩ <;> rcases look z c h2 with a2 | ⟨_, a2⟩
    · exact name_of_addr x.apart (mem_of_lookup a1) (mem_of_lookup a2)
    · exact absurd (ownGe y c a1) (Nat.not_lt.mpr (Nat.le_of_lt (clLt z c a2)))
    · exact absurd (ownGe z c a2) (Nat.not_lt.mpr (Nat.le_of_lt (clLt y c a1)))
    · exact C.inj y z c a1 a2
  · have hy : scope.names.lookup y = some .cell ∨ scope.names.lookup y = some .free := hy
    show ∃ c, (cellsFrom (s.heap.objs.size + 1) scope.names cl).lookup y = some c
    rw [cellsFrom_app, lookup_app]
    rcases hy with hy | hy
    · obtain ⟨c, e⟩ := cell_has (n := s.heap.objs.size + 1) hy
      exact ⟨c, by rw [e]; rfl⟩
    · have hm := S.fre _ (mem_of_lookup hy) rfl
      obtain ⟨i, hi⟩ := List.getElem?_of_mem hm
      have hil : i < fvs.length := by
        have := (List.getElem?_eq_some_iff.mp hi).1
        omega
      obtain ⟨c, u', e, _⟩ := C.val i y _ hi (List.getElem?_eq_getElem hil)
      cases q : (cellsFrom (s.heap.objs.size + 1) scope.names []).lookup y with
      | some c' => exact ⟨c', rfl⟩
      | none => exact ⟨c, e⟩
  · have hf' : scope.names.lookup y = some .cell := by
      have : (scope.names.lookup y == some NameKind.cell) = true := hf
      simpa using this
    obtain ⟨c', e⟩ := cell_has (n := s.heap.objs.size + 1) hf'
    rcases look y c h with a1 | ⟨a1, _⟩
    · exact Nat.le_of_lt (ownGe y c a1)
    · rw [e] at a1
      cases a1
  · have h1 : N[i]? = some y := h1
    unfold startC at h2
    by_cases hi0 : i = 0
    · subst hi0
      simp at h2
      subst h2
      have hp : p = y := by
        have : (N.take (frees.length + 1))[0]? = some p := by rw [S.pre]; rfl
        rw [List.getElem?_take_of_lt (by omega), h1] at this
        exact (Option.some.inj this).symm
      subst hp
      refine ⟨u, r, ?_⟩
      rcases S.par with k | k
      · refine .inl ⟨k, ?_⟩
        rw [if_pos k]
        simp
      · obtain ⟨c, e⟩ := cell_has (n := s.heap.objs.size + 1) k
        refine .inr ⟨.inl k, c, ?_, ?_⟩
        · show (cellsFrom (s.heap.objs.size + 1) scope.names cl).lookup p = some c
          rw [cellsFrom_app, lookup_app, e]
          rfl
        · have q := x.cell p c e
          rw [if_pos ⟨k, rfl⟩] at q
          exact q
    · obtain ⟨j, rfl⟩ : ∃ j, i = j + 1 := ⟨i - 1, by omega⟩
      have h2' : (fvs.map some ++ List.replicate (N.length - (fvs.length + 1)) none)[j]? = some (some v') := by simpa using h2
      have hj : j < fvs.length := by
        by_cases hj : j < fvs.length
        · exact hj
        · rw [List.getElem?_append_right (by simpa using hj), List.getElem?_replicate] at h2'
          split at h2' <;> cases h2'
      rw [List.getElem?_append_left (by simpa using hj), List.getElem?_map] at h2'
      have hfv : fvs[j]? = some v' := by
        cases e : fvs[j]? with
        | none => rw [e] at h2'; cases h2'
        | some a => rw [e] at h2'; cases h2'; rfl
      have hfr : frees[j]? = some y := by
        have : (N.take (frees.length + 1))[j + 1]? = some y := by rw [List.getElem?_take_of_lt (by omega)]; exact h1
        rw [S.pre] at this
        simpa using this
      obtain ⟨c, u', e, z, rv⟩ := C.val j y v' hfr hfv
      have hk := S.frk y (List.mem_of_getElem? hfr)
      have hnone : (cellsFrom (s.heap.objs.size + 1) scope.names []).lookup y = none := by
        cases q : (cellsFrom (s.heap.objs.size + 1) scope.names []).lookup y with
        | none => rfl
        | some c' => exact absurd (List.mem_of_getElem? hfr) (S.noc _ (mem_cellsFrom (mem_of_lookup q)) rfl)
      refine ⟨u', rv, .inr ⟨.inr hk, c, ?_, z.keeps x.keep⟩⟩
      show (cellsFrom (s.heap.objs.size + 1) scope.names cl).lookup y = some c
      rw [cellsFrom_app, lookup_app, hnone]
      exact e
  · rcases look y c h with a | ⟨_, a⟩
    · exact ⟨_, x.cell y c a⟩
    · obtain ⟨v, z⟩ := C.cell y c a
      exact ⟨v, z.keeps x.keep⟩
  · rcases look y c h with a | ⟨_, a⟩
    · exact e0.hok.fresh (Nat.le_of_lt (ownGe y c a))
    · exact C.free y c a
  · show (startC N v fvs).length = N.length
    unfold startC
    rw [List.length_append, List.length_cons, List.length_map, List.length_replicate]
    omega

structure FnOkC (P : Program) (w : World) (K : PySem.W.Frag) (mg : Str → Option Value) (base : Heap) (k : Nat) (fd : FuncData) (p : Str) (frees : List Str) (fvs : List V) (sp : Sp) : Prop where
  run : ∀ (A : Around) (outer : List Env) (s : Shared) (H : Hp) (f : Addr) (u : Value) (v : V) (Q : VK), Room k A → Env0 P w K mg base A outer s H → RelV v u → (∃ o, s.heap.get? f = some o ∧ o.data = .func fd) → s.heap.CodeRec fd.code fd.qualname →
    CellsAt s H fd.closure frees fvs → sp [v] H Q E0 → codeAny (model P w) A (.call (.ref f) ⟨[u], []⟩) (CR CX0 outer P w H s Q E0) s
theorem clo_of {P : Program} {w : World} {K : PySem.W.Frag} {mg : Str → Option Value} {base : Heap} {k : Nat} {name qual : Str} {params : Arguments} {body : List Stmt} {scope : Scope} {cl : List (Str × Addr)} {doc pm cdv ct : Value}
    {N frees : List Str} {p : Str} {fvs : List V} {sp : Sp} (S : FnScopeC N p frees scope) (hfl : fvs.length = frees.length)
    (hbind : ∀ u : Value, bindArgs (PySem.W.fnX name qual params body scope cl .none .none doc pm none cdv ct) ⟨[u], []⟩ = pure [(p, u)])
    (hbody : ∀ (A : Around) (outer : List Env) (s : Shared) (H : Hp) (f : Addr) (v : V) (Q : VK), Room k (A.deeper (PySem.W.envX qual scope s.heap.objs.size f cdv (cellsFrom (s.heap.objs.size + 1) scope.names cl))) → sp [v] H Q E0 →
      ∃ t, PSs (cxC P w K mg base N qual scope f cdv cl A outer s H) body t ∧ t { nx := fun _ H' => Q .non H', rt := Q } (startC N v fvs) H) :
    FnOkC P w K mg base (k + 1) (PySem.W.fnX name qual params body scope cl .none .none doc pm none cdv ct) p frees fvs sp := by
  refine ⟨fun A outer s H f u v Q hr e0 r hf hcd C hsp => ?_⟩
  obtain ⟨o, ho, hod⟩ := hf
  have lim : s.heap.NoLimit := e0.mod.nolimit.keeps fun b o e => (e0.bs b o e).1
  refine codeAny_call_function hr.depth ho hod S.co S.gen rfl hcd ?_
  rw [hbind u]
  refine wpAny_pure ?_
  refine newEnv_clo S.kind S.par fun h' tk x => ?_
  refine ⟨lim.keeps x.keep, codeAny_func ?_⟩
  obtain ⟨t, ht, hq⟩ := hbody A outer s H f v Q (hr.deeper _) hsp
  have I : Inv (cxC P w K mg base N qual scope f cdv cl A outer s H) [] (startC N v fvs) H { s with heap := h', toks := tk } := inv_startC S hr.hd e0 r hfl C x
  refine wpAny_mono (ht [] _ (startC N v fvs) H _ I hq) (fun fl s' hs => ?_) fun e s' hs => hs.elim
  have fin : ∀ {σ' : St} {H' : Hp} {v : V} {u : Value}, Inv (cxC P w K mg base N qual scope f cdv cl A outer s H) [] σ' H' s' → RelV v u → Q v H' → CE outer P w H s Q u s' :=
    fun {σ' H' v u} J rv q => ⟨v, H', J.os, J.bare, J.base, J.hok, rv, q⟩
  cases fl with
  | ret u =>
    obtain ⟨v, σ', H', J, rv, q⟩ := hs
    exact fin J rv q
  | next =>
    obtain ⟨σ', H', J, q⟩ := hs
    exact fin (v := V.non) (u := Value.none) J rfl q
  | brk =>
    obtain ⟨_, _, _, q⟩ := hs
    exact False.elim q
  | cont =>
    obtain ⟨_, _, _, q⟩ := hs
    exact False.elim q
end L2

set_option maxHeartbeats 1000000
namespace L2
open PySem PySem.Spec PyProof.Rows

structure BMain (mg : Str → Option Value) (base : Heap) : Prop where
  at' : ∃ bm ob, mg "__builtins__" = some (.ref bm) ∧ bm ≠ builtinsNs ∧ base.get? bm = some ob ∧ ob.cls = .type "module" ∧ ob.dict = some builtinsNs ∧ ob.data = .plain

noncomputable def fnφ (f : Addr) (fd : FuncData) : Heap → Prop := fun h => ∃ o, h.get? f = some o ∧ o.data = .func fd
noncomputable def cdφ (c : Addr) (q : Str) : Heap → Prop := fun h => h.CodeRec (.ref c) q
theorem fnφ_ok {P : Program} {w : World} {H : Hp} {h : Heap} {f : Addr} {fd : FuncData} (e : fnφ f fd h) : ObjOk P w H h f (.ext (fnφ f fd)) := by
  obtain ⟨o, e, d⟩ := e
  exact ⟨⟨o, e, d⟩, ⟨o, e⟩, fun h1 h2 ⟨o, e, d⟩ k => ⟨o, k o e, d⟩⟩
theorem cdφ_ok {P : Program} {w : World} {H : Hp} {h : Heap} {c : Addr} {q : Str} (e : cdφ c q h) : ObjOk P w H h c (.ext (cdφ c q)) := by
  obtain ⟨c', oc, vs, t, e1, e2, r⟩ := id e
  cases e1
  exact ⟨e, ⟨oc, e2⟩, fun h1 h2 ⟨c', oc, vs, t, e1, e2, r⟩ k => by
    cases e1
    exact ⟨c, oc, vs, t, rfl, k oc e2, r⟩⟩
noncomputable def tDef (i : Nat) (P : Addr) (qual : Str) (pos : Pos) (mk : Addr → Value → Value → Value → FuncData) : TS := fun D σ H => ∃ ps, H P = some (.tbl ps) ∧ TriplesOk ps.toList ∧
  ((codeAmong pos ps.toList = none ∧ ∀ f c doc pm ct, H f = none → H c = none → c ≠ f → D.nx (σ.set i (some (.ref f))) (upd (upd (upd H P (.tbl (ps ++ #[rawInt pos.line, rawInt pos.col, .ref c]))) c (.ext (cdφ c qual))) f (.ext (fnφ f (mk c doc pm ct))))) ∨
   (∃ c, codeAmong pos ps.toList = some (.ref c) ∧ ∀ f doc pm ct, H f = none → D.nx (σ.set i (some (.ref f))) (upd H f (.ext (fnφ f (mk c doc pm ct))))))
theorem ps_def {X : Cx} {i : Nat} {name qual : Str} {params : Arguments} {body : List Stmt} {scope : Scope} {pos : Pos} {c P : Addr} (BM : BMain X.mg X.base) (hcode : X.env.code = .ref c) (C : PySem.W.CodeHd X.base c P) (hN : X.N.Nodup) (hi : X.N[i]? = some name) (hx : Loc X.env.scope name)
    (hfree : ∀ x ∈ scope.names, x.2 = .free → X.env.scope.names.lookup x.1 = some .cell ∨ X.env.scope.names.lookup x.1 = some .free) (hq : qualnameIn X.env name name = qual := by rfl)
    (hd0 : params.defaults = [] := by rfl) (hk0 : params.kw_defaults = [] := by rfl) (ha : annTrees params none X.env = [] := by rfl) (hf : X.fn name = true ∨ X.env.scope.names.lookup name = some .local := by first | exact .inl rfl | exact .inr rfl) :
    PS X (.FunctionDef name params body [] none [] scope none name pos) (tDef i P qual pos fun c doc pm ct => PySem.W.fnX name qual params body scope (closOf X.env.cells scope.names []) .none .none doc pm none (.ref c) ct) := by
  intro pins s σ H D I h
  obtain ⟨ps, hP, ht, h⟩ := h
  have hcl := closureFor_eq (scope := scope) (env := X.env) fun x hm e => I.ok.has x.1 (hfree x hm e)
  have hP' : s.heap.get? P = some (PySem.W.tabObj ps) := I.hok P _ hP
  have hg := I.mod.glob.keeps I.bk
  have hgP : mainGlobals ≠ P := fun q => by
    obtain ⟨o, es, ep, e, hd, _⟩ := hg
    rw [q, hP'] at e; cases e; cases hd
  obtain ⟨bm, ob, b1, b2, b3, b4, b5, b6⟩ := BM.at'
  have b3' := I.bk _ _ b3
  have hbP : bm ≠ P := fun q => by
    rw [q, hP'] at b3'; cases b3'; cases b4
  have hbG : bm ≠ mainGlobals := fun q => by
    obtain ⟨o, es, ep, e, hd, _⟩ := hg
    rw [q, e] at b3'; cases b3'; rw [hd] at b6; cases b6
  refine PySem.W.nestDef_K hd0 hk0 ha ?_
  rw [hq]
  rcases h with ⟨hn, h⟩ | ⟨c', hc, h⟩
  · refine PySem.W.makeFunction_K (mg := X.mg) hcl I.ok.glob hg hcode (C.keeps I.bk) hP' ht hn hgP ⟨bm, ob, b1, b2, hbG, hbP, b3', b4, b5, b6⟩ fun c' ctv doc h' tk hx' hge hlt hrec htb => ?_
    have nf : H h'.objs.size = none := I.hok.fresh (Nat.le_trans hge (Nat.le_of_lt hlt))
    have nc : H c' = none := I.hok.fresh hge
    have hPc : P ≠ c' := ne_of_none hP nc
    have hPf : P ≠ h'.objs.size := ne_of_none hP nf
    have hcf : c' ≠ h'.objs.size := Nat.ne_of_lt hlt
    have push : ∀ b o, h'.get? b = some o → (h'.push (PySem.W.fnMade name qual params body scope (closOf X.env.cells scope.names []) doc ((X.mg "__name__").getD .none) c' ctv)).get? b = some o := fun b o e => Heap.get?_push_of_some _ e
    have old : ∀ b o, b ≠ P → s.heap.get? b = some o → (h'.push (PySem.W.fnMade name qual params body scope (closOf X.env.cells scope.names []) doc ((X.mg "__name__").getD .none) c' ctv)).get? b = some o := fun b o hb e => push b o (hx' b o hb e)
    have neP : ∀ b, H b = none → b ≠ P := fun b n z => by rw [z, hP] at n; cases n
    have up : ∀ b u, H b = some u → b ≠ P → upd (upd (upd H P (.tbl (ps ++ #[rawInt pos.line, rawInt pos.col, .ref c']))) c' (.ext (cdφ c' qual))) h'.objs.size (.ext (fnφ h'.objs.size (PySem.W.fnX name qual params body scope (closOf X.env.cells scope.names []) .none .none doc ((X.mg "__name__").getD .none) none (.ref c') ctv))) b = some u := fun b u e hb => by
      rw [upd_ne (ne_of_none e nf), upd_ne (ne_of_none e nc), upd_ne hb]
      exact e
    have upP : upd (upd (upd H P (.tbl (ps ++ #[rawInt pos.line, rawInt pos.col, .ref c']))) c' (.ext (cdφ c' qual))) h'.objs.size (.ext (fnφ h'.objs.size (PySem.W.fnX name qual params body scope (closOf X.env.cells scope.names []) .none .none doc ((X.mg "__name__").getD .none) none (.ref c') ctv))) P = some (.tbl (ps ++ #[rawInt pos.line, rawInt pos.col, .ref c'])) := by
      rw [upd_ne hPf, upd_ne hPc]
      exact upd_same
    refine store_ok (v := .ref h'.objs.size) (I.un (t' := tk) (h' := h'.push (PySem.W.fnMade name qual params body scope (closOf X.env.cells scope.names []) doc ((X.mg "__name__").getD .none) c' ctv))
        ⟨fun b o e n _ _ => old b o (neP b n) e, fun b o e n _ _ => ⟨o.slots, old b o (neP b n) e⟩, fun b o e n _ => ?_, fun b o e _ => ?_, fun b xs e => up b _ e (fun z => by rw [z, hP] at e; cases e), fun b o u e => up b _ e (fun z => by rw [z, hP] at e; cases e), fun b qs e => ?_⟩ ?_)
      hN hi hx rfl (fun s2 I3 => ⟨_, _, I3, h _ _ _ _ _ nf nc hcf⟩) hf
    · have hb := Heap.lt_size e
      rw [upd_ne (Nat.ne_of_lt (Nat.lt_of_lt_of_le hb (Nat.le_trans hge (Nat.le_of_lt hlt)))), upd_ne (Nat.ne_of_lt (Nat.lt_of_lt_of_le hb hge)), upd_ne (neP b n)]
      exact n
    · by_cases hb : b = P
      · subst hb
        exact ⟨_, push _ _ htb⟩
      · exact ⟨o, old b o hb e⟩
    · by_cases hb : b = P
      · subst hb
        rw [hP] at e
        cases e
        exact ⟨_, upP⟩
      · exact ⟨#[], by rw [up b _ e hb]; simp⟩
    · intro b u e
      by_cases hb1 : b = h'.objs.size
      · subst hb1
        rw [upd_same] at e
        cases e
        exact fnφ_ok ⟨_, Heap.get?_push_size _ rfl, rfl⟩
      · rw [upd_ne hb1] at e
        by_cases hb2 : b = c'
        · subst hb2
          rw [upd_same] at e
          cases e
          refine cdφ_ok ?_
          obtain ⟨c2, oc, vs, t, e1, e2, r⟩ := hrec
          cases e1
          exact ⟨_, oc, vs, t, rfl, push _ _ e2, r⟩
        · rw [upd_ne hb2] at e
          by_cases hb3 : b = P
          · subst hb3
            rw [upd_same] at e
            cases e
            exact push _ _ htb
          · rw [upd_ne hb3] at e
            refine (I.hok b u e).stay (fun d v hd q => old d v (fun z => ?_) q) (fun d q => up d _ q fun z => by rw [z, hP] at q; cases q) (fun d xs q => up d _ q fun z => by rw [z, hP] at q; cases q)
            rcases hd with hd | hd
            · exact hb3 (hd.symm.trans z)
            · rw [z, hP] at hd; cases hd
  · refine PySem.W.makeFunction_hit (mg := X.mg) hcl I.ok.glob hg hcode (C.keeps I.bk) hP' ht hc ⟨bm, ob, b1, b2, hbG, hbP, b3', b4, b5, b6⟩ fun ctv doc h' tk hk hsz => ?_
    have nf : H h'.objs.size = none := I.hok.fresh hsz
    refine store_ok (v := .ref h'.objs.size) (I.laid (t' := tk) (a := h'.objs.size) (o := .ext (fnφ h'.objs.size (PySem.W.fnX name qual params body scope (closOf X.env.cells scope.names []) .none .none doc ((X.mg "__name__").getD .none) none (.ref c') ctv))) (fun b u e => Heap.get?_push_of_some _ (hk b u e)) hsz ?_) hN hi hx rfl (fun s2 I3 => ⟨_, _, I3, h _ _ _ _ nf⟩) hf
    exact fnφ_ok ⟨_, Heap.get?_push_size _ rfl, rfl⟩
end L2

set_option maxHeartbeats 1000000
namespace L2
open PySem PySem.Spec PyProof.Rows

theorem CellsAt.now {X : Cx} {pins : List (Addr × Obj)} {σ : St} {H : Hp} {s : Shared} {cl : List (Str × Addr)} {frees : List Str} {fvs : List V} (I : Inv X pins σ H s) (C : CellsAt X.s₀ X.H₀ cl frees fvs) (hex : X.ex = []) : CellsAt s H cl frees fvs := by
  have nx : ∀ b, b ∉ X.ex := fun b z => by rw [hex] at z; cases z
  have stay : ∀ x c v, cl.lookup x = some c → X.s₀.heap.IsCell c v → s.heap.IsCell c v := fun x c v e ⟨o, ho, hd⟩ => by
    obtain ⟨sl, q⟩ := I.base.any ho (C.free x c e) (nx c)
    exact ⟨_, q, hd⟩
  refine ⟨C.inj, fun x c e => ?_, fun x c e => ?_, fun i x v e1 e2 => ?_⟩
  · obtain ⟨v, o, ho, hd⟩ := C.cell x c e
    exact I.base.free c o ho (C.free x c e) (nx c)
  · obtain ⟨v, z⟩ := C.cell x c e
    exact ⟨v, stay x c v e z⟩
  · obtain ⟨c, u, e, z, r⟩ := C.val i x v e1 e2
    exact ⟨c, u, e, stay x c _ e z, r⟩
theorem fnAt_of {X : Cx} {pins : List (Addr × Obj)} {σ : St} {H : Hp} {s : Shared} {f : Addr} {fd : FuncData} (I : Inv X pins σ H s) (h : H f = some (.ext (fnφ f fd))) : PySem.W.FnAt f s.heap := by
  obtain ⟨⟨o, e, d⟩, _, _⟩ := (show ObjOk X.prog X.w H s.heap f (.ext (fnφ f fd)) from I.hok f _ h)
  obtain ⟨oc, od, dt, sl⟩ := o
  obtain rfl : dt = .func fd := d
  exact ⟨oc, od, fd, sl, e⟩

noncomputable def clφ (c : Addr) (u : Value) : Heap → Prop := fun h => h.IsCell c (some u)
theorem clφ_ok {P : Program} {w : World} {H : Hp} {h : Heap} {c : Addr} {u : Value} (e : clφ c u h) : ObjOk P w H h c (.ext (clφ c u)) := by
  obtain ⟨o, e1, d⟩ := id e
  exact ⟨e, ⟨o, e1⟩, fun h1 h2 ⟨o, e1, d⟩ k => ⟨o, k o e1, d⟩⟩
noncomputable def InCl (cl : List (Str × Addr)) (b : Addr) : Prop := ∃ x, cl.lookup x = some b
structure CellsX (H : Hp) (cl : List (Str × Addr)) (frees : List Str) (fvs : List V) : Prop where
  inj : ∀ x y c, cl.lookup x = some c → cl.lookup y = some c → x = y
  trk : ∀ x c, cl.lookup x = some c → ∃ u, H c = some (.ext (clφ c u))
  val : ∀ (i : Nat) (x : Str) (v : V), frees[i]? = some x → fvs[i]? = some v → ∃ c u, cl.lookup x = some c ∧ H c = some (.ext (clφ c u)) ∧ RelV v u
open Classical in
noncomputable def dropC (H : Hp) (cl : List (Str × Addr)) : Hp := fun b => if InCl cl b then none else H b
open Classical in
noncomputable def joinC (H H' : Hp) (cl : List (Str × Addr)) : Hp := fun b => if InCl cl b then H b else H' b
section
variable {H H' : Hp} {cl : List (Str × Addr)} {frees : List Str} {fvs : List V} {b : Addr}
theorem dropC_in (h : InCl cl b) : dropC H cl b = none := if_pos h
theorem dropC_out (h : ¬ InCl cl b) : dropC H cl b = H b := if_neg h
theorem joinC_in (h : InCl cl b) : joinC H H' cl b = H b := if_pos h
theorem joinC_out (h : ¬ InCl cl b) : joinC H H' cl b = H' b := if_neg h
theorem dropC_none (h : H b = none) : dropC H cl b = none := by
  unfold dropC
  split
  · rfl
  · exact h
theorem dropC_some {o : HO} (h : dropC H cl b = some o) : ¬ InCl cl b ∧ H b = some o := by
  by_cases z : InCl cl b
  · rw [dropC_in z] at h; cases h
  · rw [dropC_out z] at h; exact ⟨z, h⟩
theorem CellsX.out (C : CellsX H cl frees fvs) {o : HO} (h : H b = some o) (n : ∀ φ, o ≠ HO.ext φ) : ¬ InCl cl b := fun ⟨x, e⟩ => by
  obtain ⟨u, q⟩ := C.trk x b e
  rw [h] at q
  exact n _ (Option.some.inj q)
theorem CellsX.outN (C : CellsX H cl frees fvs) (h : H b = none) : ¬ InCl cl b := fun ⟨x, e⟩ => by
  obtain ⟨u, q⟩ := C.trk x b e
  rw [h] at q
  cases q
theorem CellsX.keep (C : CellsX H cl frees fvs) {o : HO} (h : H b = some o) (n : ∀ φ, o ≠ HO.ext φ) : dropC H cl b = some o := by
  rw [dropC_out (C.out h n)]
  exact h
theorem CellsX.same (C : CellsX H cl frees fvs) (s : Same H H') : CellsX H' cl frees fvs :=
  ⟨C.inj, fun x c e => by obtain ⟨u, q⟩ := C.trk x c e; exact ⟨u, s _ _ q⟩, fun i x v h1 h2 => by obtain ⟨c, u, e, q, r⟩ := C.val i x v h1 h2; exact ⟨c, u, e, s _ _ q, r⟩⟩
theorem CellsX.at' {P : Program} {w : World} {s : Shared} (C : CellsX H cl frees fvs) (ok : HOk P w H s.heap) : CellsAt s (dropC H cl) cl frees fvs := by
  have cell : ∀ c u, H c = some (.ext (clφ c u)) → s.heap.IsCell c (some u) := fun c u q => by
    obtain ⟨z, _, _⟩ := (show ObjOk P w H s.heap c (.ext (clφ c u)) from ok c _ q)
    exact z
  exact ⟨C.inj, fun x c e => dropC_in ⟨x, e⟩, fun x c e => by obtain ⟨u, q⟩ := C.trk x c e; exact ⟨some u, cell c u q⟩, fun i x v h1 h2 => by obtain ⟨c, u, e, q, r⟩ := C.val i x v h1 h2; exact ⟨c, u, e, cell c u q, r⟩⟩
theorem Env0.drop {P : Program} {w : World} {K : PySem.W.Frag} {mg : Str → Option Value} {base : Heap} {A : Around} {outer : List Env} {s : Shared} (e0 : Env0 P w K mg base A outer s H) (C : CellsX H cl frees fvs) : Env0 P w K mg base A outer s (dropC H cl) := by
  refine ⟨e0.frames, e0.mod, fun b o e => ⟨(e0.bs b o e).1, dropC_none (e0.bs b o e).2⟩, e0.bsz, e0.funs, fun b hb => dropC_none (e0.frf b hb), fun b u e => ?_, e0.bare⟩
  obtain ⟨_, e'⟩ := dropC_some e
  exact (e0.hok b u e').stay (fun _ _ _ q => q) (fun d q => C.keep q (by intro φ z; cases z)) fun d xs q => C.keep q (by intro φ z; cases z)

noncomputable def liftQ (H : Hp) (cl : List (Str × Addr)) (Q : VK) : VK := fun r H' => (∀ b, InCl cl b → H' b = none) → Q r (joinC H H' cl)
theorem FnOkC.runX {P : Program} {w : World} {K : PySem.W.Frag} {mg : Str → Option Value} {base : Heap} {k : Nat} {fd : FuncData} {p : Str} {sp : Sp} {A : Around} {outer : List Env} {s : Shared} {f : Addr} {u : Value} {v : V} {Q : VK}
    (F : FnOkC P w K mg base k fd p frees fvs sp) (hr : Room k A) (e0 : Env0 P w K mg base A outer s H) (r : RelV v u) (hf : ∃ o, s.heap.get? f = some o ∧ o.data = .func fd) (hc : s.heap.CodeRec fd.code fd.qualname) (C : CellsX H fd.closure frees fvs)
    (q : sp [v] (dropC H fd.closure) (liftQ H fd.closure Q) E0) : codeAny (model P w) A (.call (.ref f) ⟨[u], []⟩) (CR CX0 outer P w H s Q E0) s := by
  refine codeAny_mono (F.run A outer s (dropC H fd.closure) f u v _ hr (e0.drop C) r hf hc (C.at' e0.hok) q) fun r s' h => ?_
  cases r with
  | error e => exact h.elim
  | ok fl =>
    cases fl with
    | next => exact False.elim h
    | brk => exact False.elim h
    | cont => exact False.elim h
    | ret u' =>
      obtain ⟨v', H', os, bare, un, ok', rv, q'⟩ := h
      have isC : ∀ b, InCl fd.closure b → ∃ o u, H b = some (.ext (clφ b u)) ∧ s.heap.get? b = some o ∧ o.data = .cell (some u) := fun b ⟨x, e⟩ => by
        obtain ⟨u, hu⟩ := C.trk x b e
        obtain ⟨⟨o, ho, hd⟩, _, _⟩ := (show ObjOk P w H s.heap b (.ext (clφ b u)) from e0.hok b _ hu)
        exact ⟨o, u, hu, ho, hd⟩
      have hN : ∀ b, InCl fd.closure b → H' b = none := fun b hb => by
        obtain ⟨o, u, hu, ho, _⟩ := isC b hb
        exact un.free b o ho (dropC_in hb) (by simp)
      have back : ∀ b o, H' b = some o → joinC H H' fd.closure b = some o := fun b o e => by
        rw [joinC_out (fun z => by rw [hN b z] at e; cases e)]
        exact e
      refine ⟨v', joinC H H' fd.closure, os, bare, ⟨fun b o e n => un.keep b o e (dropC_none n), fun b o e n => un.slot b o e (dropC_none n), fun b o e n hx => ?_, un.there, fun b xs e => ?_, fun b o x e => ?_, fun b ps e => ?_⟩, fun b x e => ?_, rv, q' hN⟩
      · rw [joinC_out (C.outN n)]
        exact un.free b o e (dropC_none n) hx
      · exact back _ _ (un.tups b xs (C.keep e (by intro φ z; cases z)))
      · exact back _ _ (un.frzs b o x (C.keep e (by intro φ z; cases z)))
      · obtain ⟨more, e2⟩ := un.tbls b ps (C.keep e (by intro φ z; cases z))
        exact ⟨more, back _ _ e2⟩
      · by_cases z : InCl fd.closure b
        · rw [joinC_in z] at e
          obtain ⟨o, u, hu, ho, hd⟩ := isC b z
          rw [hu] at e
          cases e
          obtain ⟨sl, e2⟩ := un.any ho (dropC_in z) (by simp)
          exact clφ_ok ⟨_, e2, hd⟩
        · rw [joinC_out z] at e
          exact (ok' b x e).stay (fun _ _ _ q => q) (fun d q => back _ _ q) fun d xs q => back _ _ q
end

inductive CallOk (P : Program) (w : World) (K : PySem.W.Frag) (mg : Str → Option Value) (base : Heap) (k : Nat) (f : Addr) (sp : Sp) (s₀ : Shared) (H₀ : Hp) : Prop
  | clo {fd : FuncData} {p : Str} {frees : List Str} {fvs : List V} {c : Addr} (F : FnOkC P w K mg base k fd p frees fvs sp) (hf : H₀ f = some (.ext (fnφ f fd))) (hd : fd.code = .ref c) (hc : H₀ c = some (.ext (cdφ c fd.qualname))) (C : CellsAt s₀ H₀ fd.closure frees fvs)
  | cloX {fd : FuncData} {p : Str} {frees : List Str} {fvs : List V} {c : Addr} (F : FnOkC P w K mg base k fd p frees fvs sp) (hf : H₀ f = some (.ext (fnφ f fd))) (hd : fd.code = .ref c) (hc : H₀ c = some (.ext (cdφ c fd.qualname))) (C : CellsX H₀ fd.closure frees fvs)
      (st : ∀ v H Q, CellsX H fd.closure frees fvs → sp [v] H Q E0 → sp [v] (dropC H fd.closure) (liftQ H fd.closure Q) E0)
  | mod {fd : FuncData} {p : Str} (F : FnOk P w K mg base CX0 k f fd [p] sp) (hk : PySem.W.keepIn K (.ref f) = true) (hb : Binds K fd [p] [])

noncomputable def tCallV (X : Cx) (i : Nat) (f : Addr) (sp : Sp) (t : TA) : TE := fun σ H Q => σ[i]? = some (some (.ref f)) ∧ Same X.H₀ H ∧ t σ H fun vs H1 => ∃ v, vs = [v] ∧ Same X.H₀ H1 ∧ sp [v] H1 Q E0
theorem pe_callV {X : Cx} {k i : Nat} {x : Str} {e : Expr} {te : TA} {p pos : Pos} {f : Addr} {sp : Sp} (F : CallOk X.prog X.w X.K X.mg X.base k f sp X.s₀ X.H₀) (hr : Room k X.A) (hN : X.N[i]? = some x)
    (he : PA X [e] te) (hex : X.ex = [] := by rfl) (hv : Vis X.env.scope x := by first | exact Or.inl rfl | exact Or.inr (Or.inl rfl) | exact Or.inr (Or.inr rfl)) (hd : (x == ("__debug__" : Str)) = false := by decide) (hcd : (x == ("__classdict__" : Str)) = false := by decide)
    (hs : starEach [e] X.env = (false, eval e X.env) :: starEach [] X.env := by rfl) : PE X (.Call (.Name x p) [e] [] pos) (tCallV X i f sp te) := by
  intro pins s σ H Q I h
  obtain ⟨ef, s0, h⟩ := h
  refine wpAny_Call_Name_kw (thnE (pe_var hN hv hd hcd pins s σ H (fun v H' => v = .ref f ∧ H' = H) I ⟨_, ef, rfl, rfl⟩) fun fv s1 v H1 I1 r1 zz5 => ?_)
  obtain ⟨e1, e2⟩ := zz5
  subst e1 e2
  obtain rfl : fv = Value.ref f := r1
  cases F with
  | clo F hf hdc hc C =>
    refine PySem.W.callWith_F (fnAt_of I1 (s0 _ _ hf)) (thn (he pos pins s1 σ H1 _ I1 h) fun us s2 ⟨vs, H2, I2, r, v, ev, s2', q⟩ => ⟨fnAt_of I2 (s2' _ _ hf), ?_⟩) hs rfl
    subst ev
    obtain ⟨u, rfl, ru⟩ := vals1 r
    obtain ⟨hfn, _, _⟩ := (show ObjOk X.prog X.w H2 s2.heap f (.ext (fnφ f _)) from I2.hok f _ (s2' _ _ hf))
    obtain ⟨hcd2, _, _⟩ := (show ObjOk X.prog X.w H2 s2.heap _ (.ext (cdφ _ _)) from I2.hok _ _ (s2' _ _ hc))
    refine wpAny_call (codeAny_mono (F.run X.A X.stack s2 H2 f u v Q hr I2.env0 ru hfn (by rw [hdc]; exact hcd2) (C.now I2 hex) q) fun r s' hq => ?_)
    cases r with
    | error e => exact hq.elim
    | ok fl =>
      cases fl with
      | ret u => exact I2.after hq
      | next => exact False.elim hq
      | brk => exact False.elim hq
      | cont => exact False.elim hq
  | cloX F hf hdc hc C st =>
    refine PySem.W.callWith_F (fnAt_of I1 (s0 _ _ hf)) (thn (he pos pins s1 σ H1 _ I1 h) fun us s2 ⟨vs, H2, I2, r, v, ev, s2', q⟩ => ⟨fnAt_of I2 (s2' _ _ hf), ?_⟩) hs rfl
    subst ev
    obtain ⟨u, rfl, ru⟩ := vals1 r
    obtain ⟨hfn, _, _⟩ := (show ObjOk X.prog X.w H2 s2.heap f (.ext (fnφ f _)) from I2.hok f _ (s2' _ _ hf))
    obtain ⟨hcd2, _, _⟩ := (show ObjOk X.prog X.w H2 s2.heap _ (.ext (cdφ _ _)) from I2.hok _ _ (s2' _ _ hc))
    refine wpAny_call (codeAny_mono (F.runX (outer := X.stack) hr I2.env0 ru hfn (by rw [hdc]; exact hcd2) (C.same s2') (st v H2 Q (C.same s2') q)) fun r s' hq => ?_)
    cases r with
    | error e => exact hq.elim
    | ok fl =>
      cases fl with
      | ret u => exact I2.after hq
      | next => exact False.elim hq
      | brk => exact False.elim hq
      | cont => exact False.elim hq
  | mod F hk hb =>
    refine PySem.W.callWith_K (h₀ := X.base) I.ok.mod.kin hk (thnA (he pos pins s1 σ H1 _ I1 h) fun us s2 vs H2 I2 r zz6 => ⟨I2.kIn, ?_⟩) hs rfl
    obtain ⟨v, ev, s2', q⟩ := zz6
    subst ev
    exact run_fn (dvs := []) F hr hb .nil pass0 I2 r q
theorem FnOkC.mono {P : Program} {w : World} {K : PySem.W.Frag} {mg : Str → Option Value} {base : Heap} {j k : Nat} {fd : FuncData} {p : Str} {frees : List Str} {fvs : List V} {sp : Sp} (F : FnOkC P w K mg base j fd p frees fvs sp) (h : j ≤ k) : FnOkC P w K mg base k fd p frees fvs sp :=
  ⟨fun A outer s H f u v Q hr => F.run A outer s H f u v Q (hr.mono h)⟩

structure FnOkS (P : Program) (w : World) (K : PySem.W.Frag) (mg : Str → Option Value) (base : Heap) (k : Nat) (f : Addr) (fd : FuncData) (ps : List Str) (pre : Shared → Hp → List V → Prop) (sp : Sp) : Prop where
  len : ∀ vs H Q E, sp vs H Q E → vs.length = ps.length
  run : ∀ (A : Around) (outer : List Env) (s : Shared) (H : Hp) (args : Args) (us : List Value) (vs : List V) (Q : VK) (E : XK), Room k A → Env0 P w K mg base A outer s H → BindsTo s fd args (ps.zip us) → Vals vs us → pre s H vs → sp vs H Q E →
    codeAny (model P w) A (.call (.ref f) args) (CR CX0 outer P w H s Q E) s
theorem Fun.okS {P : Program} {w : World} {K : PySem.W.Frag} {mg : Str → Option Value} {base : Heap} {x qual : Str} {st : Stmt} {f : Addr} {fd : FuncData} {N ps : List Str} {k : Nat} {pre : Shared → Hp → List V → Prop} {sp : Sp} (F : Fun K x qual st f fd) (S : FnScope N ps (defScope st))
    (len : ∀ vs H Q E, sp vs H Q E → vs.length = ps.length)
    (hbody : ∀ (cdv : Value) (A : Around) (outer : List Env) (s : Shared) (H : Hp) (vs : List V) (Q : VK) (E : XK), Room k (A.deeper (envOfC qual (defScope st) s.heap.objs.size f cdv)) → pre s H vs → sp vs H Q E →
      ∃ t, PSs (cxOf CX0 P w K mg base N qual (defScope st) f cdv A outer s H E).nox (defBody st) t ∧ t { nx := fun _ H' => Q .non H', rt := Q } (start N vs) H) : FnOkS P w K mg base (k + 1) f fd ps pre sp := by
  obtain ⟨oc, od, kV, doc, pm, an, cdv, ct, osl, rfl, lk, hcd⟩ := F.ex
  refine ⟨len, fun A outer s H args us vs Q E hr e0 hb r hpre hsp => ?_⟩
  have hl := len _ _ _ _ hsp
  have KX : K.In s.heap := e0.mod.kin.keeps fun b o e => (e0.bs b o e).1
  have lim : s.heap.NoLimit := e0.mod.nolimit.keeps fun b o e => (e0.bs b o e).1
  have hkind : ∀ y ∈ ps.zip us, (defScope st).names.lookup y.1 = some .local ∨ ((defScope st).names.lookup y.1 = some .cell ∧ ((cellsFrom (s.heap.objs.size + 1) (defScope st).names []).lookup y.1).isSome = true) := fun ⟨n, v⟩ hy => by
    rcases S.par n (List.of_mem_zip hy).1 with q | q
    · exact .inl q
    · exact .inr ⟨q, PySem.W.cellsFrom_some _ _ _ (.inl q)⟩
  refine codeAny_call_function hr.depth (KX _ _ lk) rfl S.co S.gen rfl (PySem.W.codeRec_of KX hcd) (hb _ _ _ _ ?_)
  refine wpAny_newFunctionEnv_cells S.kind hkind fun env he s1 x => ?_
  subst he
  refine ⟨lim.keeps x.toInCall.keep, codeAny_func ?_⟩
  obtain ⟨t, ht, hq⟩ := hbody cdv A outer s H vs Q E (hr.deeper _) hpre hsp
  have I : Inv (cxOf CX0 P w K mg base N qual (defScope st) f cdv A outer s H E) [] (start N vs) H s1 := inv_start S hr.hd e0 hl r x
  refine wpAny_mono (ht.nox [] s1 (start N vs) H _ I hq) (fun fl s' hs => ?_) fun e s' hs => hs
  have fin : ∀ {σ' : St} {H' : Hp} {v : V} {u : Value}, Inv (cxOf CX0 P w K mg base N qual (defScope st) f cdv A outer s H E) [] σ' H' s' → RelV v u → Q v H' → CE outer P w H s Q u s' :=
    fun {σ' H' v u} J rv q => ⟨v, H', J.os, J.bare, J.base, J.hok, rv, q⟩
  cases fl with
  | ret u =>
    obtain ⟨v, σ', H', J, rv, q⟩ := hs
    exact fin J rv q
  | next =>
    obtain ⟨σ', H', J, q⟩ := hs
    exact fin (v := V.non) (u := Value.none) J rfl q
  | brk =>
    obtain ⟨_, _, _, q⟩ := hs
    exact False.elim q
  | cont =>
    obtain ⟨_, _, _, q⟩ := hs
    exact False.elim q

noncomputable def HasS (P : Program) (w : World) (K : PySem.W.Frag) (mg : Str → Option Value) (base : Heap) (x : Str) (k : Nat) (ps : List Str) {Γ : Type} (pre : Γ → Shared → Hp → List V → Prop) (sp : Γ → Sp) : Prop :=
  ∃ f fd, mg x = some (.ref f) ∧ PySem.W.keepIn K (.ref f) = true ∧ Binds K fd ps [] ∧ ∀ g, FnOkS P w K mg base k f fd ps (pre g) (sp g)
noncomputable def tCallS (X : Cx) {Γ : Type} (pre : Γ → Shared → Hp → List V → Prop) (sp : Γ → Sp) (t : TA) : TE := fun σ H Q => t σ H fun vs H1 => ∃ g, (∀ pins s, Inv X pins σ H1 s → pre g s H1 vs) ∧ sp g vs H1 Q E0
theorem pe_fnS {X : Cx} {x : Str} {k : Nat} {ps : List Str} {Γ : Type} {pre : Γ → Shared → Hp → List V → Prop} {sp : Γ → Sp} {e : Expr} {es : List Expr} {t : TA} {p pos : Pos} (h : HasS X.prog X.w X.K X.mg X.base x k ps pre sp) (hr : Room k X.A) (ha : PA X (e :: es) t) (hg : Gl X x := by rfl) (hdb : (x == ("__debug__" : Str)) = false := by decide)
    (he : starEach (e :: es) X.env = (false, eval e X.env) :: starEach es X.env := by rfl) (hpl : (backTo pos (starEach es X.env)).any (·.1) = false := by rfl) : PE X (.Call (.Name x p) (e :: es) [] pos) (tCallS X pre sp t) := by
  obtain ⟨f, fd, hm, hk, hb, F⟩ := h
  intro pins s σ H Q I h
  refine wpAny_Call_Name_kw (ld_glob I hg hm ?_ hdb)
  refine PySem.W.callWith_K (h₀ := X.base) I.ok.mod.kin hk (thnA (ha pos pins s σ H _ I h) fun us s1 vs H1 I1 r zz7 => ⟨I1.kIn, ?_⟩) he hpl
  obtain ⟨g, hp, q⟩ := zz7
  have hl : (us ++ []).length = ps.length := by rw [List.append_nil, ← r.length]; exact (F g).len _ _ _ _ q
  have hb' := hb s1 us I1.kIn hl
  rw [List.append_nil] at hb'
  refine wpAny_call (codeAny_mono ((F g).run X.A X.stack s1 H1 ⟨us, []⟩ us vs Q E0 hr I1.env0 hb' r (hp pins s1 I1) q) fun r s' hq => ?_)
  cases r with
  | error e => exact hq.elim
  | ok fl =>
    cases fl with
    | ret u => exact I1.after hq
    | next => exact False.elim hq
    | brk => exact False.elim hq
    | cont => exact False.elim hq
end L2


set_option maxHeartbeats 1000000
namespace L2
open PySem PySem.Spec PyProof.Rows
noncomputable instance decPy : DecidableEq PyData := fun a b => Classical.propDecidable (a = b)
mutual
noncomputable def noB : PyData → Bool
  | .int _ => true
  | .none => true
  | .tuple xs => noBs xs
  | _ => false
noncomputable def noBs : List PyData → Bool
  | [] => true
  | x :: xs => noB x && noBs xs
end
noncomputable def keyD (c : Bool) : PyData → Bool
  | .tuple (.bool _ :: r) => c && noBs r
  | .tuple xs => !c && noBs xs
  | _ => false
mutual
theorem eqv_noB : ∀ x y : PyData, noB x = true → noB y = true → PyData.eqv x y = decide (x = y)
  | .int i, .int j, _, _ => by
    simp only [PyData.eqv]
    by_cases h : i = j <;> simp [h]
  | .none, .none, _, _ => by simp [PyData.eqv]
  | .tuple xs, .tuple ys, hx, hy => by
    simp only [noB] at hx hy
    simp only [PyData.eqv, eqv_noBs xs ys hx hy]
    by_cases h : xs = ys <;> simp [h]
  | .int _, .none, _, _ | .int _, .tuple _, _, _ | .none, .int _, _, _ | .none, .tuple _, _, _ | .tuple _, .int _, _, _ | .tuple _, .none, _, _ => by simp [PyData.eqv]
  | .bool _, _, h, _ | .str _, _, h, _ | .list _, _, h, _ | .dict _, _, h, _ => by simp [noB] at h
  | _, .bool _, _, h | _, .str _, _, h | _, .list _, _, h | _, .dict _, _, h => by simp [noB] at h
theorem eqv_noBs : ∀ xs ys : List PyData, noBs xs = true → noBs ys = true → PyData.eqvAll xs ys = decide (xs = ys)
  | [], [], _, _ => by simp [PyData.eqvAll]
  | [], _ :: _, _, _ => by simp [PyData.eqvAll]
  | _ :: _, [], _, _ => by simp [PyData.eqvAll]
  | x :: xs, y :: ys, hx, hy => by
    simp only [noBs, Bool.and_eq_true] at hx hy
    simp only [PyData.eqvAll, eqv_noB x y hx.1 hy.1, eqv_noBs xs ys hx.2 hy.2]
    by_cases h1 : x = y
    · by_cases h2 : xs = ys <;> simp [h1, h2]
    · simp [h1]
end
theorem keyD_false {d : PyData} (h : keyD false d = true) : ∃ xs, d = .tuple xs ∧ noBs xs = true := by
  cases d with
  | tuple xs =>
    refine ⟨xs, rfl, ?_⟩
    cases xs with
    | nil => rfl
    | cons x r => cases x <;> simp_all [keyD]
  | _ => simp [keyD] at h
theorem keyD_true {d : PyData} (h : keyD true d = true) : ∃ b xs, d = .tuple (.bool b :: xs) ∧ noBs xs = true := by
  cases d with
  | tuple xs =>
    cases xs with
    | nil => simp [keyD] at h
    | cons x r =>
      cases x with
      | bool b => exact ⟨b, r, rfl, by simpa [keyD] using h⟩
      | _ => simp [keyD] at h
  | _ => simp [keyD] at h
theorem eqv_key {c : Bool} {x y : PyData} (hx : keyD c x = true) (hy : keyD c y = true) : PyData.eqv x y = decide (x = y) := by
  cases c with
  | false =>
    obtain ⟨xs, rfl, h1⟩ := keyD_false hx
    obtain ⟨ys, rfl, h2⟩ := keyD_false hy
    simp only [PyData.eqv, eqv_noBs xs ys h1 h2]
    by_cases h : xs = ys <;> simp [h]
  | true =>
    obtain ⟨a, xs, rfl, h1⟩ := keyD_true hx
    obtain ⟨b, ys, rfl, h2⟩ := keyD_true hy
    simp only [PyData.eqv, PyData.eqvAll, eqv_noBs xs ys h1 h2]
    by_cases h : xs = ys
    · cases a <;> cases b <;> simp [h]
    · simp [h]
mutual
noncomputable def inK : PyData → Bool
  | .int _ => true
  | .bool _ => true
  | .none => true
  | .tuple xs => inKs xs
  | _ => false
noncomputable def inKs : List PyData → Bool
  | [] => true
  | x :: xs => inK x && inKs xs
end
mutual
theorem inK_noB : ∀ x : PyData, noB x = true → inK x = true
  | .int _, _ | .none, _ => rfl
  | .tuple xs, h => by simp only [noB] at h; simp only [inK]; exact inKs_noBs xs h
  | .bool _, h | .str _, h | .list _, h | .dict _, h => by simp [noB] at h
theorem inKs_noBs : ∀ xs : List PyData, noBs xs = true → inKs xs = true
  | [], _ => rfl
  | x :: xs, h => by
    simp only [noBs, Bool.and_eq_true] at h
    simp only [inKs, Bool.and_eq_true]
    exact ⟨inK_noB x h.1, inKs_noBs xs h.2⟩
end
theorem keyD_in {c : Bool} {d : PyData} (h : keyD c d = true) : ∃ xs, d = .tuple xs ∧ inKs xs = true := by
  cases c with
  | false =>
    obtain ⟨xs, rfl, h1⟩ := keyD_false h
    exact ⟨xs, rfl, inKs_noBs xs h1⟩
  | true =>
    obtain ⟨a, xs, rfl, h1⟩ := keyD_true h
    exact ⟨_, rfl, by simp [inKs, inK, inKs_noBs xs h1]⟩
mutual
theorem lay_inK : ∀ x : PyData, inK x = true → x.canLay0 = true
  | .int _, _ | .none, _ | .bool _, _ => by simp [PyData.canLay0]
  | .tuple xs, h => by simp only [inK] at h; simp only [PyData.canLay0]; exact lay_inKs xs h
  | .str _, h | .list _, h | .dict _, h => by simp [inK] at h
theorem lay_inKs : ∀ xs : List PyData, inKs xs = true → PyData.canLayAll0 xs = true
  | [], _ => by simp [PyData.canLayAll0]
  | x :: xs, h => by
    simp only [inKs, Bool.and_eq_true] at h
    simp only [PyData.canLayAll0, Bool.and_eq_true]
    exact ⟨lay_inK x h.1, lay_inKs xs h.2⟩
end

mutual
noncomputable def hashD : PyData → Int
  | .int i => hashInt i
  | .bool b => reduceHash (if b then 1 else 0)
  | .none => reduceHash 0xFCA86420
  | .tuple xs => reduceHash (Builtin.Tuple.tupleHashOf (hashDs xs))
  | _ => 0
noncomputable def hashDs : List PyData → List Int
  | [] => []
  | x :: xs => hashD x :: hashDs xs
end
mutual
noncomputable def drawD : PyData → Nat
  | .tuple xs => drawDs xs + 1
  | _ => 1
noncomputable def drawDs : List PyData → Nat
  | [] => 0
  | x :: xs => drawD x + drawDs xs
end
section
variable {prog : Program} {w : World} {E : Value → Shared → Prop}
mutual
theorem hash_run : ∀ (d : PyData) (v : Value) (as : List Addr) (A : Around) (s : Shared) (Q : Int → Shared → Prop), inK d = true → Reads s.heap v d as → A.units + d.depth < cLine → Q (hashD d) { s with toks := s.toks + drawD d } → wpAny (model prog w) A (pyHash v) Q E s
  | .none, _, _, A, s, Q, _, x, hu, h => by
    cases x
    exact PySem.W.pyHash_slot (T := "NoneType") rfl F.slot_NoneType_hash F.entry_NoneType_hash (F.args_NoneType_hash_1 _) (beq_builtin_none _) (.inr (by omega)) (wpAny_bind (wpAny_pure (wpAny_bind (wpAny_mkInt (wpAny_pure ⟨_, _, rfl, h⟩)))))
  | .bool b, _, _, A, s, Q, _, x, hu, h => by
    cases x
    refine PySem.W.pyHash_slot (T := "bool") rfl F.slot_bool_hash entry_int_hash (args_int_hash _) (beq_builtin_none _) (.inr (by omega)) ?_
    cases b
    · exact (show wpAny _ _ (do ret (← mkInt 0)) _ _ s from wpAny_bind (wpAny_mkInt (wpAny_pure ⟨_, _, rfl, h⟩)))
    · exact (show wpAny _ _ (do ret (← mkInt 1)) _ _ s from wpAny_bind (wpAny_mkInt (wpAny_pure ⟨_, _, rfl, h⟩)))
  | .int i, _, _, A, s, Q, _, x, _, h => by cases x; exact wpAny_pyHash_int h
  | .tuple xs, _, _, A, s, Q, hk, x, hu, h => by
    cases x with
    | @tuple a o vs n _ _ ho hc hd hr =>
      refine PySem.W.pyHash_slot (T := "tuple") ⟨_, ho, hc⟩ F.slot_tuple_hash F.entry_tuple_hash (F.args_tuple_hash_1 _) (beq_builtin_none _) (.inr (by omega)) ?_
      show wpAny _ _ (Builtin.Tuple.tupleItemsOf (.ref a) >>= _) _ _ s
      refine wpAny_bind (wpAny_tupleItemsOf ho hd ?_)
      refine wpAny_bind ?_
      rw [← Array.forIn_toList]
      refine hash_loop xs vs.toList _ A.in1 s #[] _ (by simpa only [inK] using hk) hr (by simp only [PyData.depth, Around.in1_units] at hu ⊢; omega) fun b hb => ?_
      show wpAny _ _ (retInt (Builtin.Tuple.tupleHashOf b.toList)) _ _ _
      rw [hb]
      exact wpAny_bind (wpAny_mkInt (wpAny_pure ⟨_, _, rfl, h⟩))
  | .str _, _, _, _, _, _, hk, _, _, _ | .list _, _, _, _, _, _, hk, _, _, _ | .dict _, _, _, _, _, _, hk, _, _, _ => by simp [inK] at hk
theorem hash_loop : ∀ (xs : List PyData) (vs : List Value) (as : List Addr) (A : Around) (s : Shared) (b : Array Int) (Q : Array Int → Shared → Prop), inKs xs = true → ReadsAll s.heap vs xs as → A.units + PyData.depthAll xs < cLine →
    (∀ b', b'.toList = b.toList ++ hashDs xs → Q b' { s with toks := s.toks + drawDs xs }) →
    wpAny (model prog w) A (forIn vs b fun x r => do let h ← pyHash x; pure PUnit.unit; pure (ForInStep.yield (r.push h))) Q E s
  | [], _, _, A, s, b, Q, _, x, _, h => by
    cases x
    exact wpAny_pure (h b (by simp [hashDs]))
  | d :: xs, _, _, A, s, b, Q, hk, x, hu, h => by
    cases x with
    | cons x1 x2 =>
      simp only [inKs, Bool.and_eq_true, PyData.depthAll] at hk hu
      rw [List.forIn_cons]
      refine wpAny_bind (wpAny_bind (hash_run d _ _ A s _ hk.1 x1 (by omega) ?_))
      refine wpAny_bind (wpAny_pure (wpAny_pure ?_))
      refine hash_loop xs _ _ A _ _ Q hk.2 x2 (by omega) fun b' hb => ?_
      have := h b' (by simp [hb, hashDs])
      simpa [drawDs, Nat.add_assoc] using this
end
end

section
variable {prog : Program} {w : World} {E : Value → Shared → Prop}
mutual
theorem quiet_run : ∀ (d : PyData) (v : Value) (as : List Addr) (n : Nat) (A : Around) (s : Shared) (Q : Bool → Shared → Prop), inK d = true → Reads s.heap v d as → d.depth ≤ n → Q true s → wpAny (model prog w) A (eqIsQuiet n v) Q E s
  | .none, _, _, n, A, s, Q, _, x, hn, h => by
    cases x
    rw [eqIsQuiet_byValue n rfl]
    exact wpAny_pure h
  | .bool b, _, _, n, A, s, Q, _, x, hn, h => by
    cases x
    rw [eqIsQuiet_byValue n rfl]
    exact wpAny_pure h
  | .int i, _, _, n, A, s, Q, _, x, _, h => by
    cases x
    rw [eqIsQuiet_byValue n rfl]
    exact wpAny_pure h
  | .tuple xs, _, _, 0, A, s, Q, hk, x, hn, h => by simp [PyData.depth] at hn
  | .tuple xs, _, _, n + 1, A, s, Q, hk, x, hn, h => by
    cases x with
    | @tuple a o vs m _ _ ho hc hd hr =>
      have hT : s.TypeIs (.ref a) "tuple" := ⟨o, ho, hc⟩
      unfold eqIsQuiet
      refine wpAny_bind (wpAny_specialOf hT F.slot_tuple_eq.lookup ?_)
      show wpAny _ _ (isInstance (.ref a) (.type "tuple") >>= _) _ _ s
      refine wpAny_bind (wpAny_isInstance hT isSubtype_tuple_tuple ?_)
      simp only [Bool.not_true, Bool.false_eq_true, if_false]
      refine wpAny_bind (wpAny_seqItems ho hd ?_)
      refine wpAny_bind ?_
      show wpAny _ _ (forIn vs _ _) _ _ s
      rw [← Array.forIn_toList]
      refine wpAny_forIn_list _ (fun rest r s' => r.1 = none ∧ s' = s ∧ ∃ ys bs, ReadsAll s.heap rest ys bs ∧ inKs ys = true ∧ PyData.depthAll ys ≤ n) _ ?_ ?_ _ _ ⟨rfl, rfl, xs, _, hr, by simpa only [inK] using hk, by simp only [PyData.depth] at hn; omega⟩
      · rintro v rest r s' ⟨hr1, rfl, ys, bs, hys, hk', hd'⟩
        cases hys with
        | @cons _ _ y ys _ _ y1 y2 =>
          simp only [inKs, Bool.and_eq_true, PyData.depthAll] at hk' hd'
          refine wpAny_bind (quiet_run y v _ n A s' _ hk'.1 y1 (by omega) ?_)
          simp only [Bool.not_true, Bool.false_eq_true, if_false]
          exact wpAny_pure ⟨rfl, rfl, _, _, y2, hk'.2, by omega⟩
      · rintro ⟨r1, r2⟩ s' ⟨hr1, rfl, _⟩
        simp only at hr1
        subst hr1
        exact wpAny_pure h
  | .str _, _, _, _, _, _, _, hk, _, _, _ | .list _, _, _, _, _, _, _, hk, _, _, _ | .dict _, _, _, _, _, _, _, hk, _, _, _ => by simp [inK] at hk
end
end
mutual
theorem reads_keep {h h' : Heap} {d : Addr} {o : Obj} {es : Array DictEntry} {ep : Nat} (ho : h.get? d = some o) (hd : o.data = .dict es ep) (hs : Heap.SameBut d h h') : ∀ (x : PyData) (v : Value) (as : List Addr), inK x = true → Reads h v x as → Reads h' v x as
  | .none, _, _, _, r => by cases r; exact .none
  | .bool _, _, _, _, r => by cases r; exact .bool _
  | .int _, _, _, _, r => by cases r; exact .int _ _
  | .tuple xs, _, _, hk, r => by
    cases r with
    | @tuple a o' vs n _ _ ho' hc hd' hr =>
      have hne : a ≠ d := by
        rintro rfl
        rw [ho] at ho'
        cases ho'
        rw [hd] at hd'
        cases hd'
      exact .tuple ((hs.2 a hne).trans ho') hc hd' (reads_keeps ho hd hs xs _ _ (by simpa only [inK] using hk) hr)
  | .str _, _, _, hk, _ | .list _, _, _, hk, _ | .dict _, _, _, hk, _ => by simp [inK] at hk
theorem reads_keeps {h h' : Heap} {d : Addr} {o : Obj} {es : Array DictEntry} {ep : Nat} (ho : h.get? d = some o) (hd : o.data = .dict es ep) (hs : Heap.SameBut d h h') : ∀ (xs : List PyData) (vs : List Value) (as : List Addr), inKs xs = true → ReadsAll h vs xs as → ReadsAll h' vs xs as
  | [], _, _, _, r => by cases r; exact .nil
  | x :: xs, _, _, hk, r => by
    simp only [inKs, Bool.and_eq_true] at hk
    cases r with
    | cons r1 r2 => exact .cons (reads_keep ho hd hs x _ _ hk.1 r1) (reads_keeps ho hd hs xs _ _ hk.2 r2)
end

noncomputable def nkKind (prog : Program) (w : World) (c : Bool) : HeapKind prog w PyData where
  is := fun h k a => keyD c k = true ∧ k.depth ≤ 8 ∧ ∃ as, Reads h (.ref a) k as
  hash := hashD
  draws := drawD
  room := fun A => A.units + 8 < cLine
  inj := fun {h a x y} hx hy => by
    obtain ⟨k1, _, as, r1⟩ := hx
    obtain ⟨_, _, bs, r2⟩ := hy
    obtain ⟨xs, rfl, h1⟩ := keyD_in k1
    exact SeqAt.Reads.unique _ _ _ _ _ (lay_inK _ (by simpa only [inK] using h1)) r1 r2
  keeps := fun {h h' k a d o es ep} hx ho hd hs => by
    obtain ⟨k1, k2, as, r1⟩ := hx
    obtain ⟨xs, rfl, h1⟩ := keyD_in k1
    exact ⟨k1, k2, as, reads_keep ho hd hs _ _ _ (by simpa only [inK] using h1) r1⟩
  pyHash := fun {A E s k a Q} hu hx h => by
    obtain ⟨k1, k2, as, r1⟩ := hx
    obtain ⟨xs, rfl, h1⟩ := keyD_in k1
    exact hash_run _ _ _ A s Q (by simpa only [inK] using h1) r1 (by omega) h
  eqBool := fun {A E s x y a b Q} hu hx hy h => by
    obtain ⟨k1, k2, as, r1⟩ := hx
    obtain ⟨k3, k4, bs, r2⟩ := hy
    have e := eqv_key k1 k3
    obtain ⟨xs, rfl, h1⟩ := keyD_in k1
    obtain ⟨ys, rfl, h2⟩ := keyD_in k3
    refine SeqAt.eqAt_reads _ _ A s _ _ _ _ r1 r2 (lay_inK _ (by simpa only [inK] using h1)) (lay_inK _ (by simpa only [inK] using h2)) ?_ prog w E Q ?_
    · have : min (PyData.tuple xs).depth (PyData.tuple ys).depth ≤ (PyData.tuple xs).depth := Nat.min_le_left _ _
      omega
    · rw [e]
      exact h
  quiet := fun {A E s k a Q} hx h => by
    obtain ⟨k1, k2, as, r1⟩ := hx
    obtain ⟨xs, rfl, h1⟩ := keyD_in k1
    exact quiet_run _ _ _ 8 A s Q (by simpa only [inK] using h1) r1 k2 h
end L2


namespace My
open PySem L2

theorem paired_get {α β : Type} {F : α → β → Prop} : ∀ {l₁ : List α} {l₂ : List β}, Paired F l₁ l₂ → ∀ (i : Nat) (b : β), l₂[i]? = some b → ∃ a, l₁[i]? = some a ∧ F a b
  | _, _, .nil, i, b, e => by simp at e
  | _, _, .cons h t, 0, b, e => by simp at e; subst e; exact ⟨_, rfl, h⟩
  | _, _, .cons h t, i + 1, b, e => by
    obtain ⟨a, h1, h2⟩ := paired_get t i b (by simpa using e)
    exact ⟨a, by simpa using h1, h2⟩
theorem paired_getL {α β : Type} {F : α → β → Prop} : ∀ {l₁ : List α} {l₂ : List β}, Paired F l₁ l₂ → ∀ (i : Nat) (a : α), l₁[i]? = some a → ∃ b, l₂[i]? = some b ∧ F a b
  | _, _, .nil, i, a, e => by simp at e
  | _, _, .cons h t, 0, a, e => by simp at e; subst e; exact ⟨_, rfl, h⟩
  | _, _, .cons h t, i + 1, a, e => by
    obtain ⟨b, h1, h2⟩ := paired_getL t i a (by simpa using e)
    exact ⟨b, by simpa using h1, h2⟩
theorem paired_length {α β : Type} {F : α → β → Prop} : ∀ {l₁ : List α} {l₂ : List β}, Paired F l₁ l₂ → l₁.length = l₂.length
  | _, _, .nil => rfl
  | _, _, .cons _ t => by simp [paired_length t]
theorem paired_imp {α β : Type} {F G : α → β → Prop} (f : ∀ a b, F a b → G a b) : ∀ {l₁ : List α} {l₂ : List β}, Paired F l₁ l₂ → Paired G l₁ l₂
  | _, _, .nil => .nil
  | _, _, .cons h t => .cons (f _ _ h) (paired_imp f t)
theorem paired_snoc {α β : Type} {F : α → β → Prop} {a : α} {b : β} : ∀ {l₁ : List α} {l₂ : List β}, Paired F l₁ l₂ → F a b → Paired F (l₁ ++ [a]) (l₂ ++ [b])
  | _, _, .nil, h => .cons h .nil
  | _, _, .cons h₁ t, h => .cons h₁ (paired_snoc t h)


noncomputable abbrev Tab := List (List Int)
noncomputable def RowAt (H : Hp) (v : V) (r : List Int) : Prop := ∃ a, v = .ref a ∧ H a = some (.tup (r.map V.int))
noncomputable def TabAt (H : Hp) (v : V) (t : Tab) : Prop := ∃ a vs, v = .ref a ∧ H a = some (.tup vs) ∧ Paired (RowAt H) vs t
noncomputable def TabsAt (H : Hp) (v : V) (ts : List Tab) : Prop := ∃ a vs, v = .ref a ∧ H a = some (.tup vs) ∧ Paired (TabAt H) vs ts
noncomputable def SchAt (H : Hp) (v : V) (b : Int) (ts : List Tab) : Prop := ∃ a w, v = .ref a ∧ H a = some (.tup [.int b, w]) ∧ TabsAt H w ts
theorem RowAt.same {H H' : Hp} {v : V} {r : List Int} (s : Same H H') (h : RowAt H v r) : RowAt H' v r := by
  obtain ⟨a, e, h⟩ := h
  exact ⟨a, e, s _ _ h⟩
theorem TabAt.same {H H' : Hp} {v : V} {t : Tab} (s : Same H H') (h : TabAt H v t) : TabAt H' v t := by
  obtain ⟨a, vs, e, h, p⟩ := h
  exact ⟨a, vs, e, s _ _ h, paired_imp (fun _ _ => RowAt.same s) p⟩
theorem TabsAt.same {H H' : Hp} {v : V} {ts : List Tab} (s : Same H H') (h : TabsAt H v ts) : TabsAt H' v ts := by
  obtain ⟨a, vs, e, h, p⟩ := h
  exact ⟨a, vs, e, s _ _ h, paired_imp (fun _ _ => TabAt.same s) p⟩
theorem SchAt.same {H H' : Hp} {v : V} {b : Int} {ts : List Tab} (s : Same H H') (h : SchAt H v b ts) : SchAt H' v b ts := by
  obtain ⟨a, w, e, h, p⟩ := h
  exact ⟨a, w, e, s _ _ h, p.same s⟩


noncomputable def wholeB (v l m : Int) : Bool := decide (l ≤ v) && decide (v ≤ m)
noncomputable def lenB {α : Type} (xs : List α) (l m : Int) : Bool := decide (l ≤ (xs.length : Int)) && decide ((xs.length : Int) ≤ m)
noncomputable def rowB (b n : Int) (r : List Int) : Bool := lenB r b b && (r.map fun e => wholeB e 0 (n - 1)).all id
noncomputable def tabB (b n : Int) (t : Tab) : Bool := lenB t n n && (t.map fun r => rowB b n r).all id
noncomputable def tabsB (b : Int) (ts : List Tab) : Bool := lenB ts 1 6 && lenB (ts.headD []) 1 12 && (ts.map fun t => tabB b ((ts.headD []).length : Int) t).all id
noncomputable def schB (b : Int) (ts : List Tab) : Bool := wholeB b 2 10 && tabsB b ts
theorem wholeB_iff {v l m : Int} : wholeB v l m = true ↔ l ≤ v ∧ v ≤ m := by simp [wholeB]
theorem lenB_iff {α : Type} {xs : List α} {l m : Int} : lenB xs l m = true ↔ l ≤ (xs.length : Int) ∧ (xs.length : Int) ≤ m := by simp [lenB]

noncomputable def nst (ts : List Tab) : Nat := (ts.headD []).length
structure Ok (b : Int) (ts : List Tab) : Prop where
  b1 : 2 ≤ b
  b2 : b ≤ 10
  t1 : 1 ≤ ts.length
  t2 : ts.length ≤ 6
  n1 : 1 ≤ nst ts
  n2 : nst ts ≤ 12
  rows : ∀ t ∈ ts, t.length = nst ts
  figs : ∀ t ∈ ts, ∀ r ∈ t, (r.length : Int) = b
  ents : ∀ t ∈ ts, ∀ r ∈ t, ∀ e ∈ r, 0 ≤ e ∧ e < (nst ts : Int)
theorem schB_iff {b : Int} {ts : List Tab} : schB b ts = true ↔ Ok b ts := by
  unfold schB tabsB tabB rowB
  simp only [Bool.and_eq_true, wholeB_iff, lenB_iff, List.all_eq_true, List.mem_map, id_eq, forall_exists_index, and_imp, forall_apply_eq_imp_iff₂]
  constructor
  · rintro ⟨⟨h1, h2⟩, ⟨⟨h3, h4⟩, h5, h6⟩, h7⟩
    refine ⟨h1, h2, by omega, by omega, by unfold nst; omega, by unfold nst; omega, fun t ht => ?_, fun t ht r hr => ?_, fun t ht r hr e he => ?_⟩
    · have := (h7 t ht).1
      unfold nst
      omega
    · have := ((h7 t ht).2 r hr).1
      omega
    · have := ((h7 t ht).2 r hr).2 e he
      unfold nst
      omega
  · intro h
    have := h.b1
    have := h.b2
    have := h.t1
    have := h.t2
    have h1 := h.n1
    have h2 := h.n2
    unfold nst at h1 h2
    refine ⟨⟨h.b1, h.b2⟩, ⟨⟨by omega, by omega⟩, by omega, by omega⟩, fun t ht => ⟨?_, fun r hr => ⟨?_, fun e he => ?_⟩⟩⟩
    · have := h.rows t ht
      unfold nst at this
      omega
    · have := h.figs t ht r hr
      omega
    · have := h.ents t ht r hr e he
      unfold nst at this
      omega


noncomputable def ent (ts : List Tab) (t : Nat) (s f : Int) : Int := ((ts.getD t []).getD s.toNat []).getD f.toNat 0
noncomputable def rd (ts : List Tab) : Nat → Int → List Int → Int
  | _, s, [] => s
  | t, s, f :: fs => rd ts (t + 1) (ent ts (t % ts.length) s f) fs
theorem rd_snoc (ts : List Tab) : ∀ (fs : List Int) (t : Nat) (s f : Int), rd ts t s (fs ++ [f]) = ent ts ((t + fs.length) % ts.length) (rd ts t s fs) f
  | [], t, s, f => by simp [rd]
  | g :: fs, t, s, f => by
    rw [List.cons_append]
    unfold rd
    rw [rd_snoc ts fs]
    have e : t + 1 + fs.length = t + (g :: fs).length := by simp; omega
    rw [e]
theorem take_succ_get {α : Type} {xs : List α} {i : Nat} {x : α} (h : xs[i]? = some x) : xs.take (i + 1) = xs.take i ++ [x] := by
  rw [List.take_add_one, h]
  rfl
noncomputable def figsIn (b : Int) (fs : List Int) : Prop := ∀ f ∈ fs, 0 ≤ f ∧ f < b
theorem Ok.look {b : Int} {ts : List Tab} (o : Ok b ts) {t : Nat} {s f : Int} (ht : t < ts.length) (s0 : 0 ≤ s) (s1 : s < (nst ts : Int)) (f0 : 0 ≤ f) (f1 : f < b) :
    ∃ tab row, ts[t]? = some tab ∧ tab[s.toNat]? = some row ∧ row[f.toNat]? = some (ent ts t s f) ∧ 0 ≤ ent ts t s f ∧ ent ts t s f < (nst ts : Int) := by
  have h1 : ts[t] ∈ ts := List.getElem_mem ht
  have l1 := o.rows _ h1
  have hs : s.toNat < ts[t].length := by omega
  have h2 : ts[t][s.toNat] ∈ ts[t] := List.getElem_mem hs
  have l2 := o.figs _ h1 _ h2
  have hf : f.toNat < ts[t][s.toNat].length := by omega
  have h3 : ts[t][s.toNat][f.toNat] ∈ ts[t][s.toNat] := List.getElem_mem hf
  have e : ent ts t s f = ts[t][s.toNat][f.toNat] := by
    unfold ent
    simp [List.getD_eq_getElem?_getD, ht, hs, hf]
  rw [e]
  exact ⟨ts[t], ts[t][s.toNat], by simp [ht], by simp [hs], by simp [hf], o.ents _ h1 _ h2 _ h3⟩
theorem Ok.rd_lt {b : Int} {ts : List Tab} (o : Ok b ts) : ∀ (fs : List Int) (t : Nat) (s : Int), 0 ≤ s → s < (nst ts : Int) → figsIn b fs → 0 ≤ rd ts t s fs ∧ rd ts t s fs < (nst ts : Int)
  | [], t, s, h0, h1, _ => ⟨h0, h1⟩
  | f :: fs, t, s, h0, h1, hf => by
    unfold rd
    have hm : t % ts.length < ts.length := Nat.mod_lt _ o.t1
    obtain ⟨_, _, _, _, _, e0, e1⟩ := o.look hm h0 h1 (hf f List.mem_cons_self).1 (hf f List.mem_cons_self).2
    exact Ok.rd_lt o fs _ _ e0 e1 fun g hg => hf g (List.mem_cons_of_mem _ hg)
theorem atI_int {α : Type} {xs : List α} {i : Int} {v : α} (h0 : 0 ≤ i) (h : xs[i.toNat]? = some v) : atI xs i = some v := by
  have e := atI_nat h
  rwa [Int.toNat_of_nonneg h0] at e

theorem TabsAt.look {H : Hp} {v : V} {b : Int} {ts : List Tab} (h : TabsAt H v ts) (o : Ok b ts) {t : Nat} {s f : Int} (ht : t < ts.length) (s0 : 0 ≤ s) (s1 : s < (nst ts : Int)) (f0 : 0 ≤ f) (f1 : f < b) :
    ∃ a1 x1 y1 a2 x2 y2 a3 x3, v = .ref a1 ∧ H a1 = some (.tup x1) ∧ atI x1 (t : Int) = some y1 ∧ y1 = .ref a2 ∧ H a2 = some (.tup x2) ∧ atI x2 s = some y2 ∧ y2 = .ref a3 ∧ H a3 = some (.tup x3) ∧ atI x3 f = some (.int (ent ts t s f)) := by
  obtain ⟨tab, row, e1, e2, e3, _, _⟩ := o.look ht s0 s1 f0 f1
  obtain ⟨a1, x1, rfl, h1, p1⟩ := h
  obtain ⟨y1, q1, ⟨a2, x2, z1, h2, p2⟩⟩ := paired_get p1 _ _ e1
  obtain ⟨y2, q2, ⟨a3, z2, h3⟩⟩ := paired_get p2 _ _ e2
  refine ⟨a1, x1, y1, a2, x2, y2, a3, _, rfl, h1, atI_nat q1, z1, h2, atI_int s0 q2, z2, h3, atI_int f0 ?_⟩
  rw [List.getElem?_map, e3]
  rfl
theorem TabsAt.len {H : Hp} {v : V} {ts : List Tab} (h : TabsAt H v ts) : ∃ a xs, v = .ref a ∧ H a = some (.tup xs) ∧ xs.length = ts.length := by
  obtain ⟨a1, x1, e, h1, p1⟩ := h
  exact ⟨a1, x1, e, h1, paired_length p1⟩
end My

set_option maxHeartbeats 1000000
namespace L2
open PySem PySem.Spec PyProof.Rows

inductive KR (K : PySem.W.Frag) (H : Hp) : V → PyData → Prop
  | int (i : Int) : KR K H (.int i) (.int i)
  | bl (b : Bool) : KR K H (.bl b) (.bool b)
  | non : KR K H .non .none
  | tup {a : Addr} {xs : List V} {ds : List PyData} : SqT K H a xs → xs.length = ds.length → (∀ (i : Nat) x d, xs[i]? = some x → ds[i]? = some d → KR K H x d) → KR K H (.ref a) (.tuple ds)
theorem KR.mono {K : PySem.W.Frag} {H H' : Hp} (s : ∀ a xs, SqT K H a xs → SqT K H' a xs) {v : V} {d : PyData} (h : KR K H v d) : KR K H' v d := by
  induction h with
  | int i => exact .int i
  | bl b => exact .bl b
  | non => exact .non
  | tup h1 h2 _ ih => exact .tup (s _ _ h1) h2 ih
theorem repAll_of {K : PySem.W.Frag} {H : Hp} : ∀ {xs : List V} {ds : List PyData}, xs.length = ds.length → (∀ (i : Nat) x d, xs[i]? = some x → ds[i]? = some d → Rep K H x d) → RepAll K H xs ds
  | [], [], _, _ => .nil
  | [], _ :: _, h, _ => by simp at h
  | _ :: _, [], h, _ => by simp at h
  | x :: xs, d :: ds, h, f => .cons (f 0 x d rfl rfl) (repAll_of (by simpa using h) fun i y e h1 h2 => f (i + 1) y e (by simpa using h1) (by simpa using h2))
theorem KR.rep {K : PySem.W.Frag} {H : Hp} {v : V} {d : PyData} (h : KR K H v d) : Rep K H v d := by
  induction h with
  | int i => exact .int i
  | bl b => exact .bl b
  | non => exact .non
  | tup h1 h2 _ ih => exact .tup h1 (repAll_of h2 ih)

structure KeyAt (K : PySem.W.Frag) (H : Hp) (c : Bool) (a : Addr) (k : PyData) : Prop where
  kr : KR K H (.ref a) k
  key : keyD c k = true
  deep : k.depth ≤ 8
theorem KeyAt.mono {K : PySem.W.Frag} {H H' : Hp} {c : Bool} {a : Addr} {k : PyData} (s : ∀ a xs, SqT K H a xs → SqT K H' a xs) (h : KeyAt K H c a k) : KeyAt K H' c a k := ⟨h.kr.mono s, h.key, h.deep⟩
theorem KeyAt.same {K : PySem.W.Frag} {H H' : Hp} {c : Bool} {a : Addr} {k : PyData} (s : Same H H') (h : KeyAt K H c a k) : KeyAt K H' c a k := h.mono fun _ _ => s.seqT
noncomputable def dφ (P : Program) (w : World) (c : Bool) (d : Addr) (xs : List (PyData × Addr × Value)) (ep : Nat) : Heap → Prop := fun h => (d == sysModules) = false ∧ ∃ o es, h.get? d = some o ∧ o.ExactDict ∧ o.data = .dict es ep ∧ es.toList = xs.map (entryOfKey (nkKind P w c)) ∧ (xs.map (·.1)).Nodup
theorem dφ_ok {P : Program} {w : World} {H : Hp} {h : Heap} {c : Bool} {d : Addr} {xs : List (PyData × Addr × Value)} {ep : Nat} (e : dφ P w c d xs ep h) : ObjOk P w H h d (.ext (dφ P w c d xs ep)) := by
  obtain ⟨h0, o, es, h1, r⟩ := id e
  exact ⟨e, ⟨o, h1⟩, fun g1 g2 ⟨h0, o, es, h1, r⟩ k => ⟨h0, o, es, k o h1, r⟩⟩
noncomputable abbrev DRel (K : PySem.W.Frag) (H : Hp) (c : Bool) : List (PyData × V) → List (PyData × Addr × Value) → Prop := Paired fun p q => p.1 = q.1 ∧ KeyAt K H c q.2.1 p.1 ∧ RelV p.2 q.2.2

structure DAt (P : Program) (w : World) (K : PySem.W.Frag) (c : Bool) (H : Hp) (d : Addr) (kvs : List (PyData × V)) : Prop where
  ex : ∃ xs ep, H d = some (.ext (dφ P w c d xs ep)) ∧ DRel K H c kvs xs
  few : kvs.length ≤ sizeLine
noncomputable def valN (kvs : List (PyData × V)) (k : PyData) : Option V := (kvs.find? fun p => decide (p.1 = k)).map (·.2)
noncomputable def putN (kvs : List (PyData × V)) (k : PyData) (v : V) : List (PyData × V) := if (valN kvs k).isSome then kvs.map (fun p => if p.1 = k then (p.1, v) else p) else kvs ++ [(k, v)]
theorem DRel.val {K : PySem.W.Frag} {H : Hp} {c : Bool} {kvs : List (PyData × V)} {xs : List (PyData × Addr × Value)} (r : DRel K H c kvs xs) (k : PyData) : RelO (valN kvs k) ((atKey xs k).map (·.2)) := by
  unfold DRel at r
  induction r with
  | nil => exact True.intro
  | @cons p q ps qs h t ih =>
    unfold valN atKey at ih ⊢
    rw [List.find?_cons, List.find?_cons, ← h.1]
    by_cases e : p.1 = k
    · rw [decide_eq_true e]
      exact h.2.2
    · rw [decide_eq_false e]
      exact ih
theorem DRel.put {K : PySem.W.Frag} {H : Hp} {c : Bool} {kvs : List (PyData × V)} {xs : List (PyData × Addr × Value)} (r : DRel K H c kvs xs) {k : PyData} {b : Addr} {v : V} {u : Value} (hk : KeyAt K H c b k) (rv : RelV v u) :
    DRel K H c (putN kvs k v) (storedH xs k b u) := by
  have e : (valN kvs k).isSome = (atKey xs k).isSome := by
    have := r.val k
    cases h1 : valN kvs k <;> cases h2 : atKey xs k <;> rw [h1, h2] at this <;> simp_all [RelO]
  unfold putN storedH
  rw [e]
  by_cases q : (atKey xs k).isSome = true
  · rw [if_pos q, if_pos q]
    clear e q
    unfold DRel at r ⊢
    induction r with
    | nil => exact .nil
    | @cons p q ps qs h t ih =>
      refine .cons ?_ ih
      unfold putAt
      by_cases e : p.1 = k
      · simp only [if_pos e, if_pos (h.1.symm.trans e)]
        exact ⟨h.1, h.2.1, rv⟩
      · simp only [if_neg e, if_neg (fun z => e (h.1.trans z))]
        exact h
  · rw [if_neg q, if_neg q]
    exact My.paired_snoc r ⟨rfl, hk, rv⟩
theorem DRel.mono {K : PySem.W.Frag} {H H' : Hp} {c : Bool} {kvs : List (PyData × V)} {xs : List (PyData × Addr × Value)} (s : ∀ a xs, SqT K H a xs → SqT K H' a xs) (r : DRel K H c kvs xs) : DRel K H' c kvs xs :=
  My.paired_imp (fun _ _ h => ⟨h.1, h.2.1.mono s, h.2.2⟩) r
theorem DAt.same {P : Program} {w : World} {K : PySem.W.Frag} {c : Bool} {H H' : Hp} {d : Addr} {kvs : List (PyData × V)} (s : Same H H') (h : DAt P w K c H d kvs) : DAt P w K c H' d kvs := by
  obtain ⟨⟨xs, ep, e, r⟩, z⟩ := h
  exact ⟨⟨xs, ep, s _ _ e, r.mono fun _ _ => s.seqT⟩, z⟩

theorem seqT_put {K : PySem.W.Frag} {H : Hp} {d : Addr} {φ : Heap → Prop} {o : HO} (h : H d = some (.ext φ)) (a : Addr) (xs : List V) (t : SqT K H a xs) : SqT K (upd H d o) a xs := by
  rcases t with (t | ⟨ob, t⟩) | t
  · exact .inl (.inl (by rw [upd_ne (ne_of t h (by intro z; cases z))]; exact t))
  · exact .inl (.inr ⟨ob, by rw [upd_ne (ne_of t h (by intro z; cases z))]; exact t⟩)
  · exact .inr t
theorem seqT_putL {K : PySem.W.Frag} {H : Hp} {d : Addr} {ys : List V} {o : HO} (h : H d = some (.lst ys)) (a : Addr) (xs : List V) (t : SqT K H a xs) : SqT K (upd H d o) a xs := by
  rcases t with (t | ⟨ob, t⟩) | t
  · exact .inl (.inl (by rw [upd_ne (ne_of t h (by intro z; cases z))]; exact t))
  · exact .inl (.inr ⟨ob, by rw [upd_ne (ne_of t h (by intro z; cases z))]; exact t⟩)
  · exact .inr t

theorem DAt.putL {P : Program} {w : World} {K : PySem.W.Frag} {c : Bool} {H : Hp} {d l : Addr} {kvs : List (PyData × V)} {ys : List V} {o : HO} (h : DAt P w K c H d kvs) (hl : H l = some (.lst ys)) : DAt P w K c (upd H l o) d kvs := by
  obtain ⟨⟨xs, ep, e, r⟩, z⟩ := h
  refine ⟨⟨xs, ep, ?_, r.mono fun a xs t => seqT_putL hl a xs t⟩, z⟩
  rw [upd_ne (ne_of e hl (by intro z; cases z))]
  exact e
theorem KeyAt.putL {K : PySem.W.Frag} {H : Hp} {c : Bool} {a l : Addr} {k : PyData} {ys : List V} {o : HO} (h : KeyAt K H c a k) (hl : H l = some (.lst ys)) : KeyAt K (upd H l o) c a k := h.mono fun a xs t => seqT_putL hl a xs t
section
variable {X : Cx} {pins : List (Addr × Obj)} {σ : St} {H : Hp} {s : Shared}
theorem KeyAt.is {c : Bool} {a : Addr} {k : PyData} (I : Inv X pins σ H s) (h : KeyAt X.K H c a k) : (nkKind X.prog X.w c).is s.heap k a := by
  obtain ⟨as, r⟩ := Rep.reads I h.kr.rep (u := .ref a) rfl
  exact ⟨h.key, h.deep, as, r⟩
theorem dn_of {c : Bool} {d : Addr} {xs : List (PyData × Addr × Value)} {ep : Nat} {kvs : List (PyData × V)} (I : Inv X pins σ H s) (e : H d = some (.ext (dφ X.prog X.w c d xs ep))) (r : DRel X.K H c kvs xs) : (d == sysModules) = false ∧ s.heap.DictOfH (nkKind X.prog X.w c) d xs := by
  obtain ⟨⟨h0, o, es, h1, h2, h3, h4, h5⟩, _, _⟩ := (show ObjOk X.prog X.w H s.heap d (.ext (dφ X.prog X.w c d xs ep)) from I.hok d _ e)
  refine ⟨h0, o, es, ep, h1, h2, h3, h4, fun x hx => ?_, h5⟩
  have all : ∀ {l : List (PyData × V)} {m : List (PyData × Addr × Value)}, DRel X.K H c l m → ∀ x ∈ m, (nkKind X.prog X.w c).is s.heap x.1 x.2.1 := by
    intro l m q
    unfold DRel at q
    induction q with
    | nil => intro x hx; cases hx
    | @cons p q ps qs hq t ih =>
      intro x hx
      rcases List.mem_cons.mp hx with e | hx
      · subst e
        rw [← hq.1]
        exact hq.2.1.is I
      · exact ih x hx
  exact all r x hx
end

noncomputable def NGet (P : Program) (w : World) (K : PySem.W.Frag) (c : Bool) (H : Hp) (a : Addr) (y : V) (r : Option V) : Prop := ∃ kvs k b, DAt P w K c H a kvs ∧ y = .ref b ∧ KeyAt K H c b k ∧ r = valN kvs k
section
variable {X : Cx} {o i e value : Expr} {pos pos' tpos : Pos} {td ty tv : TE} {c : Bool}
theorem nroom {X : Cx} (hu : X.A.units + 64 < cLine) : X.A.in1.units + 8 < cLine := by
  rw [Around.in1_units]
  omega
noncomputable def tNGet (X : Cx) (c : Bool) (td ty : TE) : TE := fun σ H Q => td σ H fun x H1 => ty σ H1 fun y H2 => ∃ a v, x = .ref a ∧ NGet X.prog X.w X.K c H2 a y (some v) ∧ Q v H2
theorem subN_of {prog : Program} {w : World} {A : Around} {E : Value → Shared → Prop} {s : Shared} {env : Env} {value slice : Expr} {pos : Pos} {T id : String} {Q : Value → Shared → Prop}
    (hl : typeLookup (.type T) "__getitem__" = pure (some (.builtin id))) (hs : PlainIx slice)
    (h : wpAny (model prog w) A (eval value env) (fun o s₁ => wpAny (model prog w) A (eval slice env) (fun i s₂ => s₂.TypeIs o T ∧ wpAny (model prog w) A (getItem o i) Q E s₂) E s₁) E s) :
    wpAny (model prog w) A (eval (.Subscript value slice pos) env) Q E s := by
  refine Subscript_ (wpAny_mono h (fun o s₁ h₁ => wpAny_mono h₁ (fun i s₂ h₂ => ?_) fun _ _ x => x) fun _ _ x => x)
  obtain ⟨hT, h₂⟩ := h₂
  unfold subscriptTail
  refine wpAny_bind ?_
  rw [getitemInPython_of_ne hT.not_modules]
  refine wpAny_bind (wpAny_specialOf hT hl ?_)
  have fin : wpAny (model prog w) A (subscripted slice false o i) (fun r s₃ => wpAny (model prog w) A (letTemporaryGo value o r >>= fun _ => pure r) Q E s₃) E s₂ := by
    rw [hs o i]
    exact wpAny_operating (wpAny_mono h₂ (fun r s₃ h₃ => wpAny_bind (wpAny_letTemporaryGo (wpAny_pure h₃))) fun _ _ x => x)
  first
    | exact wpAny_pure (wpAny_bind fin)
    | exact wpAny_bind (wpAny_pure (wpAny_bind fin))
    | exact wpAny_bind fin
theorem pe_nget (c : Bool) (hu : X.A.units + 64 < cLine) (ho : PE X o td) (hi : PE X i ty) (hs : PlainIx i) : PE X (.Subscript o i pos) (tNGet X c td ty) := by
  intro pins s σ H Q I h
  refine subN_of PySem.F.slot_dict_getitem.lookup hs (thnE (ho pins s σ H _ I h) fun u s1 x H1 I1 rx q1 => thnE (hi pins s1 σ H1 _ I1 q1) fun iv s2 y H2 I2 ry zz8 => ?_)
  obtain ⟨a, v, ex, ⟨kvs, k, b, ⟨⟨xs, ep0, he, hr⟩, hz⟩, ey, hk, hv⟩, q2⟩ := zz8
  subst ex
  subst ey
  obtain rfl : u = Value.ref a := rx
  obtain rfl : iv = Value.ref b := ry
  obtain ⟨hd, dd⟩ := dn_of I2 he hr
  obtain ⟨w', hw, rw'⟩ := RelO.some_of (v := v) (o := (atKey xs k).map (·.2)) (by rw [hv]; exact hr.val k)
  obtain ⟨p, hp, hp2⟩ := Option.map_eq_some_iff.mp hw
  refine ⟨dd.typeIs, wpAny_getItem_heap (nroom hu) (hk.is I2) dd hp ?_⟩
  rw [hp2]
  exact ⟨v, H2, I2.tok _, rw', q2⟩
theorem isSome_rel {kvs : List (PyData × V)} {xs : List (PyData × Addr × Value)} {K : PySem.W.Frag} {H : Hp} (r : DRel K H c kvs xs) (k : PyData) : (atKey xs k).isSome = (valN kvs k).isSome := by
  have := r.val k
  cases h1 : valN kvs k <;> cases h2 : atKey xs k <;> rw [h1, h2] at this <;> simp_all [RelO]
theorem op_nnotin (c : Bool) (hu : X.A.units + 64 < cLine) : OpR X (compareOp .NotIn) (fun y x H Q => ∃ a r, x = .ref a ∧ NGet X.prog X.w X.K c H a y r ∧ Q (.bl (!r.isSome)) H) := by
  intro pins s σ H y x v u Q I ry rx h
  obtain ⟨a, r, rfl, ⟨kvs, k, b, ⟨⟨xs, ep0, he, hr⟩, hz⟩, rfl, hk, hv⟩, q⟩ := h
  cases rx
  cases ry
  obtain ⟨hd, dd⟩ := dn_of I he hr
  refine wpAny_notIn_heap (nroom hu) (hk.is I) hd dd ?_
  rw [isSome_rel hr, ← hv]
  exact ⟨.bl _, H, I.tok _, rfl, q⟩

noncomputable def sNPut (X : Cx) (c : Bool) (td ty tv : TE) : TS := fun D σ H => tv σ H fun v H1 => td σ H1 fun x H2 => ty σ H2 fun y H3 => ∃ a b kvs k, x = .ref a ∧ y = .ref b ∧ DAt X.prog X.w X.K c H3 a kvs ∧ KeyAt X.K H3 c b k ∧ kvs.length < sizeLine ∧
  ∀ xs ep, DAt X.prog X.w X.K c (upd H3 a (.ext (dφ X.prog X.w c a xs ep))) a (putN kvs k v) → D.nx σ (upd H3 a (.ext (dφ X.prog X.w c a xs ep)))
theorem length_putN (kvs : List (PyData × V)) (k : PyData) (v : V) : (putN kvs k v).length ≤ kvs.length + 1 := by
  unfold putN
  split
  · rw [List.length_map]; omega
  · rw [List.length_append, List.length_singleton]; exact Nat.le_refl _
theorem ps_nput (c : Bool) (hu : X.A.units + 64 < cLine) (ho : PE X o td) (hi : PE X i ty) (hv : PE X value tv) (hs : swapsWith value (some (.Subscript o i pos')) pos.line X.env = pure false) :
    PS X (.Assign [.Subscript o i pos'] value pos) (sNPut X c td ty tv) := by
  intro pins s σ H D I h
  refine wpAny_Assign_Subscript (thnE (hv pins s σ H _ I h) fun r s1 v H1 I1 rv q1 => thnE (ho pins s1 σ H1 _ I1 q1) fun u s2 x H2 I2 rx q2 => thnE (hi pins s2 σ H2 _ I2 q2) fun iv s3 y H3 I3 ry zz9 => ?_) hs
  obtain ⟨a, b, kvs, k, ex, ey, ⟨⟨xs, ep0, he, hr⟩, hz⟩, hk, hl, q3⟩ := zz9
  subst ex
  subst ey
  obtain rfl : u = Value.ref a := rx
  obtain rfl : iv = Value.ref b := ry
  obtain ⟨hd, dd⟩ := dn_of I3 he hr
  have hz2 : xs.length ≤ sizeLine := by rw [← My.paired_length hr]; exact hz
  refine wpAny_setItem_heap (hsz := hz2) (nroom hu) (hk.is I3) dd fun h' dd' hs' => ?_
  obtain ⟨q, es, ep, hq, h2, h3, h4, _, h5⟩ := dd'
  have hp := length_putN kvs k v
  refine ⟨σ, _, I3.write (t' := s3.toks + (nkKind X.prog X.w c).draws k) (x := a) (e := a) (o := .ext (dφ X.prog X.w c a (storedH xs k b r) ep)) (by rw [he]; exact True.intro) (.inl rfl) (fun b q hb z => (hs'.2 b hb).trans z) ⟨q, hq⟩ (dφ_ok ⟨hd, q, es, hq, h2, h3, h4, h5⟩), q3 (storedH xs k b r) ep ?_⟩
  refine ⟨⟨_, _, upd_same, (hr.put hk rv).mono fun a xs t => seqT_put he a xs t⟩, by omega⟩

noncomputable def tNDisp1 (X : Cx) (c : Bool) (tk tv : TE) : TE := fun σ H Q => ∀ p, H p = none → tk σ (upd H p (.ext (dφ X.prog X.w c p [] 0))) fun y H1 => tv σ H1 fun v H2 => ∃ b k, y = .ref b ∧ H2 p = some (.ext (dφ X.prog X.w c p [] 0)) ∧ KeyAt X.K H2 c b k ∧
  ∀ xs ep, DAt X.prog X.w X.K c (upd H2 p (.ext (dφ X.prog X.w c p xs ep))) p [(k, v)] → Q (.ref p) (upd H2 p (.ext (dφ X.prog X.w c p xs ep)))
theorem big_of {pins : List (Addr × Obj)} {σ : St} {H : Hp} {s : Shared} (I : Inv X pins σ H s) : sysModules < s.heap.objs.size := by
  have h : mainGlobals < s.heap.objs.size := (I.mod.glob.keeps I.bk).lt
  exact Nat.lt_trans (by decide) h
theorem Inv.newN {pins : List (Addr × Obj)} {σ : St} {H : Hp} {s : Shared} {t' : Nat} (c : Bool) (I : Inv X pins σ H s) : Inv X pins σ (upd H s.heap.objs.size (.ext (dφ X.prog X.w c s.heap.objs.size [] 0))) { s with heap := s.heap.push { cls := .type "dict", data := .dict #[] }, toks := t' } :=
  I.laid (a := s.heap.objs.size) (fun _ _ q => Heap.get?_push_of_some _ q) (Nat.le_refl _) (dφ_ok ⟨beq_eq_false_iff_ne.mpr (Ne.symm (Nat.ne_of_lt (big_of I))), _, #[], Heap.get?_push_size _ rfl, ⟨rfl, rfl, rfl⟩, rfl, rfl, List.nodup_nil⟩)
theorem pe_ndisp1 {k v : Expr} {tk tv : TE} (c : Bool) (hu : X.A.units + 64 < cLine) (hk : PE X k tk) (hv : PE X v tv) : PE X (.Dict [some k] [v] pos) (tNDisp1 X c tk tv) := by
  intro pins s σ H Q I h
  have hn := I.hok.fresh (Nat.le_refl s.heap.objs.size)
  have I1 := I.newN (t' := s.toks) c
  refine wpAny_Dict_any rfl rfl (by simp) (by show 1 ≤ 15; decide) (pairTrees_cons_walk (thnE (hk pins _ σ _ _ I1 (h _ hn)) fun u s1 y H1 I2 ry q1 => thnE (hv pins s1 σ H1 _ I2 q1) fun w2 s2 z H2 I3 rz zz10 => pairTrees_nil_walk ?_))
  obtain ⟨b, kd, ey, e2, hkd, q2⟩ := zz10
  subst ey
  obtain rfl : u = Value.ref b := ry
  obtain ⟨hd, dd⟩ := dn_of I3 e2 (kvs := []) .nil
  unfold storeAll
  rw [List.forIn_cons]
  refine wpAny_bind (wpAny_bind (wpAny_dictSet_heap (hsz := by simp) (by show X.A.units + 8 < cLine; omega) (hkd.is I3) dd fun h' dd' hs' => wpAny_pure ?_))
  show wpAny _ _ (pure PUnit.unit) _ _ _
  refine wpAny_pure ?_
  obtain ⟨q, es, ep, hq, h2, h3, h4, _, h5⟩ := dd'
  refine ⟨.ref s.heap.objs.size, _, I3.write (t' := s2.toks + (nkKind X.prog X.w c).draws kd) (x := s.heap.objs.size) (e := s.heap.objs.size) (o := .ext (dφ X.prog X.w c s.heap.objs.size (storedH [] kd b w2) ep)) (by rw [e2]; exact True.intro) (.inl rfl) (fun b q hb z => (hs'.2 b hb).trans z) ⟨q, hq⟩ (dφ_ok ⟨hd, q, es, hq, h2, h3, h4, h5⟩), rfl, q2 _ ep ?_⟩
  refine ⟨⟨_, _, upd_same, ?_⟩, by show 1 ≤ sizeLine; decide⟩
  exact .cons ⟨rfl, hkd.mono fun a xs t => seqT_put e2 a xs t, rz⟩ .nil

end
end L2


namespace My
section
variable {ν : Type} {lam : Type} (succ : ν → List (lam × ν))

inductive Wk : ν → List lam → ν → Prop
  | nil (n : ν) : Wk n [] n
  | snoc {n m k : ν} {ls : List lam} {l : lam} : Wk n ls m → (l, k) ∈ succ m → Wk n (ls ++ [l]) k
end
section
variable {ν : Type} {lam : Type} {succ : ν → List (lam × ν)} {fin : ν → Bool} {start : ν}

structure Arr (succ : ν → List (lam × ν)) (start : ν) (arr : List (ν × List lam)) : Prop where
  nd : (arr.map (·.1)).Nodup
  wk : ∀ n ls, (n, ls) ∈ arr → Wk succ start ls n
  st : (start, []) ∈ arr
  par : ∀ n ls l, (n, ls ++ [l]) ∈ arr → ∃ p, (p, ls) ∈ arr ∧ (l, n) ∈ succ p
noncomputable def Has' (arr : List (ν × List lam)) (n : ν) : Prop := ∃ ls, (n, ls) ∈ arr

noncomputable def Done (succ : ν → List (lam × ν)) (fin : ν → Bool) (arr : List (ν × List lam)) (d : Nat) (n : ν) : Prop := fin n = false ∧ ∀ l m, (l, m) ∈ succ n → ∃ ls, (m, ls) ∈ arr ∧ ls.length ≤ d + 1
theorem Done.more {arr arr' : List (ν × List lam)} {d : Nat} {n : ν} (s : ∀ x ∈ arr, x ∈ arr') (h : Done succ fin arr d n) : Done succ fin arr' d n :=
  ⟨h.1, fun l m hm => by obtain ⟨ls, h1, h2⟩ := h.2 l m hm; exact ⟨ls, s _ h1, h2⟩⟩
theorem nodup_le [DecidableEq ν] : ∀ {l u : List ν}, l.Nodup → (∀ x ∈ l, x ∈ u) → l.length ≤ u.length
  | [], _, _, _ => Nat.zero_le _
  | x :: l, u, h, s => by
    rw [List.nodup_cons] at h
    have hx := s x List.mem_cons_self
    have := nodup_le (l := l) (u := u.erase x) h.2 fun y hy => by
      have hne : y ≠ x := fun e => h.1 (by rw [← e]; exact hy)
      exact (List.mem_erase_of_ne hne).mpr (s y (List.mem_cons_of_mem _ hy))
    rw [List.length_erase_of_mem hx] at this
    have hp : 0 < u.length := List.length_pos_of_mem hx
    rw [List.length_cons]
    omega

theorem cover {arr : List (ν × List lam)} {d : Nat} (A : Arr succ start arr) (done : ∀ n ls, (n, ls) ∈ arr → ls.length < d → Done succ fin arr ls.length n) :
    ∀ {ls : List lam} {m : ν}, Wk succ start ls m → ls.length ≤ d → ∃ ls', (m, ls') ∈ arr ∧ ls'.length ≤ ls.length := by
  intro ls m h
  induction h with
  | nil => intro _; exact ⟨[], A.st, Nat.le_refl _⟩
  | @snoc m k ls l _ he ih =>
    intro hl
    rw [List.length_append, List.length_singleton] at hl ⊢
    obtain ⟨ls', h1, h2⟩ := ih (by omega)
    obtain ⟨ls2, h3, h4⟩ := (done m ls' h1 (by omega)).2 l k he
    exact ⟨ls2, h3, by omega⟩

theorem least {arr : List (ν × List lam)} {d : Nat} (A : Arr succ start arr) (done : ∀ n ls, (n, ls) ∈ arr → ls.length < d → Done succ fin arr ls.length n) {ls : List lam} {m : ν} (h : Wk succ start ls m) (hf : fin m = true) : d ≤ ls.length := by
  by_cases hl : ls.length < d
  · obtain ⟨ls', h1, h2⟩ := cover A done h (by omega)
    have := (done m ls' h1 (by omega)).1
    rw [this] at hf
    cases hf
  · omega

theorem none_left {arr : List (ν × List lam)} (A : Arr succ start arr) (done : ∀ n ls, (n, ls) ∈ arr → Done succ fin arr ls.length n) {ls : List lam} {m : ν} (h : Wk succ start ls m) : fin m = false := by
  obtain ⟨ls', h1, _⟩ := cover (d := ls.length) A (fun n ls h _ => done n ls h) h (Nat.le_refl _)
  exact (done m ls' h1).1
theorem Arr.add {arr : List (ν × List lam)} (A : Arr succ start arr) {p k : ν} {ls : List lam} {l : lam} (hp : (p, ls) ∈ arr) (he : (l, k) ∈ succ p) (hn : ¬ Has' arr k) : Arr succ start (arr ++ [(k, ls ++ [l])]) := by
  refine ⟨?_, fun n ls' h => ?_, List.mem_append_left _ A.st, fun n ls' l' h => ?_⟩
  · rw [List.map_append, List.nodup_append]
    refine ⟨A.nd, by simp, fun x hx y hy => ?_⟩
    rw [List.map_singleton, List.mem_singleton] at hy
    subst hy
    intro e
    subst e
    obtain ⟨q, hq, e⟩ := List.mem_map.mp hx
    exact hn ⟨q.2, by rw [← e]; exact hq⟩
  · rcases List.mem_append.mp h with h | h
    · exact A.wk n ls' h
    · have h' := List.mem_singleton.mp h
      cases h'
      exact .snoc (A.wk p ls hp) he
  · rcases List.mem_append.mp h with h | h
    · obtain ⟨q, h1, h2⟩ := A.par n ls' l' h
      exact ⟨q, List.mem_append_left _ h1, h2⟩
    · have h' := Prod.mk.inj (List.mem_singleton.mp h)
      obtain ⟨e1, e2⟩ := h'
      obtain ⟨e3, e4⟩ := List.append_inj' e2 rfl
      cases e4
      subst e1 e3
      exact ⟨p, List.mem_append_left _ hp, he⟩
theorem Arr.pre {arr : List (ν × List lam)} (A : Arr succ start arr) : ∀ (k : Nat) (n : ν) (ls : List lam), ls.length = k → (n, ls) ∈ arr → ∀ j, j ≤ k → ∃ p ls', (p, ls') ∈ arr ∧ ls'.length = j
  | 0, n, ls, e, h, j, hj => ⟨n, ls, h, by omega⟩
  | k + 1, n, ls, e, h, j, hj => by
    by_cases hk : j = k + 1
    · exact ⟨n, ls, h, by omega⟩
    · have hne : ls ≠ [] := by
        intro z
        subst z
        simp at e
      have el : ls = ls.dropLast ++ [ls.getLast hne] := (List.dropLast_concat_getLast hne).symm
      rw [el] at h
      obtain ⟨p, hp, _⟩ := A.par n _ _ h
      exact Arr.pre A k p ls.dropLast (by rw [List.length_dropLast]; omega) hp j (by omega)
theorem Arr.path_lt {arr : List (ν × List lam)} (A : Arr succ start arr) {n : ν} {ls : List lam} (h : (n, ls) ∈ arr) : ls.length < arr.length := by
  have h1 : (List.range (ls.length + 1)).length ≤ (arr.map fun x => x.2.length).length := nodup_le List.nodup_range fun j hj => by
    obtain ⟨p, ls', h1, h2⟩ := A.pre ls.length n ls rfl h j (by have := List.mem_range.mp hj; omega)
    exact List.mem_map.mpr ⟨_, h1, h2⟩
  rw [List.length_range, List.length_map] at h1
  omega
theorem Arr.start' (succ : ν → List (lam × ν)) (start : ν) : Arr succ start [(start, [])] := by
  refine ⟨by simp, fun n ls h => ?_, List.mem_singleton.mpr rfl, fun n ls l h => ?_⟩
  · have h' := List.mem_singleton.mp h
    cases h'
    exact .nil _
  · have h' := (Prod.mk.inj (List.mem_singleton.mp h)).2
    simp at h'
theorem Arr.keys_le {arr : List (ν × List lam)} (A : Arr succ start arr) {univ : List ν} [DecidableEq ν] (h : ∀ n ls, (n, ls) ∈ arr → n ∈ univ) : arr.length ≤ univ.length := by
  have h1 : (arr.map (·.1)).length ≤ univ.length := by
    have hs : ∀ x ∈ arr.map (·.1), x ∈ univ := fun x hx => by
      obtain ⟨q, hq, e⟩ := List.mem_map.mp hx
      subst e
      exact h q.1 q.2 hq
    exact nodup_le A.nd hs
  rwa [List.length_map] at h1
end
end My


set_option maxHeartbeats 2000000
namespace L2
open PySem PySem.Spec PyProof.Rows
theorem ObjOk.there {P : Program} {w : World} {H : Hp} {h : Heap} {a : Addr} {o : HO} (x : ObjOk P w H h a o) : ∃ u, h.get? a = some u := by
  cases o with
  | lst xs => obtain ⟨_, _, _, _, e⟩ := x; exact ⟨_, e⟩
  | tup xs => obtain ⟨_, _, _, u, e, _⟩ := x; exact ⟨_, e⟩
  | dK kvs => obtain ⟨_, _, _, _, o, _, _, e, _⟩ := x; exact ⟨_, e⟩
  | dT kvs => obtain ⟨_, _, _, _, o, _, _, e, _⟩ := x; exact ⟨_, e⟩
  | set S n => obtain ⟨o, _, _, _, e, _⟩ := x; exact ⟨_, e⟩
  | ins C dx fs => obtain ⟨_, _, _, e, _⟩ := x; exact ⟨_, e⟩
  | own y => obtain ⟨_, e⟩ := x; exact ⟨_, e⟩
  | xd fs => obtain ⟨_, ⟨_, _, _, e, _⟩, _⟩ := x; exact ⟨_, e⟩
  | rng lo hi => obtain ⟨_, _, _, e⟩ := x; exact ⟨_, e⟩
  | frz ob u => obtain ⟨e, _⟩ := x; exact ⟨_, e⟩
  | tbl ps => exact ⟨_, (show h.get? a = some _ from x)⟩
  | met f y => exact ⟨_, (show h.get? a = some _ from x)⟩
  | ext φ => obtain ⟨_, ⟨_, e⟩, _⟩ := x; exact ⟨_, e⟩

structure Fly (outer : List Env) (H : Hp) (h0 : Heap) (a C : Addr) (H' : Hp) (h : Heap) : Prop where
  ex : ∃ B t, Heap.FlyingW B outer a (.ref C) (.ref t) h ∧ (∀ b o, h0.get? b = some o → b ∉ frs outer → ∃ o', B.get? b = some o' ∧ (H b = none → o' = o)) ∧ ∀ b ob, H' b = some ob → ∃ o, B.get? b = some o

noncomputable def CXR (P : Program) (w : World) : CXT := fun outer H s E e s' => ∃ (a C : Addr) (H' : Hp), e = .ref a ∧ s'.os = s.os ∧ AllBare s'.gens ∧ Un (frs outer) [] H H' s.heap s'.heap ∧ HOk P w H' s'.heap ∧ H' a = none ∧ s.heap.get? a = none ∧ Fly outer H s.heap a C H' s'.heap ∧ E (.ref C) none H'
theorem frs_cons {env : Env} {l : List Env} {L : Addr} (h : env.frame = some L) : frs (env :: l) = L :: frs l := by
  unfold frs
  rw [List.filterMap_cons, h]

theorem hok_stays {P : Program} {w : World} {H : Hp} {B h h' : Heap} (ok : HOk P w H h) (c : ∀ b ob, H b = some ob → ∃ o, B.get? b = some o) (s1 : B.StaysIn h) (s2 : B.StaysIn h') : HOk P w H h' := fun b ob e => by
  refine (ok b ob e).stay (fun d v hd q => ?_) (fun _ q => q) fun _ _ q => q
  have hd' : ∃ o, B.get? d = some o := by
    rcases hd with rfl | hd
    · exact c _ _ e
    · exact c _ _ hd
  obtain ⟨o, ho⟩ := hd'
  have := s1 _ _ ho
  rw [q] at this
  cases this
  exact s2 _ _ ho
section
variable {X : Cx} {pins : List (Addr × Obj)} {σ : St} {H : Hp} {s : Shared}
theorem Inv.old (I : Inv X pins σ H s) {b : Addr} {o : Obj} (e : X.s₀.heap.get? b = some o) : b ≠ X.env.locals := Nat.ne_of_lt (Nat.lt_of_lt_of_le (Heap.lt_size e) I.ok.above)

theorem Inv.flown {H' : Hp} {B h h' : Heap} (I : Inv X pins σ H' { s with heap := h }) (hex : X.ex = []) (cov : ∀ b o, X.s₀.heap.get? b = some o → b ∉ X.fs → ∃ o', B.get? b = some o' ∧ (X.H₀ b = none → o' = o)) (st : B.StaysIn h') (up : ∀ b o, b ∈ X.fs → h.get? b = some o → (∀ vs, o.data ≠ .fields vs) → ∃ sl, h'.get? b = some { o with slots := sl }) :
    Un X.fs [] X.H₀ H' X.s₀.heap h' := by
  have nx : ∀ b : Addr, b ∉ X.ex := fun b => by rw [hex]; simp
  have slot : ∀ b o, X.s₀.heap.get? b = some o → b ∈ X.fs → ∃ sl, h'.get? b = some { o with slots := sl } := fun b o e hb => by
    obtain ⟨sl, e1⟩ := I.base.slot b o e (I.ok.frf b hb) hb (nx b)
    obtain ⟨_, o', ho', hd⟩ := I.ok.funs.mem hb
    rw [e] at ho'
    cases ho'
    obtain ⟨sl', e2⟩ := up b _ hb e1 hd
    exact ⟨sl', e2⟩
  refine ⟨fun b o e n hb _ => ?_, fun b o e n hb _ => slot b o e hb, fun b o e n _ => I.base.free b o e n (nx b), fun b o e _ => ?_, I.base.tups, I.base.frzs, I.base.tbls⟩
  · obtain ⟨o', e1, e2⟩ := cov b o e hb
    rw [e2 n] at e1
    exact st _ _ e1
  · by_cases hb : b ∈ X.fs
    · obtain ⟨sl, e1⟩ := slot b o e hb
      exact ⟨_, e1⟩
    · obtain ⟨o', e1, _⟩ := cov b o e hb
      exact ⟨_, st _ _ e1⟩

theorem made_leaves {h' : Heap} {e C : Addr} {vs : List Value} {E : XK} {E' : Value → Shared → Prop} (I : Inv X pins σ H s) (hs : X.stack = X.env :: X.outer) (hf : X.env.frame = some X.env.locals) (hex : X.ex = []) (hx : Heap.MadeExcOf s.heap h' e (.ref C) vs) (q : E (.ref C) none H) :
    wpAny (model X.prog X.w) X.A (leaving X.env (.ref e)) (fun _ s'' => CXR X.prog X.w X.outer X.H₀ X.s₀ E (.ref e) s'') E' { s with heap := h' } := by
  obtain ⟨B, hB⟩ : ∃ B, B = PySem.W.hideAll s.heap (frs X.stack) := ⟨_, rfl⟩
  have hkb : B.StaysIn s.heap := fun b o z => PySem.W.of_hideAll _ (by rw [hB] at z; exact z)
  have inB : ∀ b o, s.heap.get? b = some o → b ∉ frs X.stack → B.get? b = some o := fun b o z n => by rw [hB]; exact PySem.W.hideAll_get _ z n
  have hl : s.heap.FunFrames B (X.env :: X.outer) := by
    have := PySem.W.funFrames_hide (as := frs X.stack) I.stack fun env he a ha => List.mem_filterMap.mpr ⟨env, he, ha⟩
    rw [← hB, hs] at this
    exact this
  have fst : frs X.stack = X.env.locals :: X.fs := by rw [hs]; exact frs_cons hf
  refine wpAny_leaves_madeW (base := B) (outer := X.outer) (L := X.env.locals) (by rw [I.ok.frames, hs]) hf hkb hl hx fun h2 t fl _ _ up => ?_
  have st : B.StaysIn h2 := fl.1
  have nx : ∀ b : Addr, b ∉ X.ex := fun b => by rw [hex]; simp
  have cov : ∀ b o, X.s₀.heap.get? b = some o → b ∉ X.fs → ∃ o', B.get? b = some o' ∧ (X.H₀ b = none → o' = o) := fun b o z n => by
    have nb : b ∉ frs X.stack := by
      rw [fst, List.mem_cons, not_or]
      exact ⟨I.old z, n⟩
    obtain ⟨o1, e1⟩ := I.base.there b o z (nx b)
    refine ⟨o1, inB _ _ e1 nb, fun n0 => ?_⟩
    have := I.base.keep b o z n0 n (nx b)
    rw [e1] at this
    exact Option.some.inj this
  have cov2 : ∀ b ob, H b = some ob → ∃ o, B.get? b = some o := fun b ob z => by
    obtain ⟨u, hu⟩ := (I.hok b ob z).there
    refine ⟨u, inB _ _ hu fun n => ?_⟩
    rw [I.stkFree b n] at z
    cases z
  refine ⟨e, C, H, rfl, I.os, I.bare, ?_, hok_stays I.hok cov2 hkb st, ?_, ?_, ⟨B, t, fl, cov, cov2⟩, q⟩
  · refine Inv.flown (s := s) (h := s.heap) I hex cov st fun b o hb z hd => ?_
    exact up b o (hx.keeps _ _ z) hd
  · cases z : H e with
    | none => rfl
    | some ob =>
      obtain ⟨u, hu⟩ := (I.hok e ob z).there
      rw [hx.new] at hu
      cases hu
  · cases z : X.s₀.heap.get? e with
    | none => rfl
    | some o =>
      obtain ⟨u, hu⟩ := I.base.there e o z (nx e)
      rw [hx.new] at hu
      cases hu

theorem flown_leaves {s' : Shared} {e : Value} {E : XK} {E' : Value → Shared → Prop} (I : Inv X pins σ H s) (hs : X.stack = X.env :: X.outer) (hf : X.env.frame = some X.env.locals) (hex : X.ex = []) (hx : CXR X.prog X.w X.stack H s E e s') :
    wpAny (model X.prog X.w) X.A (leaving X.env e) (fun _ s'' => CXR X.prog X.w X.outer X.H₀ X.s₀ E e s'') E' s' := by
  obtain ⟨a, C, H', rfl, ho, hb, un, hok, na, sa, ⟨B, t, fl, cov, cov2⟩, q⟩ := hx
  have I2 : Inv X pins σ H' s' := I.call' (ch := []) ho un hok hb fun _ z => by cases z
  have fst : frs X.stack = X.env.locals :: X.fs := by rw [hs]; exact frs_cons hf
  have nx : ∀ b : Addr, b ∉ X.ex := fun b => by rw [hex]; simp
  rw [hs] at fl
  refine wpAny_leaves_onW (L := X.env.locals) (by rw [I.ok.frames, hs]) hf fl fun h2 fl2 up => ?_
  have st : B.StaysIn h2 := fl2.1
  have cov' : ∀ b o, X.s₀.heap.get? b = some o → b ∉ X.fs → ∃ o', B.get? b = some o' ∧ (X.H₀ b = none → o' = o) := fun b o z n => by
    have nb : b ∉ frs X.stack := by
      rw [fst, List.mem_cons, not_or]
      exact ⟨I.old z, n⟩
    obtain ⟨o1, e1⟩ := I.base.there b o z (nx b)
    obtain ⟨o2, e2, e3⟩ := cov b o1 e1 nb
    refine ⟨o2, e2, fun n0 => ?_⟩
    have h1 := I.base.keep b o z n0 n (nx b)
    rw [e1] at h1
    cases h1
    exact e3 (I.base.free b o z n0 (nx b))
  refine ⟨a, C, H', rfl, ho.trans I.os, hb, ?_, hok_stays hok cov2 fl.1 st, na, ?_, ⟨B, t, fl2, cov', cov2⟩, q⟩
  · refine Inv.flown (s := s') (h := s'.heap) I2 hex cov' st fun b o hb z hd => ?_
    exact up b o z hd
  · cases z : X.s₀.heap.get? a with
    | none => rfl
    | some o =>
      obtain ⟨u, hu⟩ := I.base.there a o z (nx a)
      rw [sa] at hu
      cases hu
end

structure Lets (X : Cx) (E : XK) : Prop where
  made : ∀ (pins : List (Addr × Obj)) (σ : St) (H : Hp) (s : Shared) (h' : Heap) (e C : Addr) (vs : List Value), Inv X pins σ H s → Heap.MadeExcOf s.heap h' e (.ref C) vs → E (.ref C) none H → X.xe (.ref e) { s with heap := h' }
  pass : Passes (CXR X.prog X.w) X E
theorem lets_of {P : Program} {w : World} {K : PySem.W.Frag} {mg : Str → Option Value} {base : Heap} {N : List Str} {qual : Str} {scope : Scope} {f : Addr} {cd : Value} {A : Around} {outer : List Env} {s0 : Shared} {H0 : Hp} {E : XK} : Lets (cxOf (CXR P w) P w K mg base N qual scope f cd A outer s0 H0 E) E where
  made := fun pins σ H s h' e C vs I hx q => made_leaves I rfl rfl rfl hx q
  pass := fun pins σ H s e s' I hx => flown_leaves I rfl rfl rfl hx
end L2


set_option maxHeartbeats 2000000
namespace L2
open PySem PySem.Spec PyProof.Rows
noncomputable abbrev bmVE : List Value := [.type "ValueError", .type "Exception", .type "BaseException", .type "object"]

noncomputable def mroT (K : PySem.W.Frag) (C : Addr) : List Value := match K.lookup C with
  | some ⟨_, _, .cls cd, _⟩ => cd.mro.tail
  | _ => []

structure ExcAt (K : PySem.W.Frag) (C : Addr) (tl : List Value) : Prop where
  exc : PySem.W.excIn K C bmVE "ValueError.__new__" = true
  mro : mroT K C = tl
theorem ExcAt.obj {K : PySem.W.Frag} {C : Addr} {tl : List Value} {h : Heap} (X : K.In h) (x : ExcAt K C tl) :
    ∃ N nm q bs hdct sn sub ab col dd k0 k1 k2 k3 k5 mN, h.get? C = some (excClassObj nm q C N bs tl hdct sn sub ab col dd k0 k1 k2 k3 k5 "ValueError.__new__") ∧ h.Ns N mN ∧ mN "__init__" = none ∧ OwnTail h bmVE tl ∧ ∀ h2, K.In h2 → h2.get? C = h.get? C ∧ h2.get? N = h.get? N := by
  obtain ⟨q, m⟩ := x
  unfold PySem.W.excIn at q
  unfold mroT at m
  split at q
  · rename_i dd cd sl ho
    rw [ho] at m
    split at q
    · rename_i C' bm k0 k1 k2 k3 n k5 hm hs
      simp only [Bool.and_eq_true, beq_iff_eq, Bool.not_eq_true'] at q
      obtain ⟨⟨⟨⟨⟨rfl, rfl⟩, hdel⟩, ht⟩, hok⟩, hni⟩ := q
      obtain ⟨nm, bs, mro, ns, qn, hd, sn, sub, ab, col, del⟩ := cd
      dsimp only at hm hdel hok hni m
      subst hm hdel
      have hsl : sl = #[k0, k1, k2, k3, some (.builtin "ValueError.__new__"), k5] := by
        obtain ⟨l⟩ := sl
        simp only at hs
        rw [hs]
      subst hsl
      have m' : bm = tl := m
      subst m'
      refine ⟨ns, nm, qn, bs, hd, sn, sub, ab, col, dd, k0, k1, k2, k3, k5, _, X _ _ ho, .of_isNs (PySem.W.isNs_of_in X hok), PySem.W.nsMap_none_of_in X hok hni, PySem.W.tail_of_in X ht, fun h2 X2 => ⟨(X2 _ _ ho).trans (X _ _ ho).symm, ?_⟩⟩
      unfold PySem.W.nsOkIn at hok
      split at hok
      · rename_i hN
        exact (X2 _ _ hN).trans (X _ _ hN).symm
      · cases hok
    · cases q
  · cases q
theorem ExcAt.tail {K : PySem.W.Frag} {C : Addr} {tl : List Value} (x : ExcAt K C tl) : PySem.W.tailIn K bmVE tl = true := by
  obtain ⟨q, m⟩ := x
  unfold PySem.W.excIn at q
  unfold mroT at m
  split at q
  · rename_i dd cd sl ho
    rw [ho] at m
    split at q
    · rename_i C' bm k0 k1 k2 k3 n k5 hm hs
      simp only [Bool.and_eq_true, beq_iff_eq, Bool.not_eq_true'] at q
      have m' : bm = tl := by
        rw [← m]
        show bm = cd.mro.tail
        rw [hm]
        rfl
      rw [← m']
      exact q.1.1.2
    · cases q
  · cases q
section
variable {X : Cx} {x : Str} {e : Expr} {es : List Expr} {t : TA} {p pos np cpos : Pos} {C : Addr} {tl : List Value} {E : XK}

noncomputable def sRaise (C : Addr) (E : XK) (t : TA) : TS := fun _ σ H => t σ H fun vs H1 => vs.length ≤ sizeLine ∧ E (.ref C) none H1
theorem ps_raise (L : Lets X E) (hc : X.calm = true) (hg : Gl X x) (hm : X.mg x = some (.ref C)) (ex : ExcAt X.K C tl) (ha : PA X (e :: es) t) (hdb : (x == ("__debug__" : Str)) = false := by decide)
    (he : starEach (e :: es) X.env = (false, eval e X.env) :: starEach es X.env := by rfl) (hpl : (backTo cpos (starEach es X.env)).any (·.1) = false := by rfl) :
    PS X (.Raise (some (.Call (.Name x np) (e :: es) [] cpos)) none pos) (sRaise C E t) := by
  intro pins s σ H D I h
  obtain ⟨N, nm, q, bs, hdct, sn, sub, ab, col, dd, k0, k1, k2, k3, k5, mN, hC, hN, hni, T, two⟩ := ex.obj I.kIn
  refine wpAny_Raise_call_subT (C := C) (nm := nm) (q := q) (N := N) (bs := bs) (bm := tl) (hdct := hdct) (sn := sn) (sub := sub) (ab := ab) (col := col) (dd := dd) (k0 := k0) (k1 := k1) (k2 := k2) (k3 := k3) (k5 := k5)
    PySem.F.excBase_ValueError (mN := mN) (T.hasType PySem.F.excBase_ValueError.hasBase) (I.ok.hd hc) (by rw [he]; show (false || (backTo cpos (starEach es X.env)).any (·.1)) = false; rw [hpl]; rfl) hni (ld_glob I hg hm ⟨rfl, ?_⟩ hdb)
  have hA := ha cpos pins s σ H _ I h
  rw [he] at hA ⊢
  refine Calls.evalArgs_plain (thn hA fun us s2 z => ?_)
  obtain ⟨vs, H2, I2, r2, q2, q3⟩ := z
  obtain ⟨eC, eN⟩ := two s2.heap I2.kIn
  have hNN : s2.heap.Ns N mN := by
    obtain ⟨o, es, ep, ho, r⟩ := hN
    exact ⟨o, es, ep, eN.trans ho, r⟩
  exact ⟨rfl, by rw [← r2.length]; exact q2, eC.trans hC, hNN, PySem.W.tail_of_in I2.kIn ex.tail, fun h' e' hm' => L.made pins σ H2 s2 h' e' C us I2 hm' q3⟩

noncomputable def HasX (P : Program) (w : World) (K : PySem.W.Frag) (mg : Str → Option Value) (base : Heap) (x : Str) (k : Nat) (ps : List Str) (sp : Sp) : Prop :=
  ∃ f fd, mg x = some (.ref f) ∧ PySem.W.keepIn K (.ref f) = true ∧ Binds K fd ps [] ∧ FnOk P w K mg base (CXR P w) k f fd ps sp
theorem pe_fnX {k : Nat} {ps : List Str} {sp : Sp} (h : HasX X.prog X.w X.K X.mg X.base x k ps sp) (hr : Room k X.A) (hp : Passes (CXR X.prog X.w) X E) (ha : PA X (e :: es) t) (hg : Gl X x := by rfl) (hdb : (x == ("__debug__" : Str)) = false := by decide)
    (he : starEach (e :: es) X.env = (false, eval e X.env) :: starEach es X.env := by rfl) (hpl : (backTo pos (starEach es X.env)).any (·.1) = false := by rfl) : PE X (.Call (.Name x p) (e :: es) [] pos) (tCall sp [] E t) := by
  obtain ⟨f, fd, hm, hk, hb, F⟩ := h
  exact pe_call F hr hg hm hk hb .nil hp ha hdb he hpl
end
section
variable {P : Program} {w : World} {K : PySem.W.Frag} {mg : Str → Option Value} {base : Heap}

theorem Fun.okX {x qual : Str} {st : Stmt} {f : Addr} {fd : FuncData} {N ps : List Str} {k : Nat} {sp : Sp} (F : Fun K x qual st f fd) (S : FnScope N ps (defScope st)) (len : ∀ vs H Q E, sp vs H Q E → vs.length = ps.length)
    (hbody : ∀ (cdv : Value) (A : Around) (outer : List Env) (s : Shared) (H : Hp) (vs : List V) (Q : VK) (E : XK), Room k (A.deeper (envOfC qual (defScope st) s.heap.objs.size f cdv)) → sp vs H Q E →
      Lets (cxOf (CXR P w) P w K mg base N qual (defScope st) f cdv A outer s H E) E →
      ∃ t, PSs (cxOf (CXR P w) P w K mg base N qual (defScope st) f cdv A outer s H E) (defBody st) t ∧ t { nx := fun _ H' => Q .non H', rt := Q } (start N vs) H) : FnOk P w K mg base (CXR P w) (k + 1) f fd ps sp := by
  obtain ⟨oc, od, kV, doc, pm, an, cdv, ct, osl, rfl, lk, hcd⟩ := F.ex
  exact fn_of lk hcd S len fun A outer s H vs Q E hr hsp => hbody cdv A outer s H vs Q E hr hsp lets_of
end
end L2


set_option maxHeartbeats 2000000
namespace L2
open PySem PySem.Spec PyProof.Rows
section
variable {M : Model} {A : Around} {E : Value → Shared → Prop}
variable {nm q nm' q' : Str} {C N S N' : Addr} {bs bm bs' bm' : List Value} {hdct hdct' : Bool} {sn sn' : List Str} {sub sub' : List Value} {ab ab' : Bool} {col col' : Option Bool} {dd dd' : Option Addr} {k0 k1 k2 k3 k5 k0' k1' k2' k3' k5' : Option Value} {newId newId' : String}

theorem excMatches_sup {h : Heap} {g : Array GenState} {d : Drawn} {t : Nat} {os : OsState} {e : Addr} {oe : Obj} {Q : Bool → Shared → Prop}
    (hC : h.get? C = some (excClassObj nm q C N bs bm hdct sn sub ab col dd k0 k1 k2 k3 k5 newId)) (hS : h.get? S = some (excClassObj nm' q' S N' bs' bm' hdct' sn' sub' ab' col' dd' k0' k1' k2' k3' k5' newId')) (he : h.get? e = some oe) (hcls : oe.cls = .ref C)
    (hbase : bm'.contains (.type "BaseException") = true) (hin : bm.contains (.ref S) = true) (hq : Q true ⟨h, g, d, t, os⟩) : wpAny M A (excMatches (.ref e) (.ref S)) Q E ⟨h, g, d, t, os⟩ := by
  have hcB : (Value.ref S :: bm').contains (.type "BaseException") = true := by rw [List.contains_cons, hbase, Bool.or_true]
  have hcC : (Value.ref C :: bm).contains (.ref S) = true := by rw [List.contains_cons, hin, Bool.or_true]
  have f := tc_notTuple
  unfold excMatches
  repeat (first | (with_reducible refine wpAny_loadPart_at he ?_; rw [hcls]) | with_reducible refine wpAny_loadPart_at hS ?_ | (with_reducible refine wpAny_isSubtype_exc hS ?_; rw [hcB]) | (with_reducible refine wpAny_isSubtype_exc hC ?_; rw [hcC]) | wp_step)
  exact hq
end
section
variable {prog : Program} {w : World} {A : Around} {E : Value → Shared → Prop} {s : Shared} {env : Env}
theorem handleBy_sup_as {e C S : Addr} {tlC tlS : List Value} {K : PySem.W.Frag} {t : Expr} {n : Str} {b₀ : Stmt} {suite : List Stmt} {pos : Pos} {rest : List ExceptHandler} {Q : Flow → Shared → Prop}
    (xC : ExcAt K C tlC) (xS : ExcAt K S tlS) (hin : tlC.contains (.ref S) = true)
    (h : wpAny (model prog w) (A.mark (some (.ref e))) (eval t env) (fun c s₁ => c = .ref S ∧ K.In s₁.heap ∧ (∃ oe, s₁.heap.get? e = some oe ∧ oe.cls = .ref C) ∧
      wpAny (model prog w) (A.mark (some (.ref e))) (setFlight (.ref e) none) (fun _ s₂ =>
          wpAny (model prog w) (A.mark (some (.ref e))) (storeName env n (.ref e)) (fun _ s₃ =>
            wpAny (model prog w) (A.mark (some (.ref e))) (execs (b₀ :: suite) env)
              (fun f s₄ => wpAny (model prog w) A (do bindName env n .none; unbindBehindTheSuite env n pos) (fun _ s₅ => Q f s₅) E s₄)
              (fun _ _ => False) s₃) (fun _ _ => False) s₂) (fun _ _ => False) s₁) (fun _ _ => False) s) :
    wpAny (model prog w) A (handleBy (.ref e) env (.ExceptHandler (some t) (some n) (b₀ :: suite) pos :: rest)) Q E s := by
  refine wpAny_handleBy_cons (codeAny_handlers_test (wpAny_mono h (fun c s₁ h₁ => ?_) fun _ _ y => y.elim)) (by intro q; cases q)
  obtain ⟨rfl, hK, ⟨oe, he, hcls⟩, hk⟩ := h₁
  obtain ⟨N, nm, q, bs, hdct, sn, sub, ab, col, dd, k0, k1, k2, k3, k5, mN, hC, _, _, _, _⟩ := xC.obj hK
  obtain ⟨N', nm', q', bs', hdct', sn', sub', ab', col', dd', k0', k1', k2', k3', k5', mN', hS, _, _, T', _⟩ := xS.obj hK
  obtain ⟨hh, g, d, tk, os⟩ := s₁
  refine excMatches_sup hC hS he hcls (T'.hasType PySem.F.excBase_ValueError.hasBase) hin (codeAny_handlers_suite_as ?_)
  exact wpAny_mono hk (fun _ s₂ h₂ => wpAny_mono h₂ (fun _ s₃ h₃ => wpAny_mono h₃ (fun _ _ z => z) fun _ _ y => y.elim) fun _ _ y => y.elim) fun _ _ y => y.elim
end

noncomputable def excφ (a C : Addr) : Heap → Prop := fun h => ∃ o, h.get? a = some o ∧ o.cls = .ref C

noncomputable abbrev Cx.tries (X : Cx) (pn : List (Addr × Obj)) (xe : Value → Shared → Prop) : Cx := { X with pn := pn, xe := xe }
noncomputable abbrev Cx.suite (X : Cx) (pn : List (Addr × Obj)) (e : Addr) : Cx := { X with A := X.A.mark (some (.ref e)), calm := false, pn := pn, xe := fun _ _ => False }
section
variable {X : Cx} {pins : List (Addr × Obj)} {σ : St} {H H' : Hp} {s : Shared}
theorem Inv.tries (I : Inv X pins σ H s) (xe : Value → Shared → Prop) : Inv (X.tries (X.pn ++ pins) xe) [] σ H s :=
  ⟨⟨I.ok.mod, I.ok.kind, I.ok.glob, I.ok.blt, I.ok.above, I.ok.inj, I.ok.has, I.ok.cab, I.ok.hd, I.ok.frames, I.ok.stk, I.ok.exf, I.ok.bs, I.ok.bsz, I.ok.noex, I.ok.exfs, I.ok.funs, I.ok.frf⟩, I.os, I.bare, I.base, I.loc, I.cell, I.free, I.freeC, fun p hp => I.pin p (by simpa using hp), I.hok, I.len⟩
theorem Inv.untries {pn pins' : List (Addr × Obj)} {xe : Value → Shared → Prop} (ok : X.Ok) (I : Inv (X.tries pn xe) pins' σ H s) (hp : ∀ p ∈ X.pn ++ pins, p ∈ pn ++ pins') : Inv X pins σ H s :=
  ⟨ok, I.os, I.bare, I.base, I.loc, I.cell, I.free, I.freeC, fun p q => I.pin p (hp p q), I.hok, I.len⟩
theorem Inv.suite (I : Inv X pins σ H s) (e : Addr) : Inv (X.suite (X.pn ++ pins) e) [] σ H s :=
  ⟨⟨I.ok.mod, I.ok.kind, I.ok.glob, I.ok.blt, I.ok.above, I.ok.inj, I.ok.has, I.ok.cab, (fun z => by cases z), I.ok.frames, I.ok.stk, I.ok.exf, I.ok.bs, I.ok.bsz, I.ok.noex, I.ok.exfs, I.ok.funs, I.ok.frf⟩, I.os, I.bare, I.base, I.loc, I.cell, I.free, I.freeC, fun p hp => I.pin p (by simpa using hp), I.hok, I.len⟩
theorem Inv.unsuite {e : Addr} (ok : X.Ok) (I : Inv (X.suite (X.pn ++ pins) e) [] σ H s) : Inv X pins σ H s :=
  ⟨ok, I.os, I.bare, I.base, I.loc, I.cell, I.free, I.freeC, fun p q => I.pin p (by simpa using q), I.hok, I.len⟩
theorem SP.untries {xe : Value → Shared → Prop} {D : Ends} {f : Flow} {s' : Shared} (ok : X.Ok) (h : SP (X.tries (X.pn ++ pins) xe) [] D f s') : SP X pins D f s' := by
  have w : ∀ {σ' H'}, Inv (X.tries (X.pn ++ pins) xe) [] σ' H' s' → Inv X pins σ' H' s' := fun I => I.untries ok fun p q => by simpa using q
  cases f with
  | next => obtain ⟨σ', H', I, q⟩ := h; exact ⟨σ', H', w I, q⟩
  | brk => obtain ⟨σ', H', I, q⟩ := h; exact ⟨σ', H', w I, q⟩
  | cont => obtain ⟨σ', H', I, q⟩ := h; exact ⟨σ', H', w I, q⟩
  | ret u => obtain ⟨v, σ', H', I, r, q⟩ := h; exact ⟨v, σ', H', w I, r, q⟩

theorem Inv.track {a C : Addr} {o : Obj} (I : Inv X pins σ H s) (ha : X.s₀.heap.get? a = none) (hn : H a = none) (ho : s.heap.get? a = some o) (hc : o.cls = .ref C) (hL : a ≠ X.env.locals) (hcl : ∀ x c, X.env.cells.lookup x = some c → c ≠ a) (hp : ∀ p ∈ X.pn ++ pins, p.1 ≠ a) :
    Inv X pins σ (upd H a (.ext (excφ a C))) s := by
  have ne : ∀ b ob, H b = some ob → b ≠ a := fun b ob e z => by rw [z, hn] at e; cases e
  have ne0 : ∀ b ob, X.s₀.heap.get? b = some ob → b ≠ a := fun b ob e z => by rw [z, ha] at e; cases e
  refine ⟨I.ok, I.os, I.bare, ⟨I.base.keep, I.base.slot, fun b ob e n hx => ?_, I.base.there, fun b xs e => ?_, fun b ob u e => ?_, fun b ps e => ?_⟩, I.loc, I.cell, ?_, fun x c e => ?_, fun p q => ?_, fun b ob e => ?_, I.len⟩
  · rw [upd_ne (ne0 b ob e)]
    exact I.base.free b ob e n hx
  · have := I.base.tups b xs e
    rw [upd_ne (ne _ _ this)]
    exact this
  · have := I.base.frzs b ob u e
    rw [upd_ne (ne _ _ this)]
    exact this
  · obtain ⟨m, e1⟩ := I.base.tbls b ps e
    exact ⟨m, by rw [upd_ne (ne _ _ e1)]; exact e1⟩
  · rw [upd_ne (Ne.symm hL)]
    exact I.free
  · rw [upd_ne (hcl x c e)]
    exact I.freeC x c e
  · obtain ⟨e, n, r⟩ := I.pin p q
    exact ⟨e, by rw [upd_ne (hp p q)]; exact n, r⟩
  · by_cases hb : b = a
    · subst hb
      rw [upd_same] at e
      cases e
      exact ⟨⟨o, ho, hc⟩, ⟨o, ho⟩, fun h1 h2 ⟨u, hu, hcu⟩ k => ⟨u, k u hu, hcu⟩⟩
    · rw [upd_ne hb] at e
      exact (I.hok b ob e).stay (fun _ _ _ q => q) (fun c q => by rw [upd_ne (ne _ _ q)]; exact q) fun c xs q => by rw [upd_ne (ne _ _ q)]; exact q

theorem Inv.landed {s' : Shared} {a C : Addr} {B h5 : Heap} (I : Inv X pins σ H s) (ho : s'.os = s.os) (hb : AllBare s'.gens) (un : Un (frs X.stack) [] H H' s.heap s'.heap) (hok : HOk X.prog X.w H' s'.heap)
    (cov : ∀ b o, s.heap.get? b = some o → b ∉ frs X.stack → ∃ o', B.get? b = some o' ∧ (H b = none → o' = o)) (cov2 : ∀ b ob, H' b = some ob → ∃ o, B.get? b = some o) (st : B.StaysIn s'.heap) (st5 : B.StaysIn h5) (up : s'.heap.UpToSlots h5) :
    Inv X pins σ H' { s' with heap := h5 } := by
  have slot : ∀ b o, s.heap.get? b = some o → b ∈ frs X.stack → ∃ sl, h5.get? b = some { o with slots := sl } := fun b o e hb => by
    obtain ⟨sl, e1⟩ := un.slot b o e (I.stkFree b hb) hb (by simp)
    obtain ⟨_, o', ho', hd⟩ := I.stack.mem hb
    rw [e] at ho'
    cases ho'
    obtain ⟨sl', e2⟩ := up b _ e1 hd
    exact ⟨sl', e2⟩
  refine I.call' (s' := { s' with heap := h5 }) (ch := []) ho ⟨fun b o e n hb _ => ?_, fun b o e n hb _ => slot b o e hb, un.free, fun b o e _ => ?_, un.tups, un.frzs, un.tbls⟩ (hok_stays hok cov2 st st5) hb fun _ z => by cases z
  · obtain ⟨o', e1, e2⟩ := cov b o e hb
    rw [e2 n] at e1
    exact st5 _ _ e1
  · by_cases hb : b ∈ frs X.stack
    · obtain ⟨sl, e1⟩ := slot b o e hb
      exact ⟨_, e1⟩
    · obtain ⟨o', e1, _⟩ := cov b o e hb
      exact ⟨_, st5 _ _ e1⟩

theorem Inv.forget {h' : Heap} {t' : Nat} {m' : Str → Option Value} (I : Inv X pins σ H s) (hn : h'.Ns X.env.locals m') (hs : Heap.SameBut X.env.locals s.heap h') : Inv X pins (List.replicate X.N.length none) H { s with heap := h', toks := t' } := by
  have old : ∀ b o, X.s₀.heap.get? b = some o → b ≠ X.env.locals := fun b o e => Nat.ne_of_lt (Nat.lt_of_lt_of_le (Heap.lt_size e) I.ok.above)
  refine ⟨I.ok, I.os, I.bare, ⟨fun b o e n hb hx => ?_, fun b o e n hb hx => ?_, I.base.free, fun b o e hx => ?_, I.base.tups, I.base.frzs, I.base.tbls⟩, ⟨m', hn, fun i x v _ e2 _ => ?_⟩, fun y c e => ?_, I.free, I.freeC, fun p hp => ?_, fun b ob e => ?_, by simp⟩
  · exact (hs.2 b (old b o e)).trans (I.base.keep b o e n hb hx)
  · obtain ⟨sl, e1⟩ := I.base.slot b o e n hb hx
    exact ⟨sl, (hs.2 b (old b o e)).trans e1⟩
  · obtain ⟨o', e1⟩ := I.base.there b o e hx
    exact ⟨o', (hs.2 b (old b o e)).trans e1⟩
  · rw [List.getElem?_replicate] at e2
    split at e2 <;> cases e2
  · obtain ⟨w', z⟩ := I.cell y c e
    exact ⟨w', z.sameBut hs (I.cne y c e)⟩
  · obtain ⟨e, n, ne, nf, d⟩ := I.pin p hp
    exact ⟨(hs.2 p.1 ne).trans e, n, ne, nf, d⟩
  · refine (I.hok b ob e).stay (fun c v hc z => (hs.2 c ?_).trans z) (fun _ z => z) fun _ _ z => z
    rintro rfl
    rcases hc with rfl | hc
    · rw [I.free] at e
      cases e
    · rw [I.free] at hc
      cases hc
end

noncomputable def xTry (K : PySem.W.Frag) (N : List Str) (i : Nat) (S : Addr) (ts : List (Addr × Obj) → Addr → TS) (D : Ends) : XK := fun Cv _ H' => ∃ C tl, Cv = .ref C ∧ ExcAt K C tl ∧ tl.contains (.ref S) = true ∧
  ∀ pn a, H' a = none → ts pn a { nx := fun _ _ => False, rt := D.rt } ((List.replicate N.length none).set i (some (.ref a))) (upd H' a (.ext (excφ a C)))

noncomputable def tTry (K : PySem.W.Frag) (N : List Str) (i : Nat) (S : Addr) (tb : XK → TS) (ts : List (Addr × Obj) → Addr → TS) : TS := fun D σ H => tb (xTry K N i S ts D) D σ H
theorem ps_try {X : Cx} {body suite : List Stmt} {b₀ : Stmt} {x n : Str} {np hpos pos : Pos} {i : Nat} {S : Addr} {tlS : List Value} {tb : XK → TS} {ts : List (Addr × Obj) → Addr → TS}
    (hb : ∀ pn xe E, Passes (CXR X.prog X.w) (X.tries pn xe) E → PSs (X.tries pn xe) body (tb E)) (hs : ∀ pn e, PSs (X.suite pn e) (b₀ :: suite) (ts pn e))
    (hk : X.stack = X.env :: X.outer) (hf : X.env.frame = some X.env.locals) (hex : X.ex = []) (hN : X.N.Nodup) (hi : X.N[i]? = some n) (hn : X.env.scope.names.lookup n = some .local) (hg : Gl X x) (hm : X.mg x = some (.ref S)) (xS : ExcAt X.K S tlS) (hdb : (x == ("__debug__" : Str)) = false := by decide) :
    PS X (.Try body [.ExceptHandler (some (.Name x np)) (some n) (b₀ :: suite) hpos] [] [] pos) (tTry X.K X.N i S tb ts) := by
  intro pins s σ H D I h
  refine wpAny_Try_except ?_
  have key : ∀ xe, Passes (CXR X.prog X.w) (X.tries (X.pn ++ pins) xe) (xTry X.K X.N i S ts D) → wpAny (model X.prog X.w) X.A (execs body X.env) (SP (X.tries (X.pn ++ pins) xe) [] D) xe s := fun xe hp => hb _ xe _ hp [] s σ H D (I.tries xe) h
  refine wpAny_mono (key _ ?_) (fun f s1 z => ?_) fun _ _ z => z
  · intro pins' σ' H1 s1 e s2 Iv hx
    obtain ⟨a, C, H2, rfl, ho, hbr, un, hok, na, sa, ⟨B, t, fl, cov, cov2⟩, C', tl, eC, xC, hin, q⟩ := hx
    cases eC
    have fl' : Heap.FlyingW B (X.env :: X.outer) a (.ref C) (.ref t) s2.heap := by rw [← hk]; exact fl
    show wpAny _ _ (noteFrame (.ref a) X.env) _ _ _
    refine wpAny_looks_onW (L := X.env.locals) (by rw [← hk]; exact I.ok.frames) hf fl' fun h4 held up4 => ?_
    refine wpAny_landsW held fun h5 fl5 up5 => ?_
    have up45 : s2.heap.UpToSlots h5 := up4.trans up5
    have I5 : Inv X pins σ' H2 { s2 with heap := h5 } := (Iv.landed (a := a) (C := C) ho hbr un hok cov cov2 fl'.1 fl5.1 up45).untries I.ok fun p z => List.mem_append_left _ z
    have I5s := I5.suite a
    obtain ⟨oe, vs, he, hcl, hd, _⟩ := fl5.first
    refine handleBy_sup_as xC xS hin (ld_glob (X := X.suite (X.pn ++ pins) a) I5s hg hm ⟨rfl, I5.kIn, ⟨oe, he, hcl⟩, ?_⟩ hdb)
    refine lands_againW fl5 fun h6 fl6 up6 => ?_
    have I6 : Inv X pins σ' H2 { s2 with heap := h6 } := (Iv.landed (a := a) (C := C) ho hbr un hok cov cov2 fl'.1 fl6.1 (up45.trans up6)).untries I.ok fun p z => List.mem_append_left _ z
    obtain ⟨oe6, vs6, he6, hcl6, hd6, _⟩ := fl6.first
    have I7 : Inv X pins σ' (upd H2 a (.ext (excφ a C))) { s2 with heap := h6 } := by
      refine I6.track ?_ na he6 hcl6 ?_ (fun y c e z => ?_) fun p hp z => ?_
      · cases z : X.s₀.heap.get? a with
        | none => rfl
        | some o =>
          obtain ⟨u, hu⟩ := Iv.base.there a o z (by show a ∉ X.ex; rw [hex]; simp)
          rw [sa] at hu
          cases hu
      · intro z
        obtain ⟨m, ⟨o, _, _, ho', _⟩, _⟩ := Iv.loc
        have : s1.heap.get? a = some o := by rw [z]; exact ho'
        rw [sa] at this
        cases this
      · obtain ⟨_, o, ho', _⟩ := Iv.cell y c e
        rw [z, sa] at ho'
        cases ho'
      · obtain ⟨e, _⟩ := Iv.pin p (List.mem_append_left _ hp)
        rw [z, sa] at e
        cases e
    refine store_ok (X := X.suite (X.pn ++ pins) a) (I7.suite a) hN hi (Or.inl hn) (v := .ref a) (u := .ref a) rfl (fun s7 I8 => ?_) (Or.inr hn)
    have I9 : Inv (X.suite (X.pn ++ pins) a) [] ((List.replicate X.N.length none).set i (some (.ref a))) (upd H2 a (.ext (excφ a C))) s7 := by
      have hl : σ'.length = X.N.length := I6.len
      refine I8.weak (by simp [hl]) fun j v e => ?_
      by_cases hj : i = j
      · subst hj
        have hlt : i < σ'.length := by rw [hl]; exact (List.getElem?_eq_some_iff.mp hi).1
        rw [List.getElem?_set_self (by simpa [hl] using hlt)] at e
        rw [List.getElem?_set_self hlt]
        exact e
      · rw [List.getElem?_set_ne hj, List.getElem?_replicate] at e
        split at e <;> cases e
    refine wpAny_mono (hs (X.pn ++ pins) a [] s7 _ _ _ I9 (q (X.pn ++ pins) a na)) (fun f s8 z => ?_) fun _ _ z => z
    cases f with
    | next => exact False.elim z.choose_spec.choose_spec.2
    | brk => exact False.elim z.choose_spec.choose_spec.2
    | cont => exact False.elim z.choose_spec.choose_spec.2
    | ret u =>
      obtain ⟨v, σ8, H8, I10, r, qr⟩ := z
      have I11 := I10.unsuite I.ok
      obtain ⟨m, hm', _⟩ := I11.loc
      refine wpAny_nameGoes hn hm' (by rw [I.ok.kind]; rfl) fun h9 m9 hn9 hs9 => ?_
      exact ⟨v, _, H8, I11.forget hn9 hs9, r, qr⟩
  · have z' := SP.untries I.ok z
    cases f with
    | next =>
      obtain ⟨σ', H', I', q⟩ := z'
      exact pss_nil pins s1 σ' H' D I' q
    | brk => exact z'
    | cont => exact z'
    | ret u => exact z'
end L2


set_option maxHeartbeats 2000000
namespace L2
open PySem PySem.Spec PyProof.Rows

structure ExcIs (K : PySem.W.Frag) (C : Addr) : Prop where
  ga : PySem.W.findIn K (.ref C) "__getattribute__" = some (some (.builtin "BaseException.__getattribute__"))
  gt : PySem.W.findIn K (.ref C) "__getattr__" = some none
  cl : PySem.W.findIn K (.ref C) "__class__" = some (some (.builtin "object.__class__"))
  mb : PySem.W.mroIn K C (.type "BaseException") = some true
  mo : PySem.W.mroIn K C (.type "object") = some true
  is : (PySem.W.clsIn K C).isSome = true
section
variable {prog : Program} {w : World} {A : Around} {E : Value → Shared → Prop} {h : Heap} {g : Array GenState} {d : Drawn} {t : Nat} {os : OsState} {a C : Addr} {o : Obj} {K : PySem.W.Frag}
theorem xcls_get {R : Result → Shared → Prop} (X : K.In h) (z : ExcIs K C) (hx : h.get? a = some o) (hc : o.cls = .ref C) (hq : R (.ok (.ret (.ref C))) ⟨h, g, d, t, os⟩) :
    codeAny (model prog w) A (.call (.builtin "getset_descriptor.__get__") ⟨[.builtin "object.__class__", .ref a, .ref C], []⟩) R ⟨h, g, d, t, os⟩ := by
  have hT5 : (⟨h, g, d, t, os⟩ : Shared).TypeIs (.builtin "object.__class__") "getset_descriptor" := F.typeOf_object_class
  have LS : PySem.W.Looks (model prog w) h (isSubtype (.ref C) (.type (".".intercalate ("object.__class__".cutAt '.').dropLast))) true := by rw [F.owner_object_class]; exact PySem.W.looks_mroIn X z.mo
  refine codeAny_call_builtin F.slot_gs_get.plain F.entry_gs_get (F.slot_gs_get.check _ _ _ _ _ _ _ _ hT5 (F.args_gs_get _ _ _) ?_)
  repeat (any_goals (first | assumption | (with_reducible refine wpAny_loadPart_at hx ?_; rw [hc]) | with_reducible refine LS.at ?_ | wp_step))
  refine ⟨Code.quiet_builtin _ (by decide +kernel), codeAny_builtin F.entry_object_class ?_⟩
  repeat (any_goals (first | assumption | (with_reducible refine wpAny_loadPart_at hx ?_; rw [hc]) | wp_step))
theorem xcls_check {nameV : Value} {Q : Unit → Shared → Prop} (X : K.In h) (z : ExcIs K C) (hx : h.get? a = some o) (hc : o.cls = .ref C) (hq : Q () ⟨h, g, d, t, os⟩) :
    wpAny (model prog w) A (checkBuiltinCall "BaseException.__getattribute__" ⟨[.ref a, nameV], []⟩) Q E ⟨h, g, d, t, os⟩ := by
  have hk : builtinKind "BaseException.__getattribute__" = some .slot := by decide +kernel
  have hsplit : splitId "BaseException.__getattribute__" = some ("BaseException", "__getattribute__") := by decide +kernel
  have LB : PySem.W.Looks (model prog w) h (isSubtype (.ref C) (.type "BaseException")) true := PySem.W.looks_mroIn X z.mb
  have ha := F.args_bexc_ga (.ref a) nameV
  simp only [checkBuiltinCall, hk, hsplit]
  refine wpAny_bind ?_
  · unfold isInstance
    repeat (first | (with_reducible refine wpAny_loadPart_at hx ?_; rw [hc]) | with_reducible refine LB.at ?_ | wp_step)
    exact hq
theorem xcls_entry {tk : Tok} {Q : Fin → Shared → Prop} (X : K.In h) (z : ExcIs K C) (hx : h.get? a = some o) (hc : o.cls = .ref C) (hq : Q (.done (.ret (.ref C))) ⟨h, g, d, t, os⟩) :
    wpAny (model prog w) A (Builtin.«object.__getattribute__» ⟨[.ref a, .str "__class__" tk], []⟩) Q E ⟨h, g, d, t, os⟩ := by
  have hT5 : (⟨h, g, d, t, os⟩ : Shared).TypeIs (.builtin "object.__class__") "getset_descriptor" := F.typeOf_object_class
  have f5 := F.typeOf_object_class
  have f6 := F.slot_gs_get.lookup
  have f7 := F.slot_gs_set.lookup
  have LC : PySem.W.Looks (model prog w) h (typeLookup (.ref C) "__class__") (some (.builtin "object.__class__")) := PySem.W.looks_findIn X z.cl
  repeat (any_goals (first | assumption | (with_reducible refine wpAny_loadPart_at hx ?_; rw [hc]) | with_reducible refine LC.at ?_ | wp_step))
  refine xcls_get X z hx hc ?_
  repeat (any_goals (first | assumption | wp_step))
theorem xcls_call {tk : Tok} {R : Result → Shared → Prop} (X : K.In h) (z : ExcIs K C) (hx : h.get? a = some o) (hc : o.cls = .ref C) (hq : R (.ok (.ret (.ref C))) ⟨h, g, d, t, os⟩) :
    codeAny (model prog w) A (.call (.builtin "BaseException.__getattribute__") ⟨[.ref a, .str "__class__" tk], []⟩) R ⟨h, g, d, t, os⟩ :=
  codeAny_call_builtin PySem.F.attrBase_ValueError.ga.plain F.entry_bexc_ga (xcls_check X z hx hc (xcls_entry X z hx hc hq))
theorem xcls_by {tk : Tok} {fill expr : Bool} {Q : Value → Shared → Prop} (X : K.In h) (z : ExcIs K C) (hx : h.get? a = some o) (hc : o.cls = .ref C) (hq : Q (.ref C) ⟨h, g, d, t, os⟩) :
    wpAny (model prog w) A (getAttrBy (.ref a) (.str "__class__" tk) fill expr) Q E ⟨h, g, d, t, os⟩ := by
  have f3 := PySem.F.attrBase_ValueError.ga.bind (.ref a)
  have hx0 : (expr && onTheHeap (Value.builtin "BaseException.__getattribute__")) = false := by cases expr <;> rfl
  have hx2 : (Value.builtin "BaseException.__getattribute__" == Value.builtin "object.__getattribute__") = false := by decide +kernel
  have hx1 : (onTheHeap (Value.ref C) && Value.builtin "BaseException.__getattribute__" == Value.builtin "object.__getattribute__") = false := by rw [hx2]; rfl
  have LG : PySem.W.Looks (model prog w) h (typeLookup (.ref C) "__getattribute__") (some (.builtin "BaseException.__getattribute__")) := PySem.W.looks_findIn X z.ga
  have LH : PySem.W.Looks (model prog w) h (typeLookup (.ref C) "__getattr__") none := PySem.W.looks_findIn X z.gt
  repeat (any_goals (first | assumption | (with_reducible refine wpAny_loadPart_at hx ?_; rw [hc]) | with_reducible refine LG.at ?_ | with_reducible refine LH.at ?_ | wp_step))
  refine xcls_call X z hx hc ?_
  repeat (any_goals (first | assumption | wp_step))
theorem xcls_attr {Q : Option Value → Shared → Prop} (X : K.In h) (z : ExcIs K C) (hx : h.get? a = some o) (hc : o.cls = .ref C) (hq : Q (some (.ref C)) ⟨h, g, d, t + 1, os⟩) : wpAny (model prog w) A (getAttr? (.ref a) "__class__") Q E ⟨h, g, d, t, os⟩ := by
  unfold getAttr? getAttrBy?
  repeat (any_goals (first | assumption | with_reducible apply xcls_by X z hx hc | wp_step))
theorem kitx_exc (z : ExcIs K C) : PySem.W.KitX K (.ref a) (.ref C) (excφ a C) where
  ty := fun _ _ _ p => by
    obtain ⟨o, h1, h2⟩ := p
    exact h2 ▸ (PySem.W.Looks.ld h1).andThen .now
  it := fun _ _ X _ => by
    obtain ⟨cd, hcD⟩ := Option.isSome_iff_exists.mp z.is
    unfold PySem.W.clsIn at hcD
    split at hcD
    · rename_i c' d' cd' sl' ho
      intro A' Q' E' s' k q
      unfold isType loadHead
      exact wpAny_bind (wpAny_loadPart (k _ _ (X _ _ ho)) (wpAny_pure q))
    · cases hcD
  ne := fun h tp dd its n sl X htp => by
    obtain ⟨cd, hcD⟩ := Option.isSome_iff_exists.mp z.is
    refine Bool.eq_false_iff.mpr fun q => ?_
    have e : C = tp := Value.ref.inj (beq_iff_eq.mp q)
    subst e
    unfold PySem.W.clsIn at hcD
    split at hcD
    · rename_i c' d' cd' sl' ho
      have z := (X _ _ ho).symm.trans htp
      cases z
    · cases hcD
  ca := fun {prog w A E Q s} X p k => by
    obtain ⟨h, g, d, t, os⟩ := s
    obtain ⟨o, h1, h2⟩ := p
    exact xcls_attr X z h1 h2 k
end
section
variable {X : Cx}

theorem call_isexc : CallR X (.builtin "isinstance") (fun xs H Q => ∃ a C y b, xs = [.ref a, y] ∧ H a = some (.ext (excφ a C)) ∧ ExcIs X.K C ∧ (∀ u, RelV y u → PySem.W.kitOne X.K (.ref C) u = some b) ∧ Q (.bl b) H) := by
  intro pins s σ H xs us Q I r h
  obtain ⟨a, C, y, b, rfl, ha, z, hk, q⟩ := h
  obtain ⟨u, w', rfl, rx, ry⟩ := vals2 r
  obtain rfl : u = Value.ref a := rx
  have p : excφ a C s.heap := (show ObjOk X.prog X.w H s.heap a (.ext (excφ a C)) from I.hok a _ ha).1
  exact PySem.W.kia_one (kitx_exc z) I.kIn p (hk w' ry) (fun z => nomatch z) fun tk => ⟨.bl b, H, I.tok tk, rfl, q⟩
end
end L2


set_option maxHeartbeats 2000000
namespace ZT
open PySem PyProof.Rows
noncomputable abbrev tIt (t : Addr) : Obj := { cls := .type "tuple_iterator", data := .fields #[.ref t, .int 0 0] }
noncomputable abbrev pr2 (a b : Value) : Obj := { cls := .type "tuple", data := .seq #[a, b] }
noncomputable abbrev zH (h : Heap) (t u : Addr) : Heap := ((((h.push (tIt t)).push (tIt u)).push (pr2 (.ref h.objs.size) (.ref (h.push (tIt t)).objs.size))).push (pr2 .none .none)).push
  { cls := .type "zip", data := .fields #[.none, .bool false, .bool false, .ref ((h.push (tIt t)).push (tIt u)).objs.size, .ref (((h.push (tIt t)).push (tIt u)).push (pr2 (.ref h.objs.size) (.ref (h.push (tIt t)).objs.size))).objs.size] }
theorem made_zipT (t u : Addr) (xs ys : Array Value) :
    Meets (Builtin.«zip.__new__» ⟨[.type "zip", .ref t, .ref u], []⟩) (fun _ R s => s.heap.IsTuple t xs ∧ s.heap.IsTuple u ys ∧
      R (.ok (.ret (.ref ((((s.heap.push (tIt t)).push (tIt u)).push (pr2 (.ref s.heap.objs.size) (.ref (s.heap.push (tIt t)).objs.size))).push (pr2 .none .none)).objs.size))) { s with heap := zH s.heap t u }) :=
  .of_wp fun prog w A R s h => by
    obtain ⟨hp, g, d, tk, os⟩ := s
    obtain ⟨h1, h2, h⟩ := h
    have hsub := sub_zip
    have hT1 : Heap.IsTuple (Shared.heap ⟨hp, g, d, tk, os⟩) t xs := h1
    have hT2 : Heap.IsTuple (Shared.heap ⟨hp.push (tIt t), g, d, tk, os⟩) u ys := Heap.IsTuple.push h2 _
    wp_walk using wpAny_pyIter_tuple hT1, wpAny_pyIter_tuple hT2
    exact ⟨_, rfl, h⟩
section
variable {prog : Program} {w : World} {A : Around} {E : Value → Shared → Prop} {s : Shared}
theorem call_zipT {t u : Addr} {xs ys : Array Value} {Q : Value → Shared → Prop} (h1 : s.heap.IsTuple t xs) (h2 : s.heap.IsTuple u ys)
    (h : ∀ h', IsZip h' (s.heap.objs.size + 4) (s.heap.objs.size + 2) (s.heap.objs.size + 3) .none → IsPair h' (s.heap.objs.size + 2) (.ref s.heap.objs.size) (.ref (s.heap.objs.size + 1)) →
      IsPair h' (s.heap.objs.size + 3) .none .none → h'.IsTupleIter s.heap.objs.size t 0 → h'.IsTupleIter (s.heap.objs.size + 1) u 0 →
      (∀ c o, s.heap.get? c = some o → h'.get? c = some o) → Q (.ref (s.heap.objs.size + 4)) { s with heap := h' }) :
    wpAny (model prog w) A (call (.type "zip") [.ref t, .ref u]) Q E s := by
  refine callType_new F.called_zip (by decide) (F.typeCall_zip_2 _ _) (F.newCall_zip_2 _ _) (fun obj => F.args_object_init_3 obj _ _) F.entry_zip_new (made_zipT t u xs ys) ⟨h1, h2, ?_⟩
  have up : ∀ {h : Heap} {o p : Obj} {b : Addr}, h.get? b = some p → (h.push o).get? b = some p := fun e => Heap.get?_push_of_some _ e
  have q0 : (zH s.heap t u).get? s.heap.objs.size = some (tIt t) := up (up (up (up (Heap.get?_push_size _ rfl))))
  have q1 : (zH s.heap t u).get? (s.heap.push (tIt t)).objs.size = some (tIt u) := up (up (up (Heap.get?_push_size _ rfl)))
  have q2 : (zH s.heap t u).get? ((s.heap.push (tIt t)).push (tIt u)).objs.size = some _ := up (up (Heap.get?_push_size _ rfl))
  have q3 : (zH s.heap t u).get? (((s.heap.push (tIt t)).push (tIt u)).push (pr2 (.ref s.heap.objs.size) (.ref (s.heap.push (tIt t)).objs.size))).objs.size = some _ := up (Heap.get?_push_size _ rfl)
  have q4 : (zH s.heap t u).get? ((((s.heap.push (tIt t)).push (tIt u)).push (pr2 (.ref s.heap.objs.size) (.ref (s.heap.push (tIt t)).objs.size))).push (pr2 .none .none)).objs.size = some _ := Heap.get?_push_size _ rfl
  have qk : ∀ c o, s.heap.get? c = some o → (zH s.heap t u).get? c = some o := fun c o e => up (up (up (up (up e))))
  show _ ∧ _
  generalize zH s.heap t u = h5 at q0 q1 q2 q3 q4 qk ⊢
  simp only [Heap.size_push] at q1 q2 q3 q4 ⊢
  exact ⟨⟨_, q4, rfl⟩, h h5 q4 q2 q3 ⟨_, q0, rfl, rfl⟩ ⟨_, q1, rfl, rfl⟩ qk⟩

theorem zipT_next {z TI TO i1 i2 l1 l2 : Addr} {k : Nat} {xs ys : Array Value} {x y a b : Value} {Q : Option Value → Shared → Prop} (D : ZipApart z TI TO i1 i2 l1 l2)
    (hz : IsZip s.heap z TI TO .none) (hTI : IsPair s.heap TI (.ref i1) (.ref i2)) (hTO : IsPair s.heap TO a b)
    (h1 : s.heap.IsTupleIter i1 l1 k) (h2 : s.heap.IsTupleIter i2 l2 k) (hl1 : s.heap.IsTuple l1 xs) (hl2 : s.heap.IsTuple l2 ys) (hx : xs[k]? = some x) (hy : ys[k]? = some y)
    (hQ : ∀ h', IsZip h' z TI TO (rawInt s.heap.objs.size) → IsPair h' TO x y → h'.IsTupleIter i1 l1 (k + 1) → h'.IsTupleIter i2 l2 (k + 1) → IsPair h' s.heap.objs.size x y →
      (∀ c o, c ≠ z → c ≠ TO → c ≠ i1 → c ≠ i2 → s.heap.get? c = some o → h'.get? c = some o) → Q (some (.ref s.heap.objs.size)) { s with heap := h' }) :
    wpAny (model prog w) A (pyNext (.ref z)) Q E s := by
  have hT : s.TypeIs (.ref z) "zip" := ⟨_, hz, rfl⟩
  unfold pyNext
  refine wpAny_bind (wpAny_attempt (wpAny_callSpecial?_slot (name := Str.ofString "__next__") hT F.slot_zip_next (wpAny_call_entry F.slot_zip_next hT F.entry_zip_next ?_ (F.args_zip_next_1 _))))
  show wpAny _ _ (field (.ref z) 2 >>= _) _ _ _
  refine wpAny_bind (wpAny_field hz rfl (x := .bool false) rfl ?_)
  show wpAny _ _ (field (.ref z) 3 >>= _) _ _ _
  refine wpAny_bind (wpAny_field hz rfl (x := .ref TI) rfl (wpAny_bind (wpAny_seqItems hTI rfl ?_)))
  show wpAny _ _ (Builtin.SmallTypes.ownedTupleIsFree (.ref z) >>= _) _ _ _
  refine wpAny_bind ?_
  unfold Builtin.SmallTypes.ownedTupleIsFree
  refine wpAny_bind (wpAny_field hz rfl (x := .none) rfl (wpAny_pure ?_))
  simp only [if_true]
  refine wpAny_bind (wpAny_rule (wpAny_bind (wpAny_field hz rfl (x := .ref TO) rfl (wpAny_bind (wpAny_setField_rec hz (by simp) fun g1 hz1 s1 => ?_)))))
  replace hz1 : IsZip g1 z TI TO .ellipsis := hz1
  refine wpAny_bind ?_
  simp only [List.zipIdx_cons, List.zipIdx_nil, List.forIn_cons, List.forIn_nil]
  refine wpAny_bind (wpAny_bind (wpAny_onRaise ?_))
  show wpAny _ _ (Builtin.SmallTypes.nextOf (.ref i1) >>= _) _ _ _
  refine wpAny_bind (ET.nextT_item (h1.extBut s1.extBut D.i1z) (hl1.extBut s1.extBut D.l1z) hx fun g2 a2 s2 => wpAny_pure ?_)
  have o2 : IsPair g2 TO a b := s2.extBut _ _ D.TOi1 (s1.extBut _ _ D.TOz hTO)
  refine wpAny_bind (wpAny_seqItems o2 rfl (wpAny_bind (wpAny_updateSeq_pair o2 fun g3 o3 s3 => ?_)))
  replace o3 : IsPair g3 TO x b := o3
  refine wpAny_bind (wpAny_letGo (wpAny_pure ?_))
  refine wpAny_bind (wpAny_bind (wpAny_onRaise ?_))
  show wpAny _ _ (Builtin.SmallTypes.nextOf (.ref i2) >>= _) _ _ _
  refine wpAny_bind (ET.nextT_item (((h2.extBut s1.extBut D.i2z).extBut s2.extBut D.i12.symm).extBut s3.extBut D.TOi2.symm) (((hl2.extBut s1.extBut D.l2z).extBut s2.extBut D.l2i1).extBut s3.extBut D.l2TO) hy fun g4 a4 s4 => wpAny_pure ?_)
  have o4 : IsPair g4 TO x b := s4.extBut _ _ D.TOi2 o3
  refine wpAny_bind (wpAny_seqItems o4 rfl (wpAny_bind (wpAny_updateSeq_pair o4 fun g5 o5 s5 => ?_)))
  replace o5 : IsPair g5 TO x y := o5
  refine wpAny_bind (wpAny_letGo (wpAny_pure (wpAny_pure ?_)))
  refine wpAny_bind (wpAny_seqItems o5 rfl (wpAny_bind (wpAny_newTuple ?_)))
  have hsz : g5.objs.size = s.heap.objs.size := by rw [s5.1, s4.1, s3.1, s2.1, s1.1]
  have hz5 : IsZip g5 z TI TO .ellipsis := s5.extBut _ _ D.TOz.symm (s4.extBut _ _ D.i2z.symm (s3.extBut _ _ D.TOz.symm (s2.extBut _ _ D.i1z.symm hz1)))
  have k5 : ∀ c o, c ≠ z → c ≠ TO → c ≠ i1 → c ≠ i2 → s.heap.get? c = some o → g5.get? c = some o := fun c o n1 n2 n3 n4 e => s5.extBut _ _ n2 (s4.extBut _ _ n4 (s3.extBut _ _ n2 (s2.extBut _ _ n3 (s1.extBut _ _ n1 e))))
  have b1 : g5.IsTupleIter i1 l1 (k + 1) := ((a2.extBut s3.extBut D.TOi1.symm).extBut s4.extBut D.i12).extBut s5.extBut D.TOi1.symm
  have b2 : g5.IsTupleIter i2 l2 (k + 1) := a4.extBut s5.extBut D.TOi2.symm
  have hlt : z < g5.objs.size := Heap.lt_size hz5
  show wpAny _ _ (Builtin.SmallTypes.ownedTupleHandOut (.ref z) (.ref g5.objs.size) >>= _) _ _ _
  refine wpAny_bind ?_
  unfold Builtin.SmallTypes.ownedTupleHandOut
  have hz6 : IsZip (g5.push (pr2 x y)) z TI TO .ellipsis := Heap.get?_push_of_some _ hz5
  refine wpAny_bind (wpAny_setField_rec hz6 (by simp) fun g7 hz7 s7 => ?_)
  replace hz7 : IsZip g7 z TI TO (rawInt g5.objs.size) := hz7
  refine wpAny_setField_rec hz7 (by simp) fun g8 hz8 s8 => ?_
  replace hz8 : IsZip g8 z TI TO (rawInt g5.objs.size) := hz8
  have up : ∀ c o, c ≠ z → g5.get? c = some o → g8.get? c = some o := fun c o n e => s8.extBut _ _ n (s7.extBut _ _ n (Heap.get?_push_of_some _ e))
  have t8 : IsPair g8 g5.objs.size x y := s8.extBut _ _ (Nat.ne_of_gt hlt) (s7.extBut _ _ (Nat.ne_of_gt hlt) (Heap.get?_push_size _ rfl))
  rw [hsz] at hz8 t8
  refine wpAny_pure ⟨_, rfl, wpAny_pure ?_⟩
  show Q (some (.ref g5.objs.size)) _
  rw [hsz]
  exact hQ g8 hz8 (up _ _ D.TOz o5) (b1.at fun o e => up _ o D.i1z e) (b2.at fun o e => up _ o D.i2z e) t8 fun c o n1 n2 n3 n4 e => up c o n1 (k5 c o n1 n2 n3 n4 e)

theorem zipT_end {z TI TO i1 i2 l1 l2 : Addr} {k : Nat} {xs : Array Value} {Q : Option Value → Shared → Prop} (hh : A.handled = none) (D : ZipApart z TI TO i1 i2 l1 l2)
    (hz : IsZip s.heap z TI TO .none) (hTI : IsPair s.heap TI (.ref i1) (.ref i2)) (h1 : s.heap.IsTupleIter i1 l1 k) (hl1 : s.heap.IsTuple l1 xs) (hx : xs[k]? = none)
    (hQ : ∀ h', (∀ c o, c ≠ z → c ≠ i1 → s.heap.get? c = some o → h'.get? c = some o) → Q none { s with heap := h' }) : wpAny (model prog w) A (pyNext (.ref z)) Q E s := by
  have hT : s.TypeIs (.ref z) "zip" := ⟨_, hz, rfl⟩
  unfold pyNext
  refine wpAny_bind (wpAny_attempt (wpAny_callSpecial?_slot (name := Str.ofString "__next__") hT F.slot_zip_next (wpAny_call_entry F.slot_zip_next hT F.entry_zip_next ?_ (F.args_zip_next_1 _))))
  show wpAny _ _ (field (.ref z) 2 >>= _) _ _ _
  refine wpAny_bind (wpAny_field hz rfl (x := .bool false) rfl ?_)
  show wpAny _ _ (field (.ref z) 3 >>= _) _ _ _
  refine wpAny_bind (wpAny_field hz rfl (x := .ref TI) rfl (wpAny_bind (wpAny_seqItems hTI rfl ?_)))
  show wpAny _ _ (Builtin.SmallTypes.ownedTupleIsFree (.ref z) >>= _) _ _ _
  refine wpAny_bind ?_
  unfold Builtin.SmallTypes.ownedTupleIsFree
  refine wpAny_bind (wpAny_field hz rfl (x := .none) rfl (wpAny_pure ?_))
  simp only [if_true]
  refine wpAny_bind (wpAny_rule (wpAny_bind (wpAny_field hz rfl (x := .ref TO) rfl (wpAny_bind (wpAny_setField_rec hz (by simp) fun g1 hz1 s1 => ?_)))))
  replace hz1 : IsZip g1 z TI TO .ellipsis := hz1
  refine wpAny_bind ?_
  simp only [List.zipIdx_cons, List.zipIdx_nil, List.forIn_cons, List.forIn_nil]
  refine wpAny_bind (wpAny_bind (wpAny_onRaise ?_))
  show wpAny _ _ (Builtin.SmallTypes.nextOf (.ref i1) >>= _) _ _ _
  refine wpAny_bind (ET.nextT_end hh (h1.extBut s1.extBut D.i1z) (hl1.extBut s1.extBut D.l1z) hx fun g2 e s2 he => ?_)
  obtain ⟨oe, hoe, hce⟩ := he
  have hz2 : IsZip g2 z TI TO .ellipsis := s2 _ _ D.i1z.symm hz1
  have hez : e ≠ z := fun x => by subst x; rw [hz2] at hoe; cases hoe; simp at hce
  refine wpAny_setField_rec hz2 (by simp) fun g3 _ s3 => ?_
  refine wpAny_bind (wpAny_isInstance (T := "StopIteration") (b := true) ⟨oe, s3.extBut _ _ hez hoe, hce⟩ isSubtype_stop (wpAny_pure (hQ _ fun c o n1 n2 x => s3.extBut _ _ n1 (s2 _ _ n2 (s1.extBut _ _ n1 x)))))
end
end ZT
namespace L2
open PySem PySem.Spec PyProof.Rows

noncomputable def Itz (K : PySem.W.Frag) (a c : Addr) : It :=
  ⟨fun i H => ∃ xs ys x y, SqT K H a xs ∧ SqT K H c ys ∧ xs[i]? = some x ∧ ys[i]? = some y, fun i H x H' => ∃ p y z, x = .ref p ∧ H p = none ∧ (∀ xs, SqT K H a xs → xs[i]? = some y) ∧ (∀ ys, SqT K H c ys → ys[i]? = some z) ∧ H' = upd H p (.tup [y, z]), fun i H => (∃ xs, SqT K H a xs ∧ xs.length ≤ i) ∧ ∃ ys, SqT K H c ys⟩
theorem turn_zipT {P : Program} {w : World} {K : PySem.W.Frag} {es : List Expr} {kk : Nat} {tp : Pos} (a c z TI TO i1 i2 : Addr) (n1 : TI ≠ z) (n2 : TO ≠ z) (n3 : i1 ≠ z) (n4 : i2 ≠ z) (n5 : TI ≠ TO) (n6 : TI ≠ i1) (n7 : TI ≠ i2) (n8 : TO ≠ i1) (n9 : TO ≠ i2) (n10 : i1 ≠ i2)
    (ha : a ∉ [z, TI, TO, i1, i2]) (hc' : c ∉ [z, TI, TO, i1, i2]) :
    Turn P w K (.Tuple es kk tp) (Itz K a c) [z, TI, TO, i1, i2] z (fun i h => IsZip h z TI TO .none ∧ IsPair h TI (.ref i1) (.ref i2) ∧ (∃ x y, IsPair h TO x y) ∧ h.IsTupleIter i1 a i ∧ h.IsTupleIter i2 c i) where
  mem := by simp
  obj := fun i h st b hb => by
    obtain ⟨hz, hTI, ⟨_, _, hTO⟩, ⟨o1, q1, _, d1⟩, ⟨o2, q2, _, d2⟩⟩ := st
    simp only [List.mem_cons, List.not_mem_nil, or_false] at hb
    rcases hb with rfl | rfl | rfl | rfl | rfl
    · exact ⟨_, hz, fun v e => by
        have e' : Data.fields _ = Data.cell v := e
        cases e'⟩
    · exact ⟨_, hTI, fun v e => by
        have e' : Data.seq _ _ = Data.cell v := e
        cases e'⟩
    · exact ⟨_, hTO, fun v e => by
        have e' : Data.seq _ _ = Data.cell v := e
        cases e'⟩
    · exact ⟨o1, q1, fun v e => by rw [d1] at e; cases e⟩
    · exact ⟨o2, q2, fun v e => by rw [d2] at e; cases e⟩
  keep := fun i h h' st k => by
    obtain ⟨hz, hTI, ⟨x, y, hTO⟩, h1, h2⟩ := st
    exact ⟨k z (by simp) _ hz, k TI (by simp) _ hTI, ⟨x, y, k TO (by simp) _ hTO⟩, h1.at fun o e => k i1 (by simp) o e, h2.at fun o e => k i2 (by simp) o e⟩
  item := by
    intro X hP hw hK hc i pins s σ H E I hf st hg
    subst hP hw hK
    obtain ⟨hz, hTI, ⟨x0, y0, hTO⟩, h1, h2⟩ := st
    obtain ⟨xs, ys, x, y, hqx, hqy, hx, hy⟩ := hg
    obtain ⟨its, rv, p, _⟩ := I.tuple hqx
    obtain ⟨its2, rv2, p2, _⟩ := I.tuple hqy
    obtain ⟨u, hu, ru⟩ := rv.get hx
    obtain ⟨v, hv, rv'⟩ := rv2.get hy
    simp only [List.mem_cons, List.not_mem_nil, or_false, not_or] at ha hc'
    have D : ZipApart z TI TO i1 i2 a c := ⟨n1, n2, n3, n4, n5, n6, n7, n8, n9, n10, ha.1, ha.2.2.1, ha.2.2.2.1, ha.2.2.2.2, hc'.1, hc'.2.2.1, hc'.2.2.2.1, hc'.2.2.2.2⟩
    refine ZT.zipT_next D hz hTI hTO h1 h2 (show s.heap.IsTuple a its.toArray from p) (show s.heap.IsTuple c its2.toArray from p2) (x := u) (y := v) (by simpa using hu) (by simpa using hv) fun h' ho oT b1 b2 htp kp => ⟨_, rfl, ?_⟩
    refine wpAny_letOwnedTupleGo_zip ho fun g he2 hs2 => ?_
    have kp2 : ∀ b o, b ∉ [z, TI, TO, i1, i2] → s.heap.get? b = some o → g.get? b = some o := fun b o hb e1 => by
      simp only [List.mem_cons, List.not_mem_nil, or_false, not_or] at hb
      exact (hs2.2 b hb.1).trans (kp b o hb.1 hb.2.2.1 hb.2.2.2.1 hb.2.2.2.2 e1)
    have fr : H s.heap.objs.size = none := I.fresh
    have nit : ∀ {b : Addr} {o : HO}, H b = some o → b ∉ [z, TI, TO, i1, i2] := fun {b o} q m => by
      rw [(hf b m).1] at q
      cases q
    have ltz : z < s.heap.objs.size := Heap.lt_size hz
    have ht2 : g.get? s.heap.objs.size = some { cls := .type "tuple", data := .seq #[u, v] } := (hs2.2 _ (Nat.ne_of_gt ltz)).trans htp
    have I1 : Inv X pins σ (upd H s.heap.objs.size (.tup [x, y])) { s with heap := g } := by
      have un : Un (frs X.stack) [z, TI, TO, i1, i2] H (upd H s.heap.objs.size (.tup [x, y])) s.heap g :=
        ⟨fun b o q _ _ hx => kp2 b o hx q, fun b o q _ _ hx => ⟨o.slots, kp2 b o hx q⟩, fun b o q n _ => by rw [upd_ne (Nat.ne_of_lt (Heap.lt_size q))]; exact n, fun b o q hx => ⟨o, kp2 b o hx q⟩,
          fun b ys q => by rw [upd_ne (ne_of_none q fr)]; exact q, fun b o v q => by rw [upd_ne (ne_of_none q fr)]; exact q, fun b ps q => ⟨#[], by rw [upd_ne (ne_of_none q fr), q]; simp⟩⟩
      refine I.call (g' := s.gens) (d' := s.drawn) (t' := s.toks) un (fun b o q => ?_) I.bare fun b hb => ?_
      · by_cases hb : b = s.heap.objs.size
        · subst hb
          rw [upd_same] at q
          cases q
          exact ⟨by show 2 ≤ sizeLine; decide, [u, v], .cons ru (.cons rv' .nil), ⟨_, ht2, ⟨rfl, _, rfl⟩, rfl⟩⟩
        · rw [upd_ne hb] at q
          refine (I.hok b o q).stay (fun d o' hd e1 => kp2 d o' ?_ e1) (fun d e1 => ?_) fun d ys e1 => ?_
          · rcases hd with e | e
            · rw [e]; exact nit q
            · exact nit e
          · rw [upd_ne (ne_of_none e1 fr)]; exact e1
          · rw [upd_ne (ne_of_none e1 fr)]; exact e1
      · obtain ⟨_, f1, _, f3, f4, f5⟩ := hf b hb
        exact ⟨f3, f1, f4, f5⟩
    have up : ∀ b o, b ≠ z → h'.get? b = some o → g.get? b = some o := fun b o n e => (hs2.2 b n).trans e
    refine ⟨.ref s.heap.objs.size, _, I1, rfl, ⟨_, x, y, rfl, fr, fun xs' hy' => by rw [I.tuple_inj hy' hqx]; exact hx, fun ys' hy' => by rw [I.tuple_inj hy' hqy]; exact hy, rfl⟩,
      ⟨he2, up _ _ n1 (kp _ _ n1 n5 n6 n7 hTI), ⟨_, _, up _ _ n2 oT⟩, b1.at fun o e => up _ o n3 e, b2.at fun o e => up _ o n4 e⟩, fun b hb => ?_⟩
    have hlt : b < s.heap.objs.size := by
      obtain ⟨o1, q1, _⟩ := h1
      obtain ⟨o2, q2, _⟩ := h2
      simp only [List.mem_cons, List.not_mem_nil, or_false] at hb
      rcases hb with rfl | rfl | rfl | rfl | rfl
      · exact ltz
      · exact Heap.lt_size hTI
      · exact Heap.lt_size hTO
      · exact Heap.lt_size q1
      · exact Heap.lt_size q2
    rw [upd_ne (Nat.ne_of_lt hlt)]
    exact (hf b hb).1
  done := by
    intro X hP hw hK hc i pins s σ H E I hf st hg
    subst hP hw hK
    obtain ⟨hz, hTI, ⟨x0, y0, hTO⟩, h1, h2⟩ := st
    obtain ⟨⟨xs, hqx, hlen⟩, _⟩ := hg
    obtain ⟨its, rv, p, _⟩ := I.tuple hqx
    have hl := rv.length
    simp only [List.mem_cons, List.not_mem_nil, or_false, not_or] at ha hc'
    have D : ZipApart z TI TO i1 i2 a c := ⟨n1, n2, n3, n4, n5, n6, n7, n8, n9, n10, ha.1, ha.2.2.1, ha.2.2.2.1, ha.2.2.2.2, hc'.1, hc'.2.2.1, hc'.2.2.2.1, hc'.2.2.2.2⟩
    refine ZT.zipT_end (I.ok.hd hc) D hz hTI h1 (show s.heap.IsTuple a its.toArray from p) (by simp; omega) fun h' kp => ⟨rfl, ?_⟩
    have kp2 : ∀ b o, b ∉ [z, TI, TO, i1, i2] → s.heap.get? b = some o → h'.get? b = some o := fun b o hb e1 => by
      simp only [List.mem_cons, List.not_mem_nil, or_false, not_or] at hb
      exact kp b o hb.1 hb.2.2.2.1 e1
    have nit : ∀ {b : Addr} {o : HO}, H b = some o → b ∉ [z, TI, TO, i1, i2] := fun {b o} q m => by
      rw [(hf b m).1] at q
      cases q
    have un : Un (frs X.stack) [z, TI, TO, i1, i2] H H s.heap h' :=
      ⟨fun b o q _ _ hx => kp2 b o hx q, fun b o q _ _ hx => ⟨o.slots, kp2 b o hx q⟩, fun b o q n _ => n, fun b o q hx => ⟨o, kp2 b o hx q⟩, fun b ys q => q, fun b o v q => q, fun b ps q => ⟨#[], by rw [q]; simp⟩⟩
    refine I.call (g' := s.gens) (d' := s.drawn) (t' := s.toks) un (fun b o q => ?_) I.bare fun b hb => ?_
    · refine (I.hok b o q).stay (fun d o' hd e1 => kp2 d o' ?_ e1) (fun d e1 => e1) fun d ys e1 => e1
      rcases hd with e | e
      · rw [e]; exact nit q
      · exact nit e
    · obtain ⟨_, f1, _, f3, f4, f5⟩ := hf b hb
      exact ⟨f3, f1, f4, f5⟩
  self := fun _ _ _ _ _ st h => wpAny_pyIter_zip st.1 h
section
variable {X : Cx}
noncomputable def iZipT (K : PySem.W.Frag) (ta : TA) : TI := fun σ H R => ta σ H fun vs H1 => ∃ a c, vs = [.ref a, .ref c] ∧ (∃ xs, SqT K H1 a xs) ∧ (∃ ys, SqT K H1 c ys) ∧ R (Itz K a c) H1
theorem zn (i j n : Nat) (h : i ≠ j) : n + i ≠ n + j := by omega
theorem zm {n b : Nat} (h : b < n) : b ∉ [n + 4, n + 2, n + 3, n, n + 1] := by
  simp only [List.mem_cons, List.not_mem_nil, or_false]
  omega
theorem zb {n b : Nat} (h : b ∈ [n + 4, n + 2, n + 3, n, n + 1]) : n ≤ b := by
  simp only [List.mem_cons, List.not_mem_nil, or_false] at h
  omega
theorem pi_zipT {l r : Expr} {ta : TA} {p pos tp : Pos} {es : List Expr} {kk : Nat} (hg : Gl X "zip") (hm : X.mg "zip" = none) (ha : PA X [l, r] ta) (hs : starEach [l, r] X.env = (false, eval l X.env) :: starEach [r] X.env := by rfl) (hs2 : starEach [r] X.env = [(false, eval r X.env)] := by rfl) :
    PI X (.Tuple es kk tp) (.Call (.Name "zip" p) [l, r] [] pos) (iZipT X.K ta) := by
  intro pins s σ H R I h
  refine Call_ (ld_blt I hg hm boot_zip (PyProof.Rows.callWith_type1 (thnA (ha pos pins s σ H _ I h) fun us s1 vs H1 I1 r1 q1 => ?_) hs (by rw [hs2]; rfl)))
  obtain ⟨a, c, e, ⟨xs, hq⟩, ⟨ys, hq2⟩, q⟩ := q1
  subst e
  obtain ⟨u, v, rfl, ru, rv⟩ := vals2 r1
  cases ru
  cases rv
  obtain ⟨its, _, pl, _⟩ := I1.tuple hq
  obtain ⟨its2, _, pl2, _⟩ := I1.tuple hq2
  refine ZT.call_zipT (show s1.heap.IsTuple a its.toArray from pl) (show s1.heap.IsTuple c its2.toArray from pl2) fun h' he hTI hTO k1 k2 kp => ?_
  have I2 : Inv X pins σ H1 { s1 with heap := h' } := I1.kept (t' := s1.toks) kp
  have la : a < s1.heap.objs.size := by
    obtain ⟨_, z, _⟩ := pl
    exact Heap.lt_size z
  have lc : c < s1.heap.objs.size := by
    obtain ⟨_, z, _⟩ := pl2
    exact Heap.lt_size z
  refine wpAny_pyIter_zip (s := { s1 with heap := h' }) he ⟨s1.heap.objs.size + 4, [s1.heap.objs.size + 4, s1.heap.objs.size + 2, s1.heap.objs.size + 3, s1.heap.objs.size, s1.heap.objs.size + 1], _, _, H1, rfl, I2, turn_zipT a c _ _ _ _ _ (zn 2 4 _ (by decide)) (zn 3 4 _ (by decide)) (zn 0 4 _ (by decide)) (zn 1 4 _ (by decide)) (zn 2 3 _ (by decide)) (zn 2 0 _ (by decide)) (zn 2 1 _ (by decide)) (zn 3 0 _ (by decide)) (zn 3 1 _ (by decide)) (zn 0 1 _ (by decide)) (zm la) (zm lc), ⟨he, hTI, ⟨_, _, hTO⟩, k1, k2⟩, fun b hb => ?_, q⟩
  have hb' : s1.heap.objs.size ≤ b := zb hb
  have := I1.fpOk (H' := H1) hb' (I1.hok.fresh hb')
  exact ⟨this.1, this.2⟩
theorem Walk.zipT {K : PySem.W.Frag} {H1 : Hp} {a c : Addr} {xs ys : List V} (h : SqT K H1 a xs) (h2 : SqT K H1 c ys) (he : ys.length = xs.length) : Walk (Itz K a c) H1 xs.length (fun k x H3 => ∃ p, x = .ref p ∧ H3 p = some (.tup [xs.getD k .non, ys.getD k .non])) where
  go := fun k H2 s hk => ⟨xs, ys, _, _, s.seqT h, s.seqT h2, getD_some (d := V.non) hk, getD_some (d := V.non) (by omega)⟩
  yld := fun k H2 x H3 s hk y => by
    obtain ⟨p, u, v, rfl, hp, hu, hv, rfl⟩ := y
    have e := hu xs (s.seqT h)
    rw [getD_some (d := V.non) hk] at e
    have e2 := hv ys (s.seqT h2)
    rw [getD_some (d := V.non) (by omega)] at e2
    cases e
    cases e2
    exact ⟨Same.new hp, p, rfl, upd_same⟩
  stop := fun H2 s => ⟨⟨xs, s.seqT h, Nat.le_refl _⟩, ys, s.seqT h2⟩
end
end L2


namespace My
open PySem L2 PyProof.Rows
noncomputable def top (i : Nat) : Stmt := PySem.Challenge.pw_slipseen_k12_whole_two_schemes_together.main.body.getD i (.Pass ⟨0, 0, 0, 0⟩)
noncomputable abbrev sWhole : Stmt := top 17
noncomputable abbrev sTupOf : Stmt := top 18
noncomputable abbrev sRow : Stmt := top 19
noncomputable abbrev sTab : Stmt := top 20
noncomputable abbrev sTabs : Stmt := top 21
noncomputable abbrev sCheck : Stmt := top 22
noncomputable abbrev sFigs : Stmt := top 23
noncomputable abbrev sMoved : Stmt := top 24
noncomputable abbrev sSpot : Stmt := top 25
noncomputable abbrev sState : Stmt := top 26
noncomputable abbrev sGood : Stmt := top 27
noncomputable abbrev sCell : Stmt := top 36
noncomputable abbrev sStir : Stmt := top 37
noncomputable abbrev sWeight : Stmt := top 38
noncomputable abbrev sScheme : Stmt := top 39
noncomputable abbrev sFigures : Stmt := top 40
noncomputable abbrev sRead : Stmt := top 41
noncomputable abbrev sLaw : Stmt := top 44

noncomputable def spWhole : Sp := fun vs H Q _ => ∃ v l m : Int, vs = [.int v, .int l, .int m] ∧ Q (.bl (wholeB v l m)) H
noncomputable def spTupOf : Sp := fun vs H Q _ => ∃ (a : Addr) (xs : List V) (l m : Int), vs = [.ref a, .int l, .int m] ∧ H a = some (.tup xs) ∧ Q (.bl (lenB xs l m)) H
noncomputable def spRow : Sp := fun vs H Q _ => ∃ (v : V) (r : List Int) (b n : Int), vs = [v, .int b, .int n] ∧ RowAt H v r ∧ r.length ≤ 1000 ∧ ∀ H', Same H H' → Q (.bl (rowB b n r)) H'
noncomputable def spTab : Sp := fun vs H Q _ => ∃ (v : V) (t : Tab) (b n : Int), vs = [v, .int b, .int n] ∧ TabAt H v t ∧ t.length ≤ 1000 ∧ (∀ r ∈ t, r.length ≤ 1000) ∧ ∀ H', Same H H' → Q (.bl (tabB b n t)) H'
noncomputable def spTabs : Sp := fun vs H Q _ => ∃ (v : V) (ts : List Tab) (b : Int), vs = [v, .int b] ∧ TabsAt H v ts ∧ ts.length ≤ 1000 ∧ (∀ t ∈ ts, t.length ≤ 1000 ∧ ∀ r ∈ t, r.length ≤ 1000) ∧ ∀ H', Same H H' → Q (.bl (tabsB b ts)) H'
noncomputable def spCheck : Sp := fun vs H Q _ => ∃ (v : V) (ts : List Tab) (b : Int), vs = [v] ∧ SchAt H v b ts ∧ Ok b ts ∧ ∀ H', Same H H' → Q .non H'
noncomputable def spFigs (K : PySem.W.Frag) : Sp := fun vs H Q _ => ∃ (v : V) (ts : List Tab) (b : Int) (a : Addr) (fs : List Int), vs = [v, .ref a] ∧ SchAt H v b ts ∧ SqL K H a (fs.map V.int) ∧ figsIn b fs ∧ ∀ H', Same H H' → Q .non H'
noncomputable def spMoved (K : PySem.W.Frag) : Sp := fun vs H Q _ => ∃ (v : V) (ts : List Tab) (b : Int) (p a : Addr) (t : Nat) (s : Int) (fs : List Int), vs = [v, .ref p, .ref a] ∧ TabsAt H v ts ∧ Ok b ts ∧ SqT K H p [.int t, .int s] ∧ SqL K H a (fs.map V.int) ∧
  t < ts.length ∧ 0 ≤ s ∧ s < (nst ts : Int) ∧ figsIn b fs ∧ ∀ q H', Same H H' → H' q = some (.tup [.int (((t + fs.length) % ts.length : Nat) : Int), .int (rd ts t s fs)]) → Q (.ref q) H'
noncomputable def spSpot (K : PySem.W.Frag) : Sp := fun vs H Q _ => ∃ (v : V) (ts : List Tab) (b : Int) (a : Addr) (fs : List Int), vs = [v, .ref a] ∧ SchAt H v b ts ∧ Ok b ts ∧ SqL K H a (fs.map V.int) ∧ figsIn b fs ∧
  ∀ q H', Same H H' → H' q = some (.tup [.int ((fs.length % ts.length : Nat) : Int), .int (rd ts 0 0 fs)]) → Q (.ref q) H'
noncomputable def spState (K : PySem.W.Frag) : Sp := fun vs H Q _ => ∃ (v : V) (ts : List Tab) (b : Int) (a : Addr) (fs : List Int), vs = [v, .ref a] ∧ SchAt H v b ts ∧ Ok b ts ∧ SqL K H a (fs.map V.int) ∧ figsIn b fs ∧
  ∀ H', Same H H' → Q (.int (rd ts 0 0 fs)) H'
noncomputable def spGood (K : PySem.W.Frag) : Sp := fun vs H Q _ => ∃ (v : V) (ts : List Tab) (b : Int) (a : Addr) (fs : List Int), vs = [v, .ref a] ∧ SchAt H v b ts ∧ Ok b ts ∧ SqL K H a (fs.map V.int) ∧ figsIn b fs ∧
  ∀ H', Same H H' → Q (.bl (decide (rd ts 0 0 fs = 0))) H'

structure StartAt (K : PySem.W.Frag) (mg : Str → Option Value) : Prop where
  at' : ∃ a, mg "START" = some (.ref a) ∧ ∀ H, SqT K H a [.int 0, .int 0]
structure Nums (mg : Str → Option Value) : Prop where
  lb : ∃ t, mg "LEAST_BASE" = some (.int 2 t)
  mb : ∃ t, mg "MOST_BASE" = some (.int 10 t)
  mt : ∃ t, mg "MOST_TABLES" = some (.int 6 t)
  ms : ∃ t, mg "MOST_STATES" = some (.int 12 t)
section
variable {P : Program} {w : World} {K : PySem.W.Frag} {mg : Str → Option Value} {base : Heap}

theorem scWhole : FnScope ["value", "least", "most"] ["value", "least", "most"] (defScope sWhole) := ⟨rfl, rfl, rfl, by decide +kernel, rfl, by decide +kernel, by decide +kernel⟩
theorem ok_whole {f : Addr} {fd : FuncData} (F : Fun K "is_whole" "is_whole" sWhole f fd) (B : Blt mg) : FnOk P w K mg base CX0 1 f fd ["value", "least", "most"] spWhole := by
  refine F.ok scWhole (fun vs H Q E h => ?_) (fun cdv A outer s H vs Q E hr h => ?_)
  · obtain ⟨v, l, m, rfl, _⟩ := h
    rfl
  · obtain ⟨v, l, m, rfl, k⟩ := h
    refine ⟨_, pss_cons (ps_if (PW.pt (pw_or (pt_val (pe_callB call_isinst rfl B.isi boot_isinstance (pa_cons (pv 0) (pa_cons (pe_ty B.tBool boot_bool) pa_nil))))
        (pw_or1 (pt_not (pt_val (pe_callB call_isinst rfl B.isi boot_isinstance (pa_cons (pv 0) (pa_cons (pe_ty B.tInt boot_int) pa_nil)))))))) (pss_one (ps_ret pe_bl)) pss_nil)
      (pss_one (ps_ret (pe_chain op_le op_le (pv 1) (pv 0) (pv 2)))), ?_⟩
    refine ⟨_, rfl, _, _, _, _, rfl, .int _, kit_int_bool, _, rfl, iteF ?_⟩
    refine ⟨_, rfl, _, _, _, _, rfl, .int _, kit_int_int, _, rfl, iteF ?_⟩
    refine ⟨_, rfl, _, rfl, _, _, rfl, rfl, _, rfl, ?_⟩
    refine ite2 (fun c => ⟨_, rfl, _, _, rfl, rfl, ?_⟩) (fun c => ?_)
    · have e : wholeB v l m = decide (v ≤ m) := by unfold wholeB; rw [c, Bool.true_and]
      rw [e] at k
      exact k
    · have e : wholeB v l m = false := by unfold wholeB; rw [Bool.eq_false_iff.mpr c, Bool.false_and]
      rw [e] at k
      exact k

theorem scTupOf : FnScope ["value", "least", "most"] ["value", "least", "most"] (defScope sTupOf) := ⟨rfl, rfl, rfl, by decide +kernel, rfl, by decide +kernel, by decide +kernel⟩
theorem ok_tupOf {f : Addr} {fd : FuncData} (F : Fun K "is_tuple_of" "is_tuple_of" sTupOf f fd) (B : Blt mg) : FnOk P w K mg base CX0 1 f fd ["value", "least", "most"] spTupOf := by
  refine F.ok scTupOf (fun vs H Q E h => ?_) (fun cdv A outer s H vs Q E hr h => ?_)
  · obtain ⟨a, xs, l, m, rfl, _⟩ := h
    rfl
  · obtain ⟨a, xs, l, m, rfl, ha, k⟩ := h
    refine ⟨_, pss_one (ps_ret (pe_and (pe_callB call_isinst rfl B.isi boot_isinstance (pa_cons (pv 0) (pa_cons (pe_ty B.tTuple boot_tuple) pa_nil)))
      (pe_one (pe_chain op_le op_le (pv 1) (pe_callB call_len_seq rfl B.len PySem.boot_len (pa_cons (pv 0) pa_nil)) (pv 2))))), ?_⟩
    refine ⟨_, rfl, _, _, _, _, rfl, .tup ha, kit_tup_tup, _, rfl, iteT ?_⟩
    refine ⟨_, rfl, _, rfl, _, _, rfl, .inr (SqT.of ha), _, _, rfl, rfl, _, rfl, ?_⟩
    refine ite2 (fun c => ⟨_, rfl, _, _, rfl, rfl, ?_⟩) (fun c => ?_)
    · have e : lenB xs l m = decide ((xs.length : Int) ≤ m) := by unfold lenB; rw [c, Bool.true_and]
      rw [e] at k
      exact k
    · have e : lenB xs l m = false := by unfold lenB; rw [Bool.eq_false_iff.mpr c, Bool.false_and]
      rw [e] at k
      exact k

theorem scRow : FnScope ["row", "base", "states"] ["row", "base", "states"] (defScope sRow) := ⟨rfl, rfl, rfl, by decide +kernel, rfl, by decide +kernel, by decide +kernel⟩
theorem ok_row {f : Addr} {fd : FuncData} (F : Fun K "is_row" "is_row" sRow f fd) (B : Blt mg) (h1 : Has P w K mg base "is_tuple_of" 1 ["value", "least", "most"] spTupOf) (h2 : Has P w K mg base "is_whole" 1 ["value", "least", "most"] spWhole) :
    FnOk P w K mg base CX0 2 f fd ["row", "base", "states"] spRow := by
  refine F.ok scRow (fun vs H Q E h => ?_) (fun cdv A outer s H vs Q E hr h => ?_)
  · obtain ⟨v, r, b, n, rfl, _⟩ := h
    rfl
  · obtain ⟨v, r, b, n, rfl, ⟨a, rfl, ha⟩, hl, k⟩ := h
    refine ⟨_, pss_one (ps_ret (pe_and (pe_fn h1 hr (pa_cons (pv 0) (pa_cons (pv 1) (pa_cons (pv 1) pa_nil))))
      (pe_one (pe_callB (call_all rfl) rfl B.all boot_all (pa_cons (pe_comp (N := ["state", "states"]) (js := [none, some 2]) rfl rfl (pi_tup (pv 0))
        (fun _ _ _ _ => pg_name (i := 0) (ndOf (N := ["state", "states"]) (by decide +kernel)) rfl (Or.inl rfl)) (fun _ _ _ _ => pts_nil)
        (fun _ _ _ _ => pe_fn h2 hr (pa_cons (pv 0) (pa_cons pe_int (pa_cons (pe_op op_sub (pv 1) pe_int) pa_nil))))) pa_nil))))), ?_⟩
    refine ⟨_, rfl, _, rfl, _, rfl, a, _, b, b, rfl, ha, ?_⟩
    refine ⟨_, rfl, ite2 (fun c => ?_) (fun c => ?_)⟩
    · refine ⟨_, rfl, a, rfl, ⟨_, SqT.of ha⟩, ?_⟩
      have wk := Walk.tup (K := K) (SqT.of ha)
      rw [List.length_map] at wk
      refine block_map wk hl rfl (fun k => .bl (wholeB (r.getD k 0) 0 (n - 1))) (fun k H2 Q' hk s2 q => ?_) (fun D H2 hD s2 hD2 => ?_)
      · refine ⟨_, rfl, _, rfl, _, _, rfl, rfl, r.getD k 0, 0, n - 1, ?_, q _ (Same.refl _)⟩
        rw [show (r.map V.int).getD k .non = V.int (r.getD k 0) by simp [List.getD_eq_getElem?_getD, List.getElem?_map, List.getElem?_eq_getElem hk]]
        rfl
      · refine ⟨D, r.map fun e => wholeB e 0 (n - 1), rfl, SqL.of ?_, ?_⟩
        · rw [hD2, ← range_map_getD r 0 (fun e => wholeB e 0 (n - 1)), List.map_map]
          rfl
        · have e : rowB b n r = (r.map fun e => wholeB e 0 (n - 1)).all id := by
            unfold rowB
            rw [show lenB r b b = true by rw [← c]; simp [lenB], Bool.true_and]
          rw [e] at k
          exact k H2 s2
    · have e : rowB b n r = false := by
        unfold rowB
        rw [show lenB r b b = false by rw [← Bool.eq_false_iff.mpr c]; simp [lenB], Bool.false_and]
      rw [e] at k
      exact k H (Same.refl _)

theorem scTab : FnScope ["table", "base", "states"] ["table", "base", "states"] (defScope sTab) := ⟨rfl, rfl, rfl, by decide +kernel, rfl, by decide +kernel, by decide +kernel⟩
theorem ok_tab {f : Addr} {fd : FuncData} (F : Fun K "is_table" "is_table" sTab f fd) (B : Blt mg) (h1 : Has P w K mg base "is_tuple_of" 1 ["value", "least", "most"] spTupOf) (h2 : Has P w K mg base "is_row" 2 ["row", "base", "states"] spRow) :
    FnOk P w K mg base CX0 3 f fd ["table", "base", "states"] spTab := by
  refine F.ok scTab (fun vs H Q E h => ?_) (fun cdv A outer s H vs Q E hr h => ?_)
  · obtain ⟨v, t, b, n, rfl, _⟩ := h
    rfl
  · obtain ⟨v, t, b, n, rfl, ⟨a, xs, rfl, ha, hp⟩, hl, hl2, k⟩ := h
    have el := paired_length hp
    refine ⟨_, pss_one (ps_ret (pe_and (pe_fn h1 (hr.mono (by decide)) (pa_cons (pv 0) (pa_cons (pv 2) (pa_cons (pv 2) pa_nil))))
      (pe_one (pe_callB (call_all rfl) rfl B.all boot_all (pa_cons (pe_comp (N := ["row", "base", "states"]) (js := [none, some 1, some 2]) rfl rfl (pi_tup (pv 0))
        (fun _ _ _ _ => pg_name (i := 0) (ndOf (N := ["row", "base", "states"]) (by decide +kernel)) rfl (Or.inl rfl)) (fun _ _ _ _ => pts_nil)
        (fun _ _ _ _ => pe_fn h2 hr (pa_cons (pv 0) (pa_cons (pv 1) (pa_cons (pv 2) pa_nil))))) pa_nil))))), ?_⟩
    refine ⟨_, rfl, _, rfl, _, rfl, a, _, n, n, rfl, ha, ?_⟩
    refine ⟨_, rfl, ite2 (fun c => ?_) (fun c => ?_)⟩
    · refine ⟨_, rfl, a, rfl, ⟨_, SqT.of ha⟩, ?_⟩
      have wk := Walk.tup (K := K) (SqT.of ha)
      rw [el] at wk
      refine block_map wk hl rfl (fun k => .bl (rowB b n (t.getD k []))) (fun k H2 Q' hk s2 q => ?_) (fun D H2 hD s2 hD2 => ?_)
      · have ek : t[k]? = some (t.getD k []) := getD_some hk
        obtain ⟨x, ex, hx⟩ := paired_get hp k _ ek
        refine ⟨_, rfl, _, rfl, _, rfl, x, t.getD k [], b, n, ?_, hx.same s2, hl2 _ (List.mem_of_getElem? ek), fun H3 s3 => q H3 s3⟩
        rw [show xs.getD k .non = x by rw [List.getD_eq_getElem?_getD, ex]; rfl]
        rfl
      · refine ⟨D, t.map fun r => rowB b n r, rfl, SqL.of ?_, ?_⟩
        · rw [hD2, ← range_map_getD t [] (fun r => rowB b n r), List.map_map]
          rfl
        · have e : tabB b n t = (t.map fun r => rowB b n r).all id := by
            unfold tabB
            rw [show lenB t n n = true by rw [← c]; simp [lenB, el], Bool.true_and]
          rw [e] at k
          exact k H2 s2
    · have e : tabB b n t = false := by
        unfold tabB
        rw [show lenB t n n = false by rw [← Bool.eq_false_iff.mpr c]; simp [lenB, el], Bool.false_and]
      rw [e] at k
      exact k H (Same.refl _)

theorem scTabs : FnScope ["tables", "base", "states"] ["tables", "base"] (defScope sTabs) := ⟨rfl, rfl, rfl, by decide +kernel, rfl, by decide +kernel, by decide +kernel⟩
theorem ok_tabs {f : Addr} {fd : FuncData} (F : Fun K "are_tables" "are_tables" sTabs f fd) (B : Blt mg) (Nm : Nums mg) (h1 : Has P w K mg base "is_tuple_of" 1 ["value", "least", "most"] spTupOf) (h2 : Has P w K mg base "is_table" 3 ["table", "base", "states"] spTab) :
    FnOk P w K mg base CX0 4 f fd ["tables", "base"] spTabs := by
  refine F.ok scTabs (fun vs H Q E h => ?_) (fun cdv A outer s H vs Q E hr h => ?_)
  · obtain ⟨v, ts, b, rfl, _⟩ := h
    rfl
  · obtain ⟨v, ts, b, rfl, ⟨a, xs, rfl, ha, hp⟩, hl, hl2, k⟩ := h
    have el := paired_length hp
    obtain ⟨t6, m6⟩ := Nm.mt
    obtain ⟨t12, m12⟩ := Nm.ms
    have r1 : Room 1 _ := hr.mono (by decide)
    refine ⟨_, pss_cons (ps_if (PW.pt (pw_or (pt_not (pt_val (pe_fn h1 r1 (pa_cons (pv 0) (pa_cons pe_int (pa_cons (pe_glob (v := .int 6) rfl m6 ⟨_, rfl⟩) pa_nil))))))
        (pw_or1 (pt_not (pt_val (pe_fn h1 r1 (pa_cons (pe_ix ix_tup (pv 0) pe_int (fun _ _ => rfl)) (pa_cons pe_int (pa_cons (pe_glob (v := .int 12) rfl m12 ⟨_, rfl⟩) pa_nil))))))))) (pss_one (ps_ret pe_bl)) pss_nil)
      (pss_cons (ps_set (i := 2) scTabs.nd rfl (Or.inr rfl) (pe_callB call_len_seq rfl B.len PySem.boot_len (pa_cons (pe_ix ix_tup (pv 0) pe_int (fun _ _ => rfl)) pa_nil)))
      (pss_one (ps_ret (pe_callB (call_all rfl) rfl B.all boot_all (pa_cons (pe_comp (N := ["table", "base", "states"]) (js := [none, some 1, some 2]) rfl rfl (pi_tup (pv 0))
        (fun _ _ _ _ => pg_name (i := 0) (ndOf (N := ["table", "base", "states"]) (by decide +kernel)) rfl (Or.inl rfl)) (fun _ _ _ _ => pts_nil)
        (fun _ _ _ _ => pe_fn h2 hr (pa_cons (pv 0) (pa_cons (pv 1) (pa_cons (pv 2) pa_nil))))) pa_nil))))), ?_⟩
    refine ⟨_, rfl, a, xs, 1, 6, rfl, ha, _, rfl, ite2 (fun c => ?_) (fun c => ?_)⟩
    · have e : tabsB b ts = false := by
        unfold tabsB
        have c' : lenB xs 1 6 = false := by simpa using c
        rw [show lenB ts 1 6 = false by rw [← c']; simp [lenB, el]]
        simp
      rw [e] at k
      exact k H (Same.refl _)
    · have c' : lenB ts 1 6 = true := by
        have : lenB xs 1 6 = true := by simpa using c
        rw [← this]
        simp [lenB, el]
      have hne : 0 < ts.length := by
        have := (lenB_iff.mp c').1
        omega
      have e0 : ts[0]? = some (ts.headD []) := by
        cases ts with
        | nil => simp at hne
        | cons t r => rfl
      obtain ⟨x0, ex0, ⟨a0, ys, rfl, ha0, hp0⟩⟩ := paired_get hp 0 _ e0
      have el0 := paired_length hp0
      refine ⟨_, rfl, a, xs, 0, _, rfl, rfl, SqT.of ha, atI_nat ex0, a0, ys, 1, 12, rfl, ha0, _, rfl, ite2 (fun d => ?_) (fun d => ?_)⟩
      · have e : tabsB b ts = false := by
          unfold tabsB
          have d' : lenB ys 1 12 = false := by simpa using d
          rw [show lenB (ts.headD []) 1 12 = false by rw [← d']; simp [lenB, el0]]
          simp
        rw [e] at k
        exact k H (Same.refl _)
      · have d' : lenB (ts.headD []) 1 12 = true := by
          have : lenB ys 1 12 = true := by simpa using d
          rw [← this]
          simp [lenB, el0]
        refine ⟨_, rfl, a, xs, 0, _, rfl, rfl, SqT.of ha, atI_nat ex0, a0, ys, rfl, .inr (SqT.of ha0), ?_⟩
        refine ⟨_, rfl, a, rfl, ⟨_, SqT.of ha⟩, ?_⟩
        have wk := Walk.tup (K := K) (SqT.of ha)
        rw [el] at wk
        refine block_map wk hl rfl (fun k => .bl (tabB b (ys.length : Int) (ts.getD k []))) (fun k H2 Q' hk s2 q => ?_) (fun D H2 hD s2 hD2 => ?_)
        · have ek : ts[k]? = some (ts.getD k []) := getD_some hk
          obtain ⟨x, ex, hx⟩ := paired_get hp k _ ek
          refine ⟨_, rfl, _, rfl, _, rfl, x, ts.getD k [], b, (ys.length : Int), ?_, hx.same s2, (hl2 _ (List.mem_of_getElem? ek)).1, (hl2 _ (List.mem_of_getElem? ek)).2, fun H3 s3 => q H3 s3⟩
          rw [show xs.getD k .non = x by rw [List.getD_eq_getElem?_getD, ex]; rfl]
          rfl
        · refine ⟨D, ts.map fun t => tabB b (ys.length : Int) t, rfl, SqL.of ?_, ?_⟩
          · rw [hD2, ← range_map_getD ts [] (fun t => tabB b (ys.length : Int) t), List.map_map]
            rfl
          · have e : tabsB b ts = (ts.map fun t => tabB b (ys.length : Int) t).all id := by
              unfold tabsB
              rw [c', d', el0]
              simp
            rw [e] at k
            exact k H2 s2

theorem scCheck : FnScope ["scheme"] ["scheme"] (defScope sCheck) := ⟨rfl, rfl, rfl, by decide +kernel, rfl, by decide +kernel, by decide +kernel⟩
theorem ok_check {f : Addr} {fd : FuncData} (F : Fun K "check_scheme" "check_scheme" sCheck f fd) (B : Blt mg) (Nm : Nums mg) (h1 : Has P w K mg base "is_tuple_of" 1 ["value", "least", "most"] spTupOf) (h2 : Has P w K mg base "is_whole" 1 ["value", "least", "most"] spWhole)
    (h3 : Has P w K mg base "are_tables" 4 ["tables", "base"] spTabs) : FnOk P w K mg base CX0 5 f fd ["scheme"] spCheck := by
  refine F.ok scCheck (fun vs H Q E h => ?_) (fun cdv A outer s H vs Q E hr h => ?_)
  · obtain ⟨v, ts, b, rfl, _⟩ := h
    rfl
  · obtain ⟨v, ts, b, rfl, ⟨a, wv, rfl, ha, hT⟩, ok, k⟩ := h
    obtain ⟨t2, m2⟩ := Nm.lb
    obtain ⟨t10, m10⟩ := Nm.mb
    have r1 : Room 1 _ := hr.mono (by decide)
    have hB := schB_iff.mpr ok
    unfold schB at hB
    rw [Bool.and_eq_true] at hB
    refine ⟨_, pss_cons (ps_if (pt_not (pt_val (pe_fn h1 r1 (pa_cons (pv 0) (pa_cons pe_int (pa_cons pe_int pa_nil)))))) (pss_one ps_never) pss_nil)
      (pss_cons (ps_if (pt_not (pt_val (pe_fn h2 r1 (pa_cons (pe_ix ix_tup (pv 0) pe_int (fun _ _ => rfl)) (pa_cons (pe_glob (v := .int 2) rfl m2 ⟨_, rfl⟩) (pa_cons (pe_glob (v := .int 10) rfl m10 ⟨_, rfl⟩) pa_nil)))))) (pss_one ps_never) pss_nil)
      (pss_one (ps_if (pt_not (pt_val (pe_fn h3 hr (pa_cons (pe_ix ix_tup (pv 0) pe_int (fun _ _ => rfl)) (pa_cons (pe_ix ix_tup (pv 0) pe_int (fun _ _ => rfl)) pa_nil))))) (pss_one ps_never) pss_nil))), ?_⟩
    refine ⟨_, rfl, a, _, 2, 2, rfl, ha, _, rfl, iteF ?_⟩
    refine ⟨_, rfl, a, _, 0, _, rfl, rfl, SqT.of ha, rfl, b, 2, 10, rfl, _, rfl, ?_⟩
    rw [hB.1]
    refine iteF ?_
    refine ⟨_, rfl, a, _, 1, _, rfl, rfl, SqT.of ha, rfl, _, rfl, a, _, 0, _, rfl, rfl, SqT.of ha, rfl, wv, ts, b, rfl, hT, ?_, ?_, fun H' s' => ⟨_, rfl, ?_⟩⟩
    · have := ok.t2
      omega
    · intro t ht
      have h1 := ok.rows t ht
      have h2 := ok.n2
      refine ⟨by omega, fun r hr => ?_⟩
      have h3 := ok.figs t ht r hr
      have h4 := ok.b2
      omega
    · rw [hB.2]
      refine iteF ?_
      exact k H' s'

theorem get_ints {fs : List Int} {i : Nat} {x : V} (h : (fs.map V.int)[i]? = some x) : ∃ f, fs[i]? = some f ∧ x = .int f := by
  rw [List.getElem?_map] at h
  cases e : fs[i]? with
  | none => rw [e] at h; cases h
  | some f => rw [e] at h; exact ⟨f, rfl, (Option.some.inj h).symm⟩
theorem scFigs : FnScope ["scheme", "figures", "figure"] ["scheme", "figures"] (defScope sFigs) := ⟨rfl, rfl, rfl, by decide +kernel, rfl, by decide +kernel, by decide +kernel⟩
theorem ok_figs {f : Addr} {fd : FuncData} (F : Fun K "check_figures" "check_figures" sFigs f fd) (h2 : Has P w K mg base "is_whole" 1 ["value", "least", "most"] spWhole) : FnOk P w K mg base CX0 2 f fd ["scheme", "figures"] (spFigs K) := by
  refine F.ok scFigs (fun vs H Q E h => ?_) (fun cdv A outer s H vs Q E hr h => ?_)
  · obtain ⟨v, ts, b, a, fs, rfl, _⟩ := h
    rfl
  · obtain ⟨v, ts, b, a, fs, rfl, ⟨a0, wv, rfl, ha0, hT⟩, hS, hf, k⟩ := h
    refine ⟨_, pss_one (ps_for PassesOwn.never rfl (pi_list (pv 1)) (pg_name (i := 2) scFigs.nd rfl (Or.inl rfl))
      (pss_one (ps_if (pt_not (pt_val (pe_fn h2 hr (pa_cons (pv 2) (pa_cons pe_int (pa_cons (pe_op op_sub (pe_ix ix_tup (pv 0) pe_int (fun _ _ => rfl)) pe_int) pa_nil)))))) (pss_one ps_never) pss_nil))), ?_⟩
    refine ⟨_, rfl, a, rfl, ⟨_, hS⟩, for_list (K := K) (a := a) (xs := fs.map V.int) (fun i σ H2 => (∃ x, σ = [some (.ref a0), some (.ref a), x]) ∧ H2 = H) ⟨⟨_, rfl⟩, rfl⟩ (fun i σ H2 _ ⟨_, e⟩ => e ▸ hS) ?_ ?_⟩
    · rintro i y σ H2 hi ⟨⟨x, rfl⟩, rfl⟩
      obtain ⟨z, ez, rfl⟩ := get_ints hi
      have hz := hf z (List.mem_of_getElem? ez)
      refine ⟨_, rfl, _, rfl, a0, _, 0, _, rfl, rfl, SqT.of ha0, rfl, _, _, rfl, rfl, z, 0, b - 1, rfl, _, rfl, ?_⟩
      rw [wholeB_iff.mpr ⟨hz.1, by omega⟩]
      exact iteF ⟨⟨_, rfl⟩, rfl⟩
    · rintro σ H2 ⟨_, rfl⟩
      exact k _ (Same.refl _)

theorem turn_next (a n : Nat) : (((a % n : Nat) : Int) + 1) % (n : Int) = (((a + 1) % n : Nat) : Int) := by
  have e : (((a % n : Nat) : Int) + 1) = ((a % n + 1 : Nat) : Int) := by simp
  rw [e, ← Int.natCast_emod, Nat.mod_add_mod]
theorem scMoved : FnScope ["tables", "spot", "figures", "turn", "state", "figure"] ["tables", "spot", "figures"] (defScope sMoved) := ⟨rfl, rfl, rfl, by decide +kernel, rfl, by decide +kernel, by decide +kernel⟩
theorem ok_moved {f : Addr} {fd : FuncData} (F : Fun K "moved" "moved" sMoved f fd) (B : Blt mg) : FnOk P w K mg base CX0 1 f fd ["tables", "spot", "figures"] (spMoved K) := by
  refine F.ok scMoved (fun vs H Q E h => ?_) (fun cdv A outer s H vs Q E hr h => ?_)
  · obtain ⟨v, ts, b, p, a, t, st, fs, rfl, _⟩ := h
    rfl
  · obtain ⟨v, ts, b, p, a, t, st, fs, rfl, hT, ok, hp, hS, ht, s0, s1, hf, k⟩ := h
    refine ⟨_, pss_cons (ps_set (i := 3) scMoved.nd rfl (Or.inl rfl) (pe_ix ix_tup (pv 1) pe_int (fun _ _ => rfl)))
      (pss_cons (ps_set (i := 4) scMoved.nd rfl (Or.inl rfl) (pe_ix ix_tup (pv 1) pe_int (fun _ _ => rfl)))
      (pss_cons (ps_for PassesOwn.never rfl (pi_list (pv 2)) (pg_name (i := 5) scMoved.nd rfl (Or.inl rfl))
        (pss_cons (ps_set (i := 4) scMoved.nd rfl (Or.inl rfl) (pe_ix ix_tup (pe_ix ix_tup (pe_ix ix_tup (pv 0) (pv 3) (fun _ _ => rfl)) (pv 4) (fun _ _ => rfl)) (pv 5) (fun _ _ => rfl)))
        (pss_one (ps_set (i := 3) scMoved.nd rfl (Or.inl rfl) (pe_op op_mod (pe_op op_add (pv 3) pe_int) (pe_callB call_len_seq rfl B.len PySem.boot_len (pa_cons (pv 0) pa_nil)))))))
      (pss_one (ps_ret (pe_tup (pa_cons (pv 3) (pa_cons (pv 4) pa_nil))))))), ?_⟩
    refine ⟨_, rfl, p, _, 0, _, rfl, rfl, hp, rfl, ?_⟩
    refine ⟨_, rfl, p, _, 1, _, rfl, rfl, hp, rfl, ?_⟩
    refine ⟨_, rfl, a, rfl, ⟨_, hS⟩, for_list (K := K) (a := a) (xs := fs.map V.int)
      (fun i σ H2 => (∃ x, σ = [some v, some (.ref p), some (.ref a), some (.int (((t + i) % ts.length : Nat) : Int)), some (.int (rd ts t st (fs.take i))), x]) ∧ H2 = H) ⟨⟨none, ?_⟩, rfl⟩ (fun i σ H2 _ ⟨_, e⟩ => e ▸ hS) ?_ ?_⟩
    · rw [Nat.add_zero, Nat.mod_eq_of_lt ht]
      rfl
    · rintro i y σ H2 hi ⟨⟨x, rfl⟩, rfl⟩
      obtain ⟨z, ez, rfl⟩ := get_ints hi
      have hz := hf z (List.mem_of_getElem? ez)
      have hlt := ok.rd_lt (fs.take i) t st s0 s1 fun g hg => hf g (List.mem_of_mem_take hg)
      have hm : (t + i) % ts.length < ts.length := Nat.mod_lt _ ok.t1
      obtain ⟨a1, x1, y1, a2, x2, y2, a3, x3, rfl, q1, q2, rfl, q3, q4, rfl, q5, q6⟩ := hT.look ok hm hlt.1 hlt.2 hz.1 hz.2
      obtain ⟨a1', x1', e1', q1', el⟩ := hT.len
      cases e1'
      have hil : i < fs.length := (List.getElem?_eq_some_iff.mp ez).1
      have enx : ent ts ((t + i) % ts.length) (rd ts t st (fs.take i)) z = rd ts t st (fs.take (i + 1)) := by
        rw [take_succ_get ez, rd_snoc, List.length_take_of_le (by omega)]
      rw [enx] at q6
      refine ⟨_, rfl, _, rfl, a1, x1, _, _, rfl, rfl, SqT.of q1, q2, _, rfl, a2, x2, _, _, rfl, rfl, SqT.of q3, q4, _, rfl, a3, x3, _, _, rfl, rfl, SqT.of q5, q6, ?_⟩
      refine ⟨_, rfl, _, _, rfl, rfl, _, rfl, a1, x1', rfl, .inr (SqT.of q1'), _, _, rfl, rfl, ?_, ?_⟩
      · have := ok.t1
        omega
      · refine ⟨⟨some (.int z), ?_⟩, rfl⟩
        rw [el]
        show [some (V.ref a1), some (V.ref p), some (V.ref a), some (V.int (((((t + i) % ts.length : Nat) : Int) + 1) % (ts.length : Int))), some (V.int (rd ts t st (fs.take (i + 1)))), some (V.int z)] = _
        rw [turn_next]
        rfl
    · rintro σ H2 ⟨⟨x, rfl⟩, rfl⟩
      rw [List.length_map, List.take_length]
      refine ⟨_, rfl, _, rfl, (by show 2 ≤ sizeLine; decide), fun q hq => ?_⟩
      exact k q _ (Same.new hq) upd_same

theorem scSpot : FnScope ["scheme", "figures"] ["scheme", "figures"] (defScope sSpot) := ⟨rfl, rfl, rfl, by decide +kernel, rfl, by decide +kernel, by decide +kernel⟩
theorem ok_spot {f : Addr} {fd : FuncData} (F : Fun K "spot_after" "spot_after" sSpot f fd) (St : StartAt K mg) (h1 : Has P w K mg base "check_scheme" 5 ["scheme"] spCheck) (h2 : Has P w K mg base "check_figures" 2 ["scheme", "figures"] (spFigs K))
    (h3 : Has P w K mg base "moved" 1 ["tables", "spot", "figures"] (spMoved K)) : FnOk P w K mg base CX0 6 f fd ["scheme", "figures"] (spSpot K) := by
  refine F.ok scSpot (fun vs H Q E h => ?_) (fun cdv A outer s H vs Q E hr h => ?_)
  · obtain ⟨v, ts, b, a, fs, rfl, _⟩ := h
    rfl
  · obtain ⟨v, ts, b, a, fs, rfl, hC, ok, hS, hf, k⟩ := h
    obtain ⟨aS, mS, hSt⟩ := St.at'
    refine ⟨_, pss_cons (ps_expr (pe_fn h1 hr (pa_cons (pv 0) pa_nil)))
      (pss_cons (ps_expr (pe_fn h2 (hr.mono (by decide)) (pa_cons (pv 0) (pa_cons (pv 1) pa_nil))))
      (pss_one (ps_ret (pe_fn h3 (hr.mono (by decide)) (pa_cons (pe_ix ix_tup (pv 0) pe_int (fun _ _ => rfl)) (pa_cons (pe_glob (v := .ref aS) rfl mS rfl) (pa_cons (pv 1) pa_nil))))))), ?_⟩
    refine ⟨_, rfl, v, ts, b, rfl, hC, ok, fun H1 s1 => ?_⟩
    refine ⟨_, rfl, _, rfl, v, ts, b, a, fs, rfl, hC.same s1, s1.seq hS, hf, fun H2 s2 => ?_⟩
    obtain ⟨a0, wv, rfl, ha0, hT⟩ := hC.same (s1.trans s2)
    refine ⟨_, rfl, a0, _, 1, _, rfl, rfl, SqT.of ha0, rfl, _, rfl, wv, ts, b, aS, a, 0, 0, fs, rfl, hT, ok, hSt _, (s1.trans s2).seq hS, ok.t1, Int.le_refl _, ?_, hf, fun q H3 s3 hq => ?_⟩
    · have := ok.n1
      omega
    · rw [Nat.zero_add] at hq
      exact k q H3 ((s1.trans s2).trans s3) hq
theorem scState : FnScope ["scheme", "figures"] ["scheme", "figures"] (defScope sState) := ⟨rfl, rfl, rfl, by decide +kernel, rfl, by decide +kernel, by decide +kernel⟩
theorem ok_state {f : Addr} {fd : FuncData} (F : Fun K "state_after" "state_after" sState f fd) (h1 : Has P w K mg base "spot_after" 6 ["scheme", "figures"] (spSpot K)) : FnOk P w K mg base CX0 7 f fd ["scheme", "figures"] (spState K) := by
  refine F.ok scState (fun vs H Q E h => ?_) (fun cdv A outer s H vs Q E hr h => ?_)
  · obtain ⟨v, ts, b, a, fs, rfl, _⟩ := h
    rfl
  · obtain ⟨v, ts, b, a, fs, rfl, hC, ok, hS, hf, k⟩ := h
    refine ⟨_, pss_one (ps_ret (pe_ix ix_tup (pe_fn h1 hr (pa_cons (pv 0) (pa_cons (pv 1) pa_nil))) pe_int (fun _ _ => rfl))), ?_⟩
    refine ⟨_, rfl, _, rfl, v, ts, b, a, fs, rfl, hC, ok, hS, hf, fun q H1 s1 hq => ⟨q, _, 1, _, rfl, rfl, SqT.of hq, rfl, k H1 s1⟩⟩
theorem scGood : FnScope ["scheme", "figures"] ["scheme", "figures"] (defScope sGood) := ⟨rfl, rfl, rfl, by decide +kernel, rfl, by decide +kernel, by decide +kernel⟩
theorem ok_good {f : Addr} {fd : FuncData} (F : Fun K "good" "good" sGood f fd) (h1 : Has P w K mg base "state_after" 7 ["scheme", "figures"] (spState K)) : FnOk P w K mg base CX0 8 f fd ["scheme", "figures"] (spGood K) := by
  refine F.ok scGood (fun vs H Q E h => ?_) (fun cdv A outer s H vs Q E hr h => ?_)
  · obtain ⟨v, ts, b, a, fs, rfl, _⟩ := h
    rfl
  · obtain ⟨v, ts, b, a, fs, rfl, hC, ok, hS, hf, k⟩ := h
    refine ⟨_, pss_one (ps_ret (pe_cmpR op_eq (pe_fn h1 hr (pa_cons (pv 0) (pa_cons (pv 1) pa_nil))) pe_int (nomark _))), ?_⟩
    refine ⟨_, rfl, _, rfl, v, ts, b, a, fs, rfl, hC, ok, hS, hf, fun H1 s1 => ⟨rfl, ?_⟩⟩
    have e : decide (V.int (rd ts 0 0 fs) = V.int 0) = decide (rd ts 0 0 fs = 0) := by simp
    rw [e]
    exact k H1 s1
end
end My


namespace My
open PySem L2 PyProof.Rows

noncomputable def cel (ns : List Int) (k : Int) : Int := ns.getD k.toNat 0
noncomputable def spCell (K : PySem.W.Frag) : Sp := fun vs H Q _ => ∃ (a : Addr) (ns : List Int) (k : Int), vs = [.ref a, .int k] ∧ SqL K H a (ns.map V.int) ∧ 0 ≤ k ∧ Q (.int (cel ns k)) H
noncomputable def spStir : Sp := fun vs H Q _ => ∃ c k : Int, vs = [.int c, .int k] ∧ ∀ r, Q (.int r) H
noncomputable def spWeight (K : PySem.W.Frag) : Sp := fun vs H Q _ => ∃ (a : Addr) (ns : List Int) (at' : Int) (t : Nat) (n : Int), vs = [.ref a, .int at', .int t, .int n] ∧ SqL K H a (ns.map V.int) ∧ 0 ≤ at' ∧ t ≤ 1000 ∧ 1 ≤ n ∧ n ≤ 12 ∧
  ∀ r, 0 ≤ r → r < n → Q (.int r) H
noncomputable def spScheme (K : PySem.W.Frag) : Sp := fun vs H Q _ => ∃ (a m : Addr) (ns : List Int) (at' m0 m1 m2 : Int), vs = [.ref a, .int at', .ref m] ∧ SqL K H a (ns.map V.int) ∧ 0 ≤ at' ∧ H m = some (.tup [.int m0, .int m1, .int m2]) ∧
  2 ≤ m0 ∧ m0 ≤ 10 ∧ 1 ≤ m1 ∧ m1 ≤ 12 ∧ 1 ≤ m2 ∧ m2 ≤ 6 ∧ ∀ v b ts H', Same H H' → SchAt H' v b ts → Ok b ts → b ≤ m0 → (nst ts : Int) ≤ m1 → (ts.length : Int) ≤ m2 → Q v H'
noncomputable def spFigures (K : PySem.W.Frag) : Sp := fun vs H Q _ => ∃ (a : Addr) (ns : List Int) (at' b most : Int), vs = [.ref a, .int at', .int b, .int most] ∧ SqL K H a (ns.map V.int) ∧ 0 ≤ at' ∧ 2 ≤ b ∧ b ≤ 10 ∧ 0 ≤ most ∧ most ≤ 100 ∧
  ∀ D fs H', Same H H' → H D = none → H' D = some (.lst (fs.map V.int)) → figsIn b fs → (fs.length : Int) ≤ most → Q (.ref D) H'
noncomputable def spRead (K : PySem.W.Frag) : Sp := fun vs H Q _ => ∃ (v : V) (ts : List Tab) (b : Int) (a : Addr) (t : Nat) (s : Int) (fs : List Int), vs = [v, .int t, .int s, .ref a] ∧ SchAt H v b ts ∧ Ok b ts ∧ SqL K H a (fs.map V.int) ∧
  0 ≤ s ∧ s < (nst ts : Int) ∧ figsIn b fs ∧ Q (.int (rd ts t s fs)) H
section
variable {P : Program} {w : World} {K : PySem.W.Frag} {mg : Str → Option Value} {base : Heap}
theorem scCell : FnScope ["script", "k"] ["script", "k"] (defScope sCell) := ⟨rfl, rfl, rfl, by decide +kernel, rfl, by decide +kernel, by decide +kernel⟩
theorem ok_cell {f : Addr} {fd : FuncData} (F : Fun K "_law_cell_at" "_law_cell_at" sCell f fd) (B : Blt mg) : FnOk P w K mg base CX0 1 f fd ["script", "k"] (spCell K) := by
  refine F.ok scCell (fun vs H Q E h => ?_) (fun cdv A outer s H vs Q E hr h => ?_)
  · obtain ⟨a, ns, k, rfl, _⟩ := h
    rfl
  · obtain ⟨a, ns, k, rfl, hS, h0, q⟩ := h
    refine ⟨_, pss_cons (ps_if (pt_cmpR op_lt (pv 1) (pe_callB call_len_seq rfl B.len PySem.boot_len (pa_cons (pv 0) pa_nil)) (nomark _)) (pss_one (ps_ret (pe_ix ix_list (pv 0) (pv 1) (fun _ _ => rfl)))) pss_nil)
      (pss_one (ps_ret pe_int)), ?_⟩
    refine ⟨_, rfl, _, rfl, a, _, rfl, .inl hS, _, _, rfl, rfl, _, rfl, ite2 (fun c => ?_) (fun c => ?_)⟩
    · have hk : k.toNat < ns.length := by
        have := of_decide_eq_true c
        rw [List.length_map] at this
        omega
      refine ⟨_, rfl, _, rfl, a, _, k, .int (cel ns k), rfl, rfl, hS, atI_int h0 ?_, q⟩
      rw [List.getElem?_map, getD_some (d := 0) hk]
      rfl
    · have e : cel ns k = 0 := by
        have hk : ns.length ≤ k.toNat := by
          have := of_decide_eq_false (Bool.eq_false_iff.mpr c)
          rw [List.length_map] at this
          omega
        unfold cel
        rw [List.getD_eq_getElem?_getD, List.getElem?_eq_none hk]
        rfl
      rw [e] at q
      exact q
theorem scStir : FnScope ["cell", "k", "mixed"] ["cell", "k"] (defScope sStir) := ⟨rfl, rfl, rfl, by decide +kernel, rfl, by decide +kernel, by decide +kernel⟩
theorem ok_stir {f : Addr} {fd : FuncData} (F : Fun K "_law_stirred" "_law_stirred" sStir f fd) : FnOk P w K mg base CX0 1 f fd ["cell", "k"] spStir := by
  refine F.ok scStir (fun vs H Q E h => ?_) (fun cdv A outer s H vs Q E hr h => ?_)
  · obtain ⟨c, k, rfl, _⟩ := h
    rfl
  · obtain ⟨c, k, rfl, q⟩ := h
    refine ⟨_, pss_cons (ps_set (i := 2) scStir.nd rfl (Or.inl rfl) (pe_op op_mod (pe_op op_mul (pe_op op_add (pe_op op_add (pv 0) (pe_op op_mul pe_int (pv 1))) pe_int) pe_int) pe_int))
      (pss_cons (ps_set (i := 2) scStir.nd rfl (Or.inl rfl) (pe_op op_mod (pe_op op_mul (pv 2) (pv 2)) pe_int))
      (pss_one (ps_ret (pe_op op_fdiv (pe_op op_mod (pe_op op_mul (pv 2) pe_int) pe_int) pe_int)))), ?_⟩
    refine ⟨_, rfl, _, rfl, _, _, rfl, rfl, .inl ⟨by decide, by decide⟩, _, _, rfl, rfl, _, _, rfl, rfl, _, _, rfl, rfl, .inr ⟨by decide, by decide⟩, _, _, rfl, rfl, (by show (0 : Int) < 2147483647; decide), ?_⟩
    generalize e : (c + 1009 * k + 17) * 48271 % 2147483647 = x
    have hx : 0 ≤ x ∧ x < 2147483647 := by omega
    refine ⟨_, rfl, _, rfl, _, _, rfl, rfl, .inl ⟨by omega, by omega⟩, _, _, rfl, rfl, (by show (0 : Int) < 2147483647; decide), ?_⟩
    refine ⟨_, rfl, _, _, rfl, rfl, .inr ⟨by decide, by decide⟩, _, _, rfl, rfl, (by show (0 : Int) < 2147483647; decide), _, _, rfl, rfl, ⟨by decide, by decide⟩, ?_⟩
    exact q _
theorem scWeight : FnScope ["script", "at", "turn", "states", "cell", "k"] ["script", "at", "turn", "states"] (defScope sWeight) := ⟨rfl, rfl, rfl, by decide +kernel, rfl, by decide +kernel, by decide +kernel⟩
theorem ok_weight {f : Addr} {fd : FuncData} (F : Fun K "_law_weight" "_law_weight" sWeight f fd) (B : Blt mg) (h1 : Has P w K mg base "_law_cell_at" 1 ["script", "k"] (spCell K)) :
    FnOk P w K mg base CX0 2 f fd ["script", "at", "turn", "states"] (spWeight K) := by
  refine F.ok scWeight (fun vs H Q E h => ?_) (fun cdv A outer s H vs Q E hr h => ?_)
  · obtain ⟨a, ns, at', t, n, rfl, _⟩ := h
    rfl
  · obtain ⟨a, ns, at', t, n, rfl, hS, h0, ht, n1, n2, q⟩ := h
    refine ⟨_, pss_cons (ps_set (i := 4) scWeight.nd rfl (Or.inl rfl) (pe_fn h1 hr (pa_cons (pv 0) (pa_cons (pe_op op_add (pv 1) pe_int) pa_nil))))
      (pss_cons (ps_for PassesOwn.never rfl (pi_range1 rfl B.range (pa_cons (pv 2) pa_nil)) (pg_name (i := 5) scWeight.nd rfl (Or.inl rfl))
        (pss_one (ps_set (i := 4) scWeight.nd rfl (Or.inl rfl) (pe_op op_fdiv (pv 4) (pv 3)))))
      (pss_one (ps_ret (pe_op op_mod (pv 4) (pv 3))))), ?_⟩
    refine ⟨_, rfl, _, rfl, _, _, rfl, rfl, a, ns, at' + 2, rfl, hS, by omega, ?_⟩
    refine ⟨_, rfl, (t : Int), rfl, by omega, by omega, for_range (fun i σ H2 => (∃ c x, σ = [some (.ref a), some (.int at'), some (.int t), some (.int n), some (.int c), x]) ∧ H2 = H) ⟨⟨_, _, rfl⟩, rfl⟩ ?_ ?_⟩
    · rintro i σ H2 hi ⟨⟨c, x, rfl⟩, rfl⟩
      exact ⟨_, rfl, _, rfl, _, _, rfl, rfl, ⟨by omega, by omega⟩, ⟨_, _, rfl⟩, rfl⟩
    · rintro σ H2 ⟨⟨c, x, rfl⟩, rfl⟩
      refine ⟨_, rfl, _, rfl, _, _, rfl, rfl, (by show (0 : Int) < n; omega), q _ (Int.emod_nonneg _ (by omega)) (Int.emod_lt_of_pos _ (by omega))⟩
theorem hide {A : Prop} (h : ∀ G : Prop, (A → G) → G) : A := h A id
theorem sealE {a u : TS} {D : Ends} {σ : L2.St} {H : Hp} (h : ∀ E : Ends, (∀ σ H, D.nx σ H → E.nx σ H) → (∀ v H, D.rt v H → E.rt v H) → tSeq a u E σ H) : tSeq a u D σ H := h D (fun _ _ x => x) fun _ _ x => x

theorem cut1 {a1 u : TS} {D : Ends} {σ : L2.St} {H : Hp} (h : ∀ T : TS, (∀ σ H, u D σ H → T D σ H) → (tSeq a1 T) D σ H) : (tSeq a1 u) D σ H := h u fun _ _ x => x
theorem cut2 {a1 a2 u : TS} {D : Ends} {σ : L2.St} {H : Hp} (h : ∀ T : TS, (∀ σ H, u D σ H → T D σ H) → (tSeq a1 (tSeq a2 T)) D σ H) : (tSeq a1 (tSeq a2 u)) D σ H := h u fun _ _ x => x
theorem cut3 {a1 a2 a3 u : TS} {D : Ends} {σ : L2.St} {H : Hp} (h : ∀ T : TS, (∀ σ H, u D σ H → T D σ H) → (tSeq a1 (tSeq a2 (tSeq a3 T))) D σ H) : (tSeq a1 (tSeq a2 (tSeq a3 u))) D σ H := h u fun _ _ x => x
theorem cut5 {a1 a2 a3 a4 a5 u : TS} {D : Ends} {σ : L2.St} {H : Hp} (h : ∀ T : TS, (∀ σ H, u D σ H → T D σ H) → (tSeq a1 (tSeq a2 (tSeq a3 (tSeq a4 (tSeq a5 T))))) D σ H) : (tSeq a1 (tSeq a2 (tSeq a3 (tSeq a4 (tSeq a5 u))))) D σ H := h u fun _ _ x => x
theorem cut6 {a1 a2 a3 a4 a5 a6 u : TS} {D : Ends} {σ : L2.St} {H : Hp} (h : ∀ T : TS, (∀ σ H, u D σ H → T D σ H) → (tSeq a1 (tSeq a2 (tSeq a3 (tSeq a4 (tSeq a5 (tSeq a6 T)))))) D σ H) : (tSeq a1 (tSeq a2 (tSeq a3 (tSeq a4 (tSeq a5 (tSeq a6 u)))))) D σ H := h u fun _ _ x => x

noncomputable def rowIn (b n : Int) (r : List Int) : Prop := (r.length : Int) = b ∧ ∀ e ∈ r, 0 ≤ e ∧ e < n
noncomputable def tabIn (b n : Int) (t : Tab) : Prop := (t.length : Int) = n ∧ ∀ r ∈ t, rowIn b n r
theorem ok_of {b n : Int} {ts : List Tab} (b1 : 2 ≤ b) (b2 : b ≤ 10) (n1 : 1 ≤ n) (n2 : n ≤ 12) (t1 : 1 ≤ ts.length) (t2 : ts.length ≤ 6) (h : ∀ t ∈ ts, tabIn b n t) : Ok b ts ∧ (nst ts : Int) = n := by
  have hn : (nst ts : Int) = n := by
    cases ts with
    | nil => simp at t1
    | cons t r => exact (h t List.mem_cons_self).1
  refine ⟨⟨b1, b2, t1, t2, by omega, by omega, fun t ht => ?_, fun t ht r hr => ((h t ht).2 r hr).1, fun t ht r hr e he => ?_⟩, hn⟩
  · have := (h t ht).1
    omega
  · have := ((h t ht).2 r hr).2 e he
    omega
theorem mem_snoc {α : Type} {P : α → Prop} {xs : List α} {x : α} (h : ∀ y ∈ xs, P y) (hx : P x) : ∀ y ∈ xs ++ [x], P y := fun y hy => by
  rcases List.mem_append.mp hy with hy | hy
  · exact h y hy
  · rw [List.mem_singleton.mp hy]
    exact hx
theorem scScheme : FnScope ["script", "at", "most", "head", "base", "states", "way", "digits", "tables", "turn", "table", "weight", "state", "row", "figure", "drawn", "some"] ["script", "at", "most"] (defScope sScheme) :=
  ⟨rfl, rfl, rfl, by decide +kernel, rfl, by decide +kernel, by decide +kernel⟩

noncomputable def stS (a m : Addr) (at' hd b n w d : Int) (lT : Addr) (o9 o10 o11 o12 o13 o14 o15 o16 : Option V) : L2.St :=
  [some (.ref a), some (.int at'), some (.ref m), some (.int hd), some (.int b), some (.int n), some (.int w), some (.int d), some (.ref lT), o9, o10, o11, o12, o13, o14, o15, o16]
theorem ok_scheme {f : Addr} {fd : FuncData} (F : Fun K "_law_scheme" "_law_scheme" sScheme f fd) (B : Blt mg) (h1 : Has P w K mg base "_law_cell_at" 1 ["script", "k"] (spCell K)) (h2 : Has P w K mg base "_law_stirred" 1 ["cell", "k"] spStir)
    (h3 : Has P w K mg base "_law_weight" 2 ["script", "at", "turn", "states"] (spWeight K)) : FnOk P w K mg base CX0 3 f fd ["script", "at", "most"] (spScheme K) := by
  refine F.ok scScheme (fun vs H Q E h => ?_) (fun cdv A outer s H vs Q E hr h => ?_)
  · obtain ⟨a, m, ns, at', m0, m1, m2, rfl, _⟩ := h
    rfl
  · obtain ⟨a, m, ns, at', m0, m1, m2, rfl, hS, h0, hm, a0, a1, b0, b1, c0, c1, q⟩ := h
    have r1 : Room 1 _ := hr.mono (by decide)
    have nd := scScheme.nd
    refine ⟨_, pss_cons (ps_set (i := 3) nd rfl (Or.inl rfl) (pe_fn h1 r1 (pa_cons (pv 0) (pa_cons (pv 1) pa_nil))))
      (pss_cons (ps_set (i := 4) nd rfl (Or.inl rfl) (pe_op op_add pe_int (pe_op op_mod (pe_op op_mod (pv 3) pe_int) (pe_op op_sub (pe_ix ix_tup (pv 2) pe_int (fun _ _ => rfl)) pe_int))))
      (pss_cons (ps_set (i := 5) nd rfl (Or.inl rfl) (pe_op op_add pe_int (pe_op op_mod (pe_op op_fdiv (pv 3) pe_int) (pe_ix ix_tup (pv 2) pe_int (fun _ _ => rfl)))))
      (pss_cons (ps_set (i := 6) nd rfl (Or.inl rfl) (pe_op op_mod (pe_fn h1 r1 (pa_cons (pv 0) (pa_cons (pe_op op_add (pv 1) pe_int) pa_nil))) pe_int))
      (pss_cons (ps_set (i := 7) nd rfl (Or.inl rfl) (pe_fn h1 r1 (pa_cons (pv 0) (pa_cons (pe_op op_add (pv 1) pe_int) pa_nil))))
      (pss_cons (ps_set (i := 8) nd rfl (Or.inl rfl) (pe_lst pa_nil))
      (pss_cons (ps_for PassesOwn.never rfl (pi_range1 rfl B.range (pa_cons (pe_op op_add pe_int (pe_op op_mod (pe_op op_fdiv (pv 3) pe_int) (pe_ix ix_tup (pv 2) pe_int (fun _ _ => rfl)))) pa_nil)) (pg_name (i := 9) nd rfl (Or.inl rfl))
        (pss_cons (ps_set (i := 10) nd rfl (Or.inl rfl) (pe_lst pa_nil))
        (pss_cons (ps_set (i := 11) nd rfl (Or.inl rfl) (pe_fn h3 hr (pa_cons (pv 0) (pa_cons (pv 1) (pa_cons (pv 9) (pa_cons (pv 5) pa_nil))))))
        (pss_cons (ps_for PassesOwn.never rfl (pi_range1 rfl B.range (pa_cons (pv 5) pa_nil)) (pg_name (i := 12) nd rfl (Or.inl rfl))
          (pss_cons (ps_set (i := 13) nd rfl (Or.inl rfl) (pe_lst pa_nil))
          (pss_cons (ps_for PassesOwn.never rfl (pi_range1 rfl B.range (pa_cons (pv 4) pa_nil)) (pg_name (i := 14) nd rfl (Or.inl rfl))
            (pss_cons (ps_set (i := 15) nd rfl (Or.inl rfl) (pe_fn h2 r1 (pa_cons (pe_fn h1 r1 (pa_cons (pv 0) (pa_cons (pe_op op_add (pv 1) pe_int) pa_nil)))
              (pa_cons (pe_op op_add (pe_op op_add (pe_op op_mul pe_int (pv 9)) (pe_op op_mul pe_int (pv 12))) (pv 14)) pa_nil))))
            (pss_cons (ps_set (i := 16) nd rfl (Or.inl rfl) (pe_lst (pa_cons (pe_op op_add (pv 12) (pe_op op_mul (pv 11) (pv 14))) (pa_cons (pe_op op_sub (pe_op op_mul (pv 11) (pv 14)) (pv 12)) (pa_cons (pv 15) (pa_cons (pv 7) pa_nil))))))
            (pss_cons (ps_expr (pe_bm PySem.F.plainAttrs_list PySem.F.slot_list_append PySem.F.type_list_append mt_append (pv 13) (pa_cons (pe_op op_mod (pe_ix ix_list (pv 16) (pv 6) (fun _ _ => rfl)) (pv 5)) pa_nil)))
            (pss_one (ps_set (i := 7) nd rfl (Or.inl rfl) (pe_op op_fdiv (pv 7) (pv 5))))))))
          (pss_one (ps_expr (pe_bm PySem.F.plainAttrs_list PySem.F.slot_list_append PySem.F.type_list_append mt_append (pv 10) (pa_cons (pe_callTy call_tuple_of rfl B.tTuple boot_tuple (pa_cons (pv 13) pa_nil)) pa_nil)))))))
        (pss_one (ps_expr (pe_bm PySem.F.plainAttrs_list PySem.F.slot_list_append PySem.F.type_list_append mt_append (pv 8) (pa_cons (pe_callTy call_tuple_of rfl B.tTuple boot_tuple (pa_cons (pv 10) pa_nil)) pa_nil))))))))
      (pss_one (ps_ret (pe_tup (pa_cons (pv 4) (pa_cons (pe_callTy call_tuple_of rfl B.tTuple boot_tuple (pa_cons (pv 8) pa_nil)) pa_nil))))))))))), ?_⟩
    -- head, base, states, way, digits, tables
    refine sealE fun D0 hN0 hR0 => ?_
    refine cut6 fun T1 hT1 => ?_
    refine ⟨_, rfl, _, rfl, a, ns, at', rfl, hS, h0, ?_⟩
    generalize cel ns at' = hd
    refine ⟨_, rfl, _, _, rfl, rfl, (by show (0 : Int) < 9; decide), _, rfl, m, _, 0, _, rfl, rfl, SqT.of hm, rfl, _, _, rfl, rfl, _, _, rfl, rfl, (by show (0 : Int) < m0 - 1; omega), _, _, rfl, rfl, ?_⟩
    have eb : ∃ b, b = 2 + hd % 9 % (m0 - 1) ∧ 2 ≤ b ∧ b ≤ m0 := ⟨_, rfl, by
      have := Int.emod_nonneg (hd % 9) (show m0 - 1 ≠ 0 by omega)
      omega, by
      have := Int.emod_lt_of_pos (hd % 9) (show 0 < m0 - 1 by omega)
      omega⟩
    obtain ⟨b, e, hb1, hb2⟩ := eb
    show gName 4 (V.int (2 + hd % 9 % (m0 - 1))) _ _ _
    rw [← e]
    clear e
    refine ⟨_, rfl, _, _, rfl, rfl, ⟨by decide, by decide⟩, _, rfl, m, _, 1, _, rfl, rfl, SqT.of hm, rfl, _, _, rfl, rfl, (by show (0 : Int) < m1; omega), _, _, rfl, rfl, ?_⟩
    have en : ∃ n, n = 1 + hd / 9 % m1 ∧ 1 ≤ n ∧ n ≤ m1 := ⟨_, rfl, by
      have := Int.emod_nonneg (hd / 9) (show m1 ≠ 0 by omega)
      omega, by
      have := Int.emod_lt_of_pos (hd / 9) (show 0 < m1 by omega)
      omega⟩
    obtain ⟨n, e, hn1, hn2⟩ := en
    show gName 5 (V.int (1 + hd / 9 % m1)) _ _ _
    rw [← e]
    clear e
    refine ⟨_, rfl, _, rfl, _, _, rfl, rfl, a, ns, at' + 1, rfl, hS, by omega, _, _, rfl, rfl, (by show (0 : Int) < 4; decide), ?_⟩
    have ew : ∃ wy, wy = cel ns (at' + 1) % 4 ∧ 0 ≤ wy ∧ wy < 4 := ⟨_, rfl, by omega, by omega⟩
    obtain ⟨wy, e, hw1, hw2⟩ := ew
    show gName 6 (V.int (cel ns (at' + 1) % 4)) _ _ _
    rw [← e]
    clear e
    refine ⟨_, rfl, _, rfl, _, _, rfl, rfl, a, ns, at' + 3, rfl, hS, by omega, ?_⟩
    generalize cel ns (at' + 3) = dg
    refine ⟨(by show 0 ≤ sizeLine; decide), fun lT hlT => hT1 _ _ ?_⟩
    -- for turn in range(..)
    refine ⟨_, rfl, _, _, rfl, rfl, ⟨by decide, by decide⟩, _, rfl, m, _, 2, _, rfl, rfl, SqT.of ((Same.new hlT) _ _ hm), rfl, _, _, rfl, rfl, (by show (0 : Int) < m2; omega), _, _, rfl, rfl, ?_⟩
    have et : ∃ tn : Nat, (tn : Int) = 1 + hd / 108 % m2 ∧ 1 ≤ tn ∧ (tn : Int) ≤ m2 := ⟨(1 + hd / 108 % m2).toNat, by
      have := Int.emod_nonneg (hd / 108) (show m2 ≠ 0 by omega)
      omega, by
      have := Int.emod_nonneg (hd / 108) (show m2 ≠ 0 by omega)
      omega, by
      have := Int.emod_lt_of_pos (hd / 108) (show 0 < m2 by omega)
      have := Int.emod_nonneg (hd / 108) (show m2 ≠ 0 by omega)
      omega⟩
    obtain ⟨tn, e, ht1, ht2⟩ := et
    show ∃ j : Int, [V.int (1 + hd / 108 % m2)] = [V.int j] ∧ _
    rw [← e]
    clear e
    have sb : (100 : Nat) < sizeLine := by decide
    obtain ⟨I1, hI1⟩ : ∃ I1 : Nat → L2.St → Hp → Prop, ∀ i σ H2, I1 i σ H2 ↔ ∃ (d : Int) (o9 o10 o11 o12 o13 o14 o15 o16 : Option V) (vts : List V) (ts : List Tab), σ = stS a m at' hd b n wy d lT o9 o10 o11 o12 o13 o14 o15 o16 ∧ Same H H2 ∧ H2 lT = some (.lst vts) ∧
        Paired (TabAt H2) vts ts ∧ ts.length = i ∧ ∀ t ∈ ts, tabIn b n t := ⟨_, fun _ _ _ => Iff.rfl⟩
    refine ⟨(tn : Int), rfl, by omega, by omega, for_range I1 ((hI1 _ _ _).2 ⟨dg, _, _, _, _, _, _, _, _, [], [], rfl, Same.new hlT, upd_same, .nil, rfl, fun t ht => by cases ht⟩) ?_ ?_⟩
    · intro i σ H2 hi hx
      refine hide fun Gz hGz => ?_
      obtain ⟨d, o9, o10, o11, o12, o13, o14, o15, o16, vts, ts, rfl, s2, hl2, hp2, len2, in2⟩ := (hI1 _ _ _).1 hx
      refine hGz ?_
      rw [show (tn : Int).toNat = tn by omega] at hi
      refine sealE fun D2 hN2 hR2 => ?_
      refine cut2 fun T2 hT2 => ?_
      refine ⟨(by show 0 ≤ sizeLine; decide), fun lR hlR => ?_⟩
      have s3 : Same H2 (upd H2 lR (.lst [])) := Same.new hlR
      refine ⟨_, rfl, _, rfl, _, rfl, _, rfl, a, ns, at', i, n, ?_, (s2.trans s3).seq hS, h0, by omega, hn1, by omega, fun wt w0 w1 => hT2 _ _ ?_⟩
      · rw [Int.zero_add]
        rfl
      have nlR : H lR = none := s2.free hlR
      have hlTR : lT ≠ lR := ne_of_none hl2 hlR
      obtain ⟨I2, hI2⟩ : ∃ I2 : Nat → L2.St → Hp → Prop, ∀ j σ H4, I2 j σ H4 ↔ ∃ (d : Int) (o12 o13 o14 o15 o16 : Option V) (vrs : List V) (t : Tab), σ = stS a m at' hd b n wy d lT (some (.int (0 + (i : Int)))) (some (.ref lR)) (some (.int wt)) o12 o13 o14 o15 o16 ∧
          Same H2 H4 ∧ H4 lR = some (.lst vrs) ∧ Paired (RowAt H4) vrs t ∧ t.length = j ∧ ∀ r ∈ t, rowIn b n r := ⟨_, fun _ _ _ => Iff.rfl⟩
      refine ⟨_, rfl, n, rfl, by omega, by omega, for_range I2 ((hI2 _ _ _).2 ⟨d, _, _, _, _, _, [], [], rfl, s3, upd_same, .nil, rfl, fun t ht => by cases ht⟩) ?_ ?_⟩
      · intro j σ H4 hj hx
        refine hide fun Gz hGz => ?_
        obtain ⟨d4, p12, p13, p14, p15, p16, vrs, t, rfl, s4, hl4, hp4, len4, in4⟩ := (hI2 _ _ _).1 hx
        refine hGz ?_
        refine sealE fun D3 hN3 hR3 => ?_
        refine cut1 fun T3 hT3 => ?_
        refine ⟨(by show 0 ≤ sizeLine; decide), fun lE hlE => hT3 _ _ ?_⟩
        have s5 : Same H4 (upd H4 lE (.lst [])) := Same.new hlE
        have nlE : H2 lE = none := s4.free hlE
        have hlRE : lR ≠ lE := ne_of_none hl4 hlE
        obtain ⟨I3, hI3⟩ : ∃ I3 : Nat → L2.St → Hp → Prop, ∀ k σ H6, I3 k σ H6 ↔ ∃ (d : Int) (o14 o15 o16 : Option V) (es : List Int), σ = stS a m at' hd b n wy d lT (some (.int (0 + (i : Int)))) (some (.ref lR)) (some (.int wt)) (some (.int (0 + (j : Int)))) (some (.ref lE)) o14 o15 o16 ∧
            Same H4 H6 ∧ H6 lE = some (.lst (es.map V.int)) ∧ es.length = k ∧ ∀ e ∈ es, 0 ≤ e ∧ e < n := ⟨_, fun _ _ _ => Iff.rfl⟩
        refine ⟨_, rfl, b, rfl, by omega, by omega, for_range I3 ((hI3 _ _ _).2 ⟨d4, _, _, _, [], rfl, s5, upd_same, rfl, fun t ht => by cases ht⟩) ?_ ?_⟩
        · intro k σ H6 hk hx
          refine hide fun Gz hGz => ?_
          obtain ⟨d6, q14, q15, q16, es, rfl, s6, hl6, len6, in6⟩ := (hI3 _ _ _).1 hx
          refine hGz ?_
          have sA : Same H H6 := (s2.trans s4).trans s6
          refine sealE fun D4 hN4 hR4 => ?_
          refine cut1 fun T4 hT4 => ?_
          refine ⟨_, rfl, _, rfl, _, _, rfl, rfl, a, ns, at' + 3, rfl, sA.seq hS, by omega, _, rfl, _, _, rfl, rfl, .inl ⟨by decide, by decide⟩, _, rfl, _, _, rfl, rfl, .inl ⟨by decide, by decide⟩, _, _, rfl, rfl, _, rfl, _, _, rfl, rfl, _, _, rfl, fun dr => hT4 _ _ (cut1 fun T5 hT5 => ?_)⟩
          refine ⟨_, rfl, _, rfl, _, rfl, _, _, rfl, rfl, .inl ⟨by omega, by omega⟩, _, _, rfl, rfl, _, rfl, _, rfl, _, _, rfl, rfl, .inl ⟨by omega, by omega⟩, _, rfl, _, _, rfl, rfl, _, rfl, _, rfl, (by show 4 ≤ sizeLine; decide), fun lS hlS => hT5 _ _ ?_⟩
          have s7 := Same.new (o := HO.lst [V.int (0 + (j : Int) + wt * (0 + (k : Int))), V.int (wt * (0 + (k : Int)) - (0 + (j : Int))), V.int dr, V.int d6]) hlS
          have hsome : ∃ z, atI [V.int (0 + (j : Int) + wt * (0 + (k : Int))), V.int (wt * (0 + (k : Int)) - (0 + (j : Int))), V.int dr, V.int d6] wy = some (V.int z) := by
            have : wy = 0 ∨ wy = 1 ∨ wy = 2 ∨ wy = 3 := by omega
            rcases this with rfl | rfl | rfl | rfl
            · exact ⟨_, rfl⟩
            · exact ⟨_, rfl⟩
            · exact ⟨_, rfl⟩
            · exact ⟨_, rfl⟩
          obtain ⟨z, hz⟩ := hsome
          refine ⟨_, rfl, .inl ⟨rfl, _, SqL.of (s7 _ _ hl6)⟩, _, rfl, _, rfl, lS, _, wy, _, rfl, rfl, SqL.of upd_same, hz, _, rfl, _, _, rfl, rfl, (by show (0 : Int) < n; omega), lE, _, _, rfl, rfl, s7 _ _ hl6, ?_, ?_⟩
          · rw [List.length_map]
            omega
          · refine ⟨_, rfl, _, rfl, _, _, rfl, rfl, ⟨by omega, by omega⟩, ?_⟩
            refine hN4 _ _ ((hI3 _ _ _).2 ?_)
            refine ⟨_, _, _, _, es ++ [z % n], rfl, (s6.trans s7).put (hlE), ?_, by simp [len6], mem_snoc in6 ⟨Int.emod_nonneg _ (by omega), Int.emod_lt_of_pos _ (by omega)⟩⟩
            rw [upd_same, List.map_append]
            rfl
        · intro σ H6 hx
          refine hide fun Gz hGz => ?_
          obtain ⟨d6, q14, q15, q16, es, rfl, s6, hl6, len6, in6⟩ := (hI3 _ _ _).1 hx
          refine hGz ?_
          have hl6' : H6 lR = some (.lst vrs) := s6 _ _ hl4
          refine ⟨_, rfl, .inl ⟨rfl, _, SqL.of hl6'⟩, _, rfl, lE, _, rfl, .inl ⟨SqL.of hl6, fun lU hlU => ?_⟩⟩
          have s8 := Same.new (o := HO.tup (es.map V.int)) hlU
          refine ⟨lR, vrs, _, rfl, rfl, s8 _ _ hl6', ?_, ?_⟩
          · have := paired_length hp4
            omega
          · have sB : Same H4 (upd H6 lU (.tup (es.map V.int))) := s6.trans s8
            have nR : H2 lR = none := hlR
            refine hN3 _ _ ((hI2 _ _ _).2 ?_)
            refine ⟨d6, _, _, _, _, _, vrs ++ [.ref lU], t ++ [es], rfl, (s4.trans sB).put nR, upd_same, paired_snoc (paired_imp (fun x r hx => ?_) hp4) ?_, by simp [len4], mem_snoc in4 ⟨?_, in6⟩⟩
            · obtain ⟨y, e, hy⟩ := hx
              refine ⟨y, e, ?_⟩
              have hy' := sB _ _ hy
              rw [upd_ne]
              · exact hy'
              · exact ne_of hy' (s8 _ _ hl6') (by intro z; cases z)
            · refine ⟨lU, rfl, ?_⟩
              rw [upd_ne (ne_of_none hl6' hlU).symm]
              exact upd_same
            · omega
      · intro σ H4 hx
        refine hide fun Gz hGz => ?_
        obtain ⟨d4, p12, p13, p14, p15, p16, vrs, t, rfl, s4, hl4, hp4, len4, in4⟩ := (hI2 _ _ _).1 hx
        refine hGz ?_
        have hl4' : H4 lT = some (.lst vts) := s4 _ _ hl2
        refine ⟨_, rfl, .inl ⟨rfl, _, SqL.of hl4'⟩, _, rfl, lR, _, rfl, .inl ⟨SqL.of hl4, fun lU hlU => ?_⟩⟩
        have s8 := Same.new (o := HO.tup vrs) hlU
        refine ⟨lT, vts, _, rfl, rfl, s8 _ _ hl4', ?_, ?_⟩
        · have := paired_length hp2
          omega
        · have sB : Same H4 (upd H4 lU (.tup vrs)) := s8
          have keepT : ∀ {x : Addr} {u : List V}, (upd H4 lU (.tup vrs)) x = some (.tup u) → upd (upd H4 lU (.tup vrs)) lT (.lst (vts ++ [.ref lU])) x = some (.tup u) := fun {x u} hx => by
            rw [upd_ne]
            · exact hx
            · exact ne_of hx (s8 _ _ hl4') (by intro z; cases z)
          refine hN2 _ _ ((hI1 _ _ _).2 ?_)
          refine ⟨d4, _, _, _, _, _, _, _, _, vts ++ [.ref lU], ts ++ [t], rfl, (s2.trans (s4.trans sB)).put hlT, upd_same, paired_snoc (paired_imp (fun x r hx => ?_) hp2) ?_, by simp [len2], mem_snoc in2 ⟨?_, in4⟩⟩
          · obtain ⟨y, us, e, hy, hp⟩ := hx
            refine ⟨y, us, e, keepT (sB _ _ (s4 _ _ hy)), paired_imp (fun x' r' hx' => ?_) hp⟩
            obtain ⟨y', e', hy'⟩ := hx'
            exact ⟨y', e', keepT (sB _ _ (s4 _ _ hy'))⟩
          · refine ⟨lU, vrs, rfl, keepT upd_same, paired_imp (fun x' r' hx' => ?_) hp4⟩
            obtain ⟨y', e', hy'⟩ := hx'
            exact ⟨y', e', keepT (sB _ _ hy')⟩
          · omega
    · intro σ H2 hx
      refine hide fun Gz hGz => ?_
      obtain ⟨d, o9, o10, o11, o12, o13, o14, o15, o16, vts, ts, rfl, s2, hl2, hp2, len2, in2⟩ := (hI1 _ _ _).1 hx
      refine hGz ?_
      refine ⟨_, rfl, _, rfl, lT, _, rfl, .inl ⟨SqL.of hl2, fun lU hlU => ⟨(by show 2 ≤ sizeLine; decide), fun lV hlV => ?_⟩⟩⟩
      have s8 := Same.new (o := HO.tup vts) hlU
      have s9 := Same.new (o := HO.tup [V.int b, V.ref lU]) hlV
      have hl : ts.length = tn := by omega
      obtain ⟨ok, hn⟩ := ok_of hb1 (by omega) hn1 (by omega) (by omega) (by omega) in2
      refine hR0 _ _ (q _ b ts _ ((s2.trans s8).trans s9) ⟨lV, _, rfl, upd_same, lU, vts, rfl, s9 _ _ upd_same, paired_imp (fun x r hx => hx.same (s8.trans s9)) hp2⟩ ok hb2 (by omega) (by omega))

theorem scFigures : FnScope ["script", "at", "base", "most"] ["script", "at", "base", "most"] (defScope sFigures) := ⟨rfl, rfl, rfl, by decide +kernel, rfl, by decide +kernel, by decide +kernel⟩
theorem ok_figures {f : Addr} {fd : FuncData} (F : Fun K "_law_figures" "_law_figures" sFigures f fd) (B : Blt mg) (h1 : Has P w K mg base "_law_cell_at" 1 ["script", "k"] (spCell K)) :
    FnOk P w K mg base CX0 2 f fd ["script", "at", "base", "most"] (spFigures K) := by
  refine F.ok scFigures (fun vs H Q E h => ?_) (fun cdv A outer s H vs Q E hr h => ?_)
  · obtain ⟨a, ns, at', b, most, rfl, _⟩ := h
    rfl
  · obtain ⟨a, ns, at', b, most, rfl, hS, h0, b1, b2, m1, m2, q⟩ := h
    refine ⟨_, pss_one (ps_ret (pe_comp (N := ["k", "at", "base", "script"]) (js := [none, some 1, some 2, some 0]) rfl rfl (pi_range1 rfl B.range (pa_cons (pe_op op_mod (pe_fn h1 hr (pa_cons (pv 0) (pa_cons (pv 1) pa_nil))) (pe_op op_add (pv 3) pe_int)) pa_nil))
        (fun _ _ _ _ => pg_name (i := 0) (ndOf (N := ["k", "at", "base", "script"]) (by decide +kernel)) rfl (Or.inl rfl)) (fun _ _ _ _ => pts_nil)
        (fun _ _ _ _ => pe_op op_mod (pe_fn h1 hr (pa_cons (pv 3) (pa_cons (pe_op op_add (pe_op op_add (pv 1) pe_int) (pv 0)) pa_nil))) (pv 2)))), ?_⟩
    refine ⟨_, rfl, _, rfl, a, ns, at', rfl, hS, h0, _, rfl, _, _, rfl, rfl, _, _, rfl, rfl, (by show (0 : Int) < most + 1; omega), ?_⟩
    have e1 := Int.emod_nonneg (cel ns at') (show most + 1 ≠ 0 by omega)
    have e2 := Int.emod_lt_of_pos (cel ns at') (show 0 < most + 1 by omega)
    show ∃ j : Int, [V.int (cel ns at' % (most + 1))] = [V.int j] ∧ _
    generalize cel ns at' % (most + 1) = n at e1 e2 ⊢
    refine ⟨n, rfl, by omega, by omega, ?_⟩
    refine block_map (Walk.rng 0 n.toNat) (by omega) rfl (fun k => .int (cel ns (at' + 1 + (0 + (k : Int))) % b)) (fun k H2 Q' hk s2 q' => ?_) (fun D H2 hD s2 hD2 => ?_)
    · exact ⟨_, rfl, _, rfl, _, _, rfl, rfl, _, rfl, _, _, rfl, rfl, a, ns, _, rfl, s2.seq hS, by omega, _, rfl, _, _, rfl, rfl, (by show (0 : Int) < b; omega), q' _ (Same.refl _)⟩
    · refine q D ((List.range n.toNat).map fun k : Nat => cel ns (at' + 1 + (0 + (k : Int))) % b) H2 s2 hD ?_ (fun g hg => ?_) ?_
      · rw [hD2, List.map_map]
        rfl
      · obtain ⟨k, _, rfl⟩ := List.mem_map.mp hg
        exact ⟨Int.emod_nonneg _ (by omega), Int.emod_lt_of_pos _ (by omega)⟩
      · rw [List.length_map, List.length_range]
        omega

theorem scRead : FnScope ["scheme", "turn", "state", "figures", "figure"] ["scheme", "turn", "state", "figures"] (defScope sRead) := ⟨rfl, rfl, rfl, by decide +kernel, rfl, by decide +kernel, by decide +kernel⟩
theorem ok_read {f : Addr} {fd : FuncData} (F : Fun K "_law_read" "_law_read" sRead f fd) (B : Blt mg) : FnOk P w K mg base CX0 1 f fd ["scheme", "turn", "state", "figures"] (spRead K) := by
  refine F.ok scRead (fun vs H Q E h => ?_) (fun cdv A outer s H vs Q E hr h => ?_)
  · obtain ⟨v, ts, b, a, t, st, fs, rfl, _⟩ := h
    rfl
  · obtain ⟨v, ts, b, a, t, st, fs, rfl, ⟨a0, wv, rfl, ha0, hT⟩, ok, hS, s0, s1, hf, k⟩ := h
    refine ⟨_, pss_cons (ps_for PassesOwn.never rfl (pi_list (pv 3)) (pg_name (i := 4) scRead.nd rfl (Or.inl rfl))
        (pss_cons (ps_set (i := 2) scRead.nd rfl (Or.inl rfl) (pe_ix ix_tup (pe_ix ix_tup (pe_ix ix_tup (pe_ix ix_tup (pv 0) pe_int (fun _ _ => rfl)) (pe_op op_mod (pv 1) (pe_callB call_len_seq rfl B.len PySem.boot_len (pa_cons (pe_ix ix_tup (pv 0) pe_int (fun _ _ => rfl)) pa_nil))) (fun _ _ => rfl)) (pv 2) (fun _ _ => rfl)) (pv 4) (fun _ _ => rfl)))
        (pss_one (ps_set (i := 1) scRead.nd rfl (Or.inl rfl) (pe_op op_add (pv 1) pe_int)))))
      (pss_one (ps_ret (pv 2))), ?_⟩
    refine ⟨_, rfl, a, rfl, ⟨_, hS⟩, for_list (K := K) (a := a) (xs := fs.map V.int)
      (fun i σ H2 => (∃ x, σ = [some (.ref a0), some (.int ((t + i : Nat) : Int)), some (.int (rd ts t st (fs.take i))), some (.ref a), x]) ∧ H2 = H) ⟨⟨none, rfl⟩, rfl⟩ (fun i σ H2 _ ⟨_, e⟩ => e ▸ hS) ?_ ?_⟩
    · rintro i y σ H2 hi ⟨⟨x, rfl⟩, rfl⟩
      obtain ⟨z, ez, rfl⟩ := get_ints hi
      have hz := hf z (List.mem_of_getElem? ez)
      have hlt := ok.rd_lt (fs.take i) t st s0 s1 fun g hg => hf g (List.mem_of_mem_take hg)
      have hm : (t + i) % ts.length < ts.length := Nat.mod_lt _ ok.t1
      obtain ⟨a1, x1, y1, a2, x2, y2, a3, x3, rfl, q1, q2, rfl, q3, q4, rfl, q5, q6⟩ := hT.look ok hm hlt.1 hlt.2 hz.1 hz.2
      obtain ⟨a1', x1', e1', q1', el⟩ := hT.len
      cases e1'
      have hil : i < fs.length := (List.getElem?_eq_some_iff.mp ez).1
      have enx : ent ts ((t + i) % ts.length) (rd ts t st (fs.take i)) z = rd ts t st (fs.take (i + 1)) := by
        rw [take_succ_get ez, rd_snoc, List.length_take_of_le (by omega)]
      rw [enx] at q6
      have emod : ((t + i : Nat) : Int) % (x1'.length : Int) = (((t + i) % ts.length : Nat) : Int) := by rw [el, Int.natCast_emod]
      refine ⟨_, rfl, a0, _, 1, _, rfl, rfl, SqT.of ha0, rfl, _, rfl, _, rfl, a0, _, 1, _, rfl, rfl, SqT.of ha0, rfl, a1, x1', rfl, .inr (SqT.of q1'), _, _, rfl, rfl, ?_, a1, x1, _, _, rfl, rfl, SqT.of q1, (by rw [emod]; exact q2), _, rfl, a2, x2, _, _, rfl, rfl, SqT.of q3, q4, _, rfl, a3, x3, _, _, rfl, rfl, SqT.of q5, q6, ?_⟩
      · have := ok.t1
        omega
      · exact ⟨_, rfl, _, _, rfl, rfl, ⟨_, rfl⟩, rfl⟩
    · rintro σ H2 ⟨⟨x, rfl⟩, rfl⟩
      rw [List.length_map, List.take_length]
      exact ⟨_, rfl, k⟩
end
end My


namespace My
open PySem L2 PyProof.Rows

noncomputable def zer (r : List Int) (k : Nat) : Bool := decide (r.getD k 0 = 0)
noncomputable def chkL (r : List Int) : List Int := ((List.range r.length).filter (zer r)).map fun k : Nat => (k : Int)
noncomputable def rowOf (ts : List Tab) (t : Nat) (s : Int) : List Int := (ts.getD t []).getD s.toNat []
theorem Ok.row {b : Int} {ts : List Tab} (o : Ok b ts) {t : Nat} {s : Int} (ht : t < ts.length) (s0 : 0 ≤ s) (s1 : s < (nst ts : Int)) : ∃ tab, ts[t]? = some tab ∧ tab[s.toNat]? = some (rowOf ts t s) ∧ ((rowOf ts t s).length : Int) = b := by
  have h1 : ts[t] ∈ ts := List.getElem_mem ht
  have l1 := o.rows _ h1
  have hs : s.toNat < ts[t].length := by omega
  have h2 : ts[t][s.toNat] ∈ ts[t] := List.getElem_mem hs
  have e : rowOf ts t s = ts[t][s.toNat] := by
    unfold rowOf
    simp [List.getD_eq_getElem?_getD, ht, hs]
  rw [e]
  exact ⟨ts[t], by simp [ht], by simp [hs], o.figs _ h1 _ h2⟩
section
variable {P : Program} {w : World} {K : PySem.W.Frag} {mg : Str → Option Value} {base : Heap}
end
end My

namespace My

inductive Kd where
  | one | swap | twin | jump | out
  deriving DecidableEq
noncomputable def wid : Kd → Nat
  | .one => 1 | .swap => 2 | .twin => 2 | .jump => 3 | .out => 1

noncomputable def figsOf (b : Int) : List Int := (List.range b.toNat).map fun k : Nat => (k : Int)
noncomputable def fstI (w : List Int) : Int := w.headD 0
noncomputable def lstI (w : List Int) : Int := w.getLastD 0
noncomputable def midI (w : List Int) : List Int := (w.drop 1).take (w.length - 2)
noncomputable def othersI (b f : Int) : List Int := (figsOf b).filter fun g => decide (g ≠ f)

noncomputable def wr (b : Int) (k : Kd) (w : List Int) : List (List Int) := match k with
  | .out => [[]]
  | .one => (othersI b (fstI w)).map fun g => [g]
  | .twin => if fstI w = lstI w then (othersI b (fstI w)).map fun g => [g, g] else []
  | .swap | .jump => if fstI w = lstI w then [] else [[lstI w] ++ midI w ++ [fstI w]]
noncomputable def spliced (fs : List Int) (p n : Nat) (m : List Int) : List Int := fs.take p ++ m ++ fs.drop (p + n)

noncomputable def mk (b : Int) (k : Kd) (w : List Int) : List (List Int) :=
  ((figsOf b).flatMap fun g => (if k = .one ∧ g ≠ fstI w then [[g]] else []) ++ (if k = .twin ∧ fstI w = w.getD 1 0 ∧ g ≠ fstI w then [[g, g]] else [])) ++
  (if k = .out then [[]] else []) ++ (if (k = .swap ∨ k = .jump) ∧ fstI w ≠ lstI w then [w.reverse] else [])
end My

set_option maxHeartbeats 1000000

namespace L2
open PySem PySem.Spec PyProof.Rows
theorem ifN {c : Bool} {A B : Prop} (h : c = false) (b : B) : if c = true then A else B := by
  subst h
  exact iteF b
theorem ifY {c : Bool} {A B : Prop} (h : c = true) (a : A) : if c = true then A else B := by
  subst h
  exact iteT a
theorem smallM {n : Nat} (h : n ≤ 1000000) : n < sizeLine := Nat.lt_of_le_of_lt h (by rw [sizeLine_eq]; decide)

theorem block_rel {J : It} {H1 : Hp} {n : Nat} {item : Nat → V} {js : List (Option Nat)} {i : Nat} {tc : TT} {te : TE} {σ : St} {R : VK} (Wk : Walk J H1 n (fun k x _ => x = item k)) (hn : n ≤ 1000) (hi : (cst js σ)[i]? = some none)
    (p : Nat → Bool) (Y : Addr → Nat → V → Hp → Prop)
    (mono : ∀ D k v ys H H', (∀ b o, b ≠ D → H b = some o → H' b = some o) → H D = some (.lst ys) → Y D k v H → Y D k v H')
    (test : ∀ k H2 (Q : Bool → Hp → Prop), k < n → Same H1 H2 → (∀ H3, Same H2 H3 → Q (p k) H3) → tc ((cst js σ).set i (some (item k))) H2 Q)
    (step : ∀ D k ys H2 (Q : VK), k < n → p k = true → H1 D = none → H2 D = some (.lst ys) → Same H1 H2 → (∀ y H3, Same H2 H3 → Y D k y H3 → Q y H3) → te ((cst js σ).set i (some (item k))) H2 Q)
    (fin : ∀ D ys H2, H1 D = none → Same H1 H2 → H2 D = some (.lst ys) → Paired (fun y k => Y D k y H2) ys ((List.range n).filter p) → R (.ref D) H2) : tBlock js (gName i) tc te σ R J H1 := by
  refine block_gen Wk (fun D k ys H2 => H2 D = some (.lst ys) ∧ Paired (fun y k => Y D k y H2) ys ((List.range k).filter p)) (fun D hD => ⟨upd_same, .nil⟩) (fun D k x ys H1' H2 Keep Drop hD hk s1 s2 hys e ex keep drop => ?_) (fun D ys H2 hD s hys e => fin D ys H2 hD s hys e.2)
  subst ex
  obtain ⟨e0, e⟩ := e
  have s := s1.trans s2
  have hl0 : ys.length ≤ k := by
    rw [My.paired_length e]
    exact Nat.le_trans (List.length_filter_le _ _) (by simp)
  have hl : ys.length < sizeLine := Nat.lt_of_le_of_lt hl0 (small1000 (by omega))
  have e1 : List.range (k + 1) = List.range k ++ [k] := List.range_succ
  refine ⟨Ext.set hi, test k H2 _ hk s fun H3 s3 => ?_⟩
  have up : ∀ {H4}, Same H2 H4 → Paired (fun y k => Y D k y H4) ys ((List.range k).filter p) := fun {H4} s4 => My.paired_imp (fun y j hy => mono D j y ys H1' H4 (fun b o _ hb => s4 _ _ (s2 _ _ hb)) e0 hy) e
  cases hp : p k with
  | true =>
    rw [if_pos rfl]
    refine step D k ys H3 _ hk hp hD (s3 _ _ hys) (s.trans s3) fun y H4 s4 hy => keep _ _ (s3.trans s4) hl ⟨upd_same, ?_⟩
    rw [e1, List.filter_append]
    have hD4 : H4 D = some (.lst ys) := s4 _ _ (s3 _ _ hys)
    have fr : ∀ b o, b ≠ D → H4 b = some o → (upd H4 D (.lst (ys ++ [y]))) b = some o := fun b o hb h => by
      rw [upd_ne hb]
      exact h
    have : [k].filter p = [k] := by simp [hp]
    rw [this]
    exact My.paired_snoc (My.paired_imp (fun y j hy => mono D j y ys H4 _ fr hD4 hy) (up (s3.trans s4))) (mono D k y ys H4 _ fr hD4 hy)
  | false =>
    rw [if_neg (by decide)]
    refine drop _ s3 ⟨s3 _ _ hys, ?_⟩
    have : [k].filter p = [] := by simp [hp]
    rw [e1, List.filter_append, this, List.append_nil]
    exact up s3
end L2
namespace My
open PySem L2 PyProof.Rows

noncomputable def WD : List (Str × Int) := [("one", 1), ("swap", 2), ("twin", 2), ("jump", 3), ("out", 1)]
structure WidthsAt (P : Program) (w : World) (K : PySem.W.Frag) (mg : Str → Option Value) : Prop where
  at' : ∃ a, mg "WIDTHS" = some (.ref a) ∧ TabK P w K a WD

noncomputable def LL (H : Hp) (as : List Addr) (yss : List (List Int)) : Prop := Paired (fun a ys => H a = some (.lst (ys.map V.int))) as yss

structure Told (H0 H : Hp) (D : Addr) (as : List Addr) (yss : List (List Int)) : Prop where
  at' : H D = some (.lst (as.map V.ref))
  newD : H0 D = none
  nd : as.Nodup
  new : ∀ a ∈ as, H0 a = none ∧ a ≠ D
  ll : LL H as yss
theorem paired_map_left {α β γ : Type} {F : α → β → Prop} {f : β → γ} {G : α → γ → Prop} (h : ∀ a b, F a b → G a (f b)) : ∀ {l₁ : List α} {l₂ : List β}, Paired F l₁ l₂ → Paired G l₁ (l₂.map f)
  | _, _, .nil => .nil
  | _, _, .cons a t => .cons (h _ _ a) (paired_map_left h t)


section
variable {P : Program} {w : World} {K : PySem.W.Frag} {mg : Str → Option Value} {base : Heap}
end
end My

namespace My
open PySem L2 PyProof.Rows


structure Tl (H0 H : Hp) (D : Addr) (yss : List (List Int)) : Prop where
  tld : ∃ as, Told H0 H D as yss
  same : Same H0 H
section
variable {P : Program} {w : World} {K : PySem.W.Frag} {mg : Str → Option Value} {base : Heap}
end
end My


set_option maxHeartbeats 1000000
namespace My
open PySem L2 PyProof.Rows

structure Gr where
  succ : PyData → List (PyData × PyData)
  fin : PyData → Bool
  start : PyData
  univ : List PyData
  Lab : V → PyData → Prop
  
  hp : Hp → Prop

noncomputable def AVal (K : PySem.W.Frag) (H : Hp) (Lab : V → PyData → Prop) (arr : List (PyData × List PyData)) (v : V) (ls : List PyData) : Prop :=
  (ls = [] ∧ v = .non) ∨ ∃ a lv b l p lsP, v = .ref a ∧ SqT K H a [lv, .ref b] ∧ Lab lv l ∧ KeyAt K H false b p ∧ ls = lsP ++ [l] ∧ (p, lsP) ∈ arr
theorem AVal.mono {K : PySem.W.Frag} {H H' : Hp} {Lab : V → PyData → Prop} {arr arr' : List (PyData × List PyData)} {v : V} {ls : List PyData} (s : ∀ a xs, SqT K H a xs → SqT K H' a xs) (m : ∀ x ∈ arr, x ∈ arr') (h : AVal K H Lab arr v ls) : AVal K H' Lab arr' v ls := by
  rcases h with h | ⟨a, lv, b, l, p, lsP, h1, h2, h3, h4, h5, h6⟩
  · exact .inl h
  · exact .inr ⟨a, lv, b, l, p, lsP, h1, s _ _ h2, h3, h4.mono s, h5, m _ h6⟩
structure ArrAt (P : Program) (w : World) (K : PySem.W.Frag) (H : Hp) (Lab : V → PyData → Prop) (d : Addr) (arr : List (PyData × List PyData)) : Prop where
  ex : ∃ kvs, DAt P w K false H d kvs ∧ Paired (fun (kv : PyData × V) (a : PyData × List PyData) => kv.1 = a.1 ∧ AVal K H Lab arr kv.2 a.2) kvs arr
theorem ArrAt.same {P : Program} {w : World} {K : PySem.W.Frag} {H H' : Hp} {Lab : V → PyData → Prop} {d : Addr} {arr : List (PyData × List PyData)} (s : Same H H') (h : ArrAt P w K H Lab d arr) : ArrAt P w K H' Lab d arr := by
  obtain ⟨kvs, hD, p⟩ := h
  exact ⟨kvs, hD.same s, paired_imp (fun _ _ h => ⟨h.1, h.2.mono (fun _ _ => s.seqT) fun _ x => x⟩) p⟩
theorem ArrAt.putL {P : Program} {w : World} {K : PySem.W.Frag} {H : Hp} {Lab : V → PyData → Prop} {d l : Addr} {ys : List V} {o : HO} {arr : List (PyData × List PyData)} (h : ArrAt P w K H Lab d arr) (hl : H l = some (.lst ys)) : ArrAt P w K (upd H l o) Lab d arr := by
  obtain ⟨kvs, hD, p⟩ := h
  exact ⟨kvs, hD.putL hl, paired_imp (fun _ _ h => ⟨h.1, h.2.mono (fun a xs t => seqT_putL hl a xs t) fun _ x => x⟩) p⟩
theorem paired_val {R : V → List PyData → Prop} : ∀ {kvs : List (PyData × V)} {arr : List (PyData × List PyData)}, Paired (fun (kv : PyData × V) (a : PyData × List PyData) => kv.1 = a.1 ∧ R kv.2 a.2) kvs arr → (arr.map (·.1)).Nodup → ∀ {n ls}, (n, ls) ∈ arr → ∃ v, valN kvs n = some v ∧ R v ls
  | _, _, .nil, _, n, ls, h => by cases h
  | _, _, .cons (a := kv) (b := a) h t, nd, n, ls, hm => by
    rw [List.map_cons, List.nodup_cons] at nd
    unfold valN
    rw [List.find?_cons]
    rcases List.mem_cons.mp hm with e | hm
    · have e1 : kv.1 = n := by rw [h.1, ← e]
      rw [decide_eq_true e1]
      exact ⟨kv.2, rfl, by have := h.2; rw [← e] at this; exact this⟩
    · have e1 : kv.1 ≠ n := fun z => nd.1 (List.mem_map.mpr ⟨_, hm, by rw [← h.1, z]⟩)
      rw [decide_eq_false e1]
      exact paired_val t nd.2 hm
theorem paired_noval {R : V → List PyData → Prop} : ∀ {kvs : List (PyData × V)} {arr : List (PyData × List PyData)}, Paired (fun (kv : PyData × V) (a : PyData × List PyData) => kv.1 = a.1 ∧ R kv.2 a.2) kvs arr → ∀ {n}, ¬ Has' arr n → valN kvs n = none
  | _, _, .nil, n, h => rfl
  | _, _, .cons (a := kv) (b := a) h t, n, hn => by
    unfold valN
    rw [List.find?_cons]
    have e1 : kv.1 ≠ n := fun z => hn ⟨a.2, by rw [← z, h.1]; exact List.mem_cons_self⟩
    rw [decide_eq_false e1]
    exact paired_noval t fun ⟨ls, hm⟩ => hn ⟨ls, List.mem_cons_of_mem _ hm⟩

theorem ArrAt.add {P : Program} {w : World} {K : PySem.W.Frag} {H H' : Hp} {Lab : V → PyData → Prop} {d : Addr} {arr : List (PyData × List PyData)} {kvs : List (PyData × V)} {k p : PyData} {ls : List PyData} {l : PyData} {t b : Addr} {lv : V}
    (hp : Paired (fun (kv : PyData × V) (a : PyData × List PyData) => kv.1 = a.1 ∧ AVal K H Lab arr kv.2 a.2) kvs arr) (hn : ¬ Has' arr k) (s : ∀ a xs, SqT K H a xs → SqT K H' a xs) (hD : DAt P w K false H' d (putN kvs k (.ref t)))
    (ht : SqT K H' t [lv, .ref b]) (hl : Lab lv l) (hb : KeyAt K H' false b p) (hm : (p, ls) ∈ arr) : ArrAt P w K H' Lab d (arr ++ [(k, ls ++ [l])]) := by
  have e : putN kvs k (.ref t) = kvs ++ [(k, .ref t)] := by
    unfold putN
    rw [paired_noval hp hn]
    rfl
  rw [e] at hD
  refine ⟨_, hD, paired_snoc (paired_imp (fun _ _ h => ⟨h.1, h.2.mono s fun x hx => List.mem_append_left _ hx⟩) hp) ⟨rfl, .inr ⟨t, lv, b, l, p, ls, rfl, ht, hl, hb, rfl, List.mem_append_left _ hm⟩⟩⟩
noncomputable def spLabels (P : Program) (w : World) (K : PySem.W.Frag) : Sp := fun vs H Q _ => ∃ (succ : PyData → List (PyData × PyData)) (start n : PyData) (Lab : V → PyData → Prop) (arr : List (PyData × List PyData)) (ls : List PyData) (b d : Addr), vs = [.ref b, .ref d] ∧ KeyAt K H false b n ∧ ArrAt P w K H Lab d arr ∧ Arr succ start arr ∧
  (n, ls) ∈ arr ∧ ls.length ≤ 100000 ∧ ∀ D lvs H', Same H H' → H D = none → H' D = some (.lst lvs) → Paired Lab lvs ls → Q (.ref D) H'
theorem paired_reverse {α β : Type} {F : α → β → Prop} : ∀ {l₁ : List α} {l₂ : List β}, Paired F l₁ l₂ → Paired F l₁.reverse l₂.reverse
  | _, _, .nil => .nil
  | _, _, .cons h t => by
    rw [List.reverse_cons, List.reverse_cons]
    exact paired_snoc (paired_reverse t) h
section
variable {P : Program} {w : World} {K : PySem.W.Frag} {mg : Str → Option Value} {base : Heap}
noncomputable abbrev s_labels_to : Stmt := top 9
theorem sc_labels_to : FnScope ["node", "arrivals", "labels"] ["node", "arrivals"] (defScope s_labels_to) := ⟨rfl, rfl, rfl, by decide +kernel, rfl, by decide +kernel, by decide +kernel⟩
theorem ok_labels_to {f : Addr} {fd : FuncData} (F : Fun K "labels_to" "labels_to" s_labels_to f fd) (B : Blt mg)   :
    FnOk P w K mg base CX0 1 f fd ["node", "arrivals"] (spLabels P w K) := by
  refine F.ok sc_labels_to (fun vs H Q E h => ?_) (fun cdv A outer s H vs Q E hr h => ?_)
  · obtain ⟨_, _, _, _, _, _, _, _, rfl, _⟩ := h
    rfl
  · obtain ⟨succ, start, n, Lab, arr, ls, b, d, rfl, hk, hA, A, hm, hl, q⟩ := h
    have nd := sc_labels_to.nd
    have hu := hr.units
    refine ⟨_, (pss_cons (ps_set (i := 2) nd rfl (Or.inl rfl) (pe_lst pa_nil))
      (pss_cons (ps_while PassesOwn.never (pt_cmpR op_notN (pe_nget false hu (pv 1) (pv 0) (fun _ _ => rfl)) pe_non (nomark _)) (pss_cons (ps_expr (pe_bm PySem.F.plainAttrs_list PySem.F.slot_list_append PySem.F.type_list_append mt_append (pv 2) (pa_cons (pe_ix ix_tup (pe_nget false hu (pv 1) (pv 0) (fun _ _ => rfl)) pe_int (fun _ _ => rfl)) pa_nil)))
      (pss_one (ps_set (i := 0) nd rfl (Or.inl rfl) (pe_ix ix_tup (pe_nget false hu (pv 1) (pv 0) (fun _ _ => rfl)) pe_int (fun _ _ => rfl))))))
      (pss_cons (ps_expr (pe_bm0 PySem.F.plainAttrs_list PySem.F.slot_list_reverse PySem.F.type_list_reverse mt_reverse (pv 2)))
      (pss_one (ps_ret (pv 2)))))), ?_⟩
    refine ⟨(by show 0 ≤ sizeLine; decide), fun L hL => ?_⟩
    have s1 := Same.new (o := HO.lst []) hL
    refine ⟨fun m σ H2 => ∃ (b' : Addr) (n' : PyData) (lsC labs : List PyData) (lvs : List V), σ = [some (.ref b'), some (.ref d), some (.ref L)] ∧ KeyAt K H2 false b' n' ∧ (n', lsC) ∈ arr ∧ H2 L = some (.lst lvs) ∧ Paired Lab lvs labs ∧ ls = lsC ++ labs.reverse ∧ Same H H2 ∧ m = lsC.length,
      ⟨_, b, n, ls, [], [], rfl, hk.same s1, hm, upd_same, .nil, by simp, s1, rfl⟩, ?_⟩
    rintro m σ H2 ⟨b', n', lsC, labs, lvs, rfl, hk2, hm2, hL2, hp2, els, s2, rfl⟩
    obtain ⟨kvs, hD, hp⟩ := hA.same s2
    obtain ⟨v, hv, hAv⟩ := paired_val hp A.nd hm2
    have hget : NGet P w K false H2 d (.ref b') (some v) := ⟨kvs, n', b', hD, rfl, hk2, hv.symm⟩
    refine ⟨_, rfl, _, rfl, d, v, rfl, hget, rfl, _, rfl, ?_⟩
    rcases hAv with ⟨e1, e2⟩ | ⟨a, lv, bp, l, p, lsP, rfl, hT, hLab, hkp, e1, hmp⟩
    · subst e1 e2
      refine ifN (by simp) ?_
      refine ⟨_, rfl, .inl ⟨rfl, _, SqL.of hL2⟩, L, _, rfl, rfl, hL2, _, rfl, ?_⟩
      refine q L _ _ (s2.put hL) hL upd_same ?_
      rw [els, List.nil_append]
      exact paired_reverse hp2
    · refine ifY (by simp) ⟨_, fun σ' H' z => z, ?_⟩
      have hlab : labs.length < ls.length := by
        rw [els, e1]
        simp
        omega
      have hlv := paired_length hp2
      refine ⟨_, rfl, .inl ⟨rfl, _, SqL.of hL2⟩, _, rfl, _, rfl, d, _, rfl, hget, a, _, 0, _, rfl, rfl, hT, rfl, L, _, _, rfl, rfl, hL2, smallM (by omega), ?_⟩
      have hD3 := hD.putL (o := .lst (lvs ++ [lv])) hL2
      have hk3 := hk2.putL (o := .lst (lvs ++ [lv])) hL2
      have hT3 := seqT_putL (o := .lst (lvs ++ [lv])) hL2 _ _ hT
      refine ⟨_, rfl, _, rfl, d, _, rfl, ⟨kvs, n', b', hD3, rfl, hk3, hv.symm⟩, a, _, 1, _, rfl, rfl, hT3, rfl, lsP.length, ?_, bp, p, lsP, labs ++ [l], lvs ++ [lv], rfl, hkp.putL hL2, hmp, upd_same, paired_snoc hp2 hLab, ?_, s2.put hL, rfl⟩
      · rw [e1, List.length_append, List.length_singleton]
        omega
      · rw [els, e1]
        simp
end
end My

set_option maxHeartbeats 2000000
namespace My
open PySem L2 PyProof.Rows

noncomputable def StepAt (K : PySem.W.Frag) (H : Hp) (Lab : V → PyData → Prop) (y : V) (st : PyData × PyData) : Prop := ∃ a lv b, y = .ref a ∧ SqT K H a [lv, .ref b] ∧ Lab lv st.1 ∧ KeyAt K H false b st.2
theorem StepAt.mono {K : PySem.W.Frag} {H H' : Hp} {Lab : V → PyData → Prop} {y : V} {st : PyData × PyData} (s : ∀ a xs, SqT K H a xs → SqT K H' a xs) (h : StepAt K H Lab y st) : StepAt K H' Lab y st := by
  obtain ⟨a, lv, b, h1, h2, h3, h4⟩ := h
  exact ⟨a, lv, b, h1, s _ _ h2, h3, h4.mono s⟩
noncomputable def NodeV (K : PySem.W.Frag) (H : Hp) (v : V) (n : PyData) : Prop := ∃ b, v = .ref b ∧ KeyAt K H false b n
theorem NodeV.mono {K : PySem.W.Frag} {H H' : Hp} {v : V} {n : PyData} (s : ∀ a xs, SqT K H a xs → SqT K H' a xs) (h : NodeV K H v n) : NodeV K H' v n := by
  obtain ⟨b, e, h⟩ := h
  exact ⟨b, e, h.mono s⟩

noncomputable def spSteps (K : PySem.W.Frag) (g : Gr) : Sp := fun vs H Q _ => ∃ (b : Addr) (n : PyData), vs = [.ref b] ∧ KeyAt K H false b n ∧ n ∈ g.univ ∧ g.hp H ∧ ∀ D ys H', Same H H' → H D = none → H' D = some (.lst ys) → Paired (StepAt K H' g.Lab) ys (g.succ n) → Q (.ref D) H'
noncomputable def spEnds (K : PySem.W.Frag) (g : Gr) : Sp := fun vs H Q _ => ∃ (b : Addr) (n : PyData), vs = [.ref b] ∧ KeyAt K H false b n ∧ n ∈ g.univ ∧ g.hp H ∧ ∀ H', Same H H' → Q (.bl (g.fin n)) H'
structure GrOk (g : Gr) : Prop where
  st : g.start ∈ g.univ
  cl : ∀ n ∈ g.univ, ∀ l m, (l, m) ∈ g.succ n → m ∈ g.univ
  few : g.univ.length ≤ 20000
  mono : ∀ H H', Same H H' → g.hp H → g.hp H'
noncomputable def preSh (P : Program) (w : World) (K : PySem.W.Frag) (mg : Str → Option Value) (base : Heap) (g : Gr) : Shared → Hp → List V → Prop := fun s H vs => ∃ b fS fE, vs = [.ref b, .ref fS, .ref fE] ∧ CallOk P w K mg base 4 fS (spSteps K g) s H ∧ CallOk P w K mg base 4 fE (spEnds K g) s H
noncomputable def spSh (K : PySem.W.Frag) (g : Gr) : Sp := fun vs H Q _ => ∃ b fS fE, vs = [.ref b, .ref fS, .ref fE] ∧ KeyAt K H false b g.start ∧ GrOk g ∧ g.hp H ∧
  (∀ H', Same H H' → (∀ ls m, Wk g.succ g.start ls m → g.fin m = false) → Q .non H') ∧
  (∀ D lvs ls m H', Same H H' → H D = none → H' D = some (.lst lvs) → Paired g.Lab lvs ls → Wk g.succ g.start ls m → g.fin m = true → (∀ ls' m', Wk g.succ g.start ls' m' → g.fin m' = true → ls.length ≤ ls'.length) → ls.length < g.univ.length → Q (.ref D) H')
section
variable {P : Program} {w : World} {K : PySem.W.Frag} {mg : Str → Option Value} {base : Heap}

structure Lvl (P : Program) (w : World) (K : PySem.W.Frag) (g : Gr) (H0 H : Hp) (dA lN : Addr) (d : Nat) (arr : List (PyData × List PyData)) (nodesV : List V) (nodes : List PyData) : Prop where
  same : Same H0 H
  newA : H0 dA = none
  newN : H0 lN = none
  at' : ArrAt P w K H g.Lab dA arr
  A : Arr g.succ g.start arr
  un : ∀ n ls, (n, ls) ∈ arr → n ∈ g.univ
  lN : H lN = some (.lst nodesV)
  nv : Paired (NodeV K H) nodesV nodes
  le : ∀ n ls, (n, ls) ∈ arr → ls.length ≤ d
  on : ∀ n ∈ nodes, ∃ ls, (n, ls) ∈ arr ∧ ls.length = d
  off : ∀ n ls, (n, ls) ∈ arr → ls.length = d → n ∈ nodes
  done : ∀ n ls, (n, ls) ∈ arr → ls.length < d → Done g.succ g.fin arr ls.length n

structure Inn (P : Program) (w : World) (K : PySem.W.Frag) (g : Gr) (H0 H : Hp) (dA lN lF : Addr) (d : Nat) (arr : List (PyData × List PyData)) (nodesV : List V) (nodes : List PyData) (arr' : List (PyData × List PyData)) (farV : List V) (far : List PyData) : Prop where
  same : Same H0 H
  at' : ArrAt P w K H g.Lab dA arr'
  A : Arr g.succ g.start arr'
  un : ∀ n ls, (n, ls) ∈ arr' → n ∈ g.univ
  lN : H lN = some (.lst nodesV)
  nv : Paired (NodeV K H) nodesV nodes
  lF : H lF = some (.lst farV)
  fv : Paired (NodeV K H) farV far
  sub : ∀ x ∈ arr, x ∈ arr'
  le : ∀ n ls, (n, ls) ∈ arr' → ls.length ≤ d + 1
  old : ∀ n ls, (n, ls) ∈ arr' → ls.length ≤ d → (n, ls) ∈ arr
  on : ∀ n ∈ far, ∃ ls, (n, ls) ∈ arr' ∧ ls.length = d + 1
  off : ∀ n ls, (n, ls) ∈ arr' → ls.length = d + 1 → n ∈ far
  size : arr'.length = arr.length + far.length
theorem Inn.grow {P : Program} {w : World} {K : PySem.W.Frag} {g : Gr} {H0 H H' : Hp} {dA lN lF : Addr} {d : Nat} {arr : List (PyData × List PyData)} {nodesV : List V} {nodes : List PyData} {arr' : List (PyData × List PyData)} {farV : List V} {far : List PyData} (s : Same H H') (h : Inn P w K g H0 H dA lN lF d arr nodesV nodes arr' farV far) :
    Inn P w K g H0 H' dA lN lF d arr nodesV nodes arr' farV far :=
  ⟨h.same.trans s, h.at'.same s, h.A, h.un, s _ _ h.lN, paired_imp (fun _ _ x => x.mono fun _ _ => s.seqT) h.nv, s _ _ h.lF, paired_imp (fun _ _ x => x.mono fun _ _ => s.seqT) h.fv, h.sub, h.le, h.old, h.on, h.off, h.size⟩
theorem has_of {kvs : List (PyData × V)} {arr : List (PyData × List PyData)} {R : V → List PyData → Prop} (hp : Paired (fun (kv : PyData × V) (a : PyData × List PyData) => kv.1 = a.1 ∧ R kv.2 a.2) kvs arr) {n : PyData} (h : (valN kvs n).isSome = true) : Has' arr n := by
  by_cases z : Has' arr n
  · exact z
  · rw [paired_noval hp z] at h
    cases h

noncomputable def stH (b fS fE dA lN : Addr) (o5 o6 o7 : Option V) : L2.St := [some (.ref b), some (.ref fS), some (.ref fE), some (.ref dA), some (.ref lN), o5, o6, o7]
noncomputable abbrev s_shortest : Stmt := top 10
theorem sc_shortest : FnScope ["start", "steps", "ends", "arrivals", "nodes", "farther", "node", "step"] ["start", "steps", "ends"] (defScope s_shortest) := ⟨rfl, rfl, rfl, by decide +kernel, rfl, by decide +kernel, by decide +kernel⟩
theorem ok_shortest {f : Addr} {fd : FuncData} (F : Fun K "shortest" "shortest" s_shortest f fd) (B : Blt mg) (h_labels_to : Has P w K mg base "labels_to" 1 ["node", "arrivals"] (spLabels P w K)) (g : Gr) :
    FnOkS P w K mg base 6 f fd ["start", "steps", "ends"] (preSh P w K mg base g) (spSh K g) := by
  refine F.okS sc_shortest (fun vs H Q E h => ?_) (fun cdv A outer s H vs Q E hr hpre h => ?_)
  · obtain ⟨_, _, _, rfl, _⟩ := h
    rfl
  · obtain ⟨b, fS, fE, rfl, hk, G, hh, qN, qL⟩ := h
    obtain ⟨b', fS', fE', e, FS, FE⟩ := hpre
    cases e
    have nd := sc_shortest.nd
    have hu := hr.units
    refine ⟨_, (pss_cons (ps_set (i := 3) nd rfl (Or.inl rfl) (pe_ndisp1 false hu (pv 0) pe_non))
      (pss_cons (ps_set (i := 4) nd rfl (Or.inl rfl) (pe_lst (pa_cons (pv 0) pa_nil)))
      (pss_cons (ps_while PassesOwn.never (pt_cmpR op_gt (pe_callB call_len_seq rfl B.len PySem.boot_len (pa_cons (pv 4) pa_nil)) pe_int (nomark _)) (pss_cons (ps_set (i := 5) nd rfl (Or.inl rfl) (pe_lst pa_nil))
      (pss_cons (ps_for PassesOwn.never rfl (pi_list (pv 4)) (pg_name (i := 6) nd rfl (Or.inl rfl)) (pss_cons (ps_if (pt_val (pe_callV (i := 2) FE (hr.mono (by decide)) rfl (pa_cons (pv 6) pa_nil))) (pss_one (ps_ret (pe_fn h_labels_to (hr.mono (by decide)) (pa_cons (pv 6) (pa_cons (pv 3) pa_nil))))) pss_nil)
      (pss_one (ps_for PassesOwn.never rfl (pi_list (pe_callV (i := 1) FS (hr.mono (by decide)) rfl (pa_cons (pv 6) pa_nil))) (pg_name (i := 7) nd rfl (Or.inl rfl)) (pss_one (ps_if (pt_cmpR (op_nnotin false hu) (pe_ix ix_tup (pv 7) pe_int (fun _ _ => rfl)) (pv 3) rfl) (pss_cons (ps_nput false hu (pv 3) (pe_ix ix_tup (pv 7) pe_int (fun _ _ => rfl)) (pe_tup (pa_cons (pe_ix ix_tup (pv 7) pe_int (fun _ _ => rfl)) (pa_cons (pv 6) pa_nil))) rfl)
      (pss_one (ps_expr (pe_bm PySem.F.plainAttrs_list PySem.F.slot_list_append PySem.F.type_list_append mt_append (pv 5) (pa_cons (pe_ix ix_tup (pv 7) pe_int (fun _ _ => rfl)) pa_nil))))) pss_nil))))))
      (pss_one (ps_set (i := 4) nd rfl (Or.inl rfl) (pv 5))))))
      (pss_one (ps_ret pe_non))))), ?_⟩
    -- arrivals = {start: None}; nodes = [start]
    refine sealE fun D0 hN0 hR0 => ?_
    refine cut2 fun T1 hT1 => ?_
    refine fun dA hA => ⟨_, rfl, b, g.start, rfl, upd_same, hk.mono fun _ _ => (Same.new hA).seqT, fun xs ep hD => ?_⟩
    rw [upd_upd] at hD ⊢
    have s1 := Same.new (o := HO.ext (dφ P w false dA xs ep)) hA
    refine ⟨_, rfl, (by show 1 ≤ sizeLine; decide), fun lN hN => ?_⟩
    have s2 := Same.new (o := HO.lst [V.ref b]) hN
    have s12 := s1.trans s2
    have hne : lN ≠ dA := (ne_of_none upd_same hN).symm
    refine hT1 _ _ ?_
    obtain ⟨W, hW⟩ : ∃ W : Nat → L2.St → Hp → Prop, ∀ m σ H2, W m σ H2 ↔ ∃ lN d arr nodesV nodes o5 o6 o7, σ = stH b fS fE dA lN o5 o6 o7 ∧ Lvl P w K g H H2 dA lN d arr nodesV nodes ∧ m = 2 * (g.univ.length - arr.length) + (if nodes = [] then 0 else 1) := ⟨_, fun _ _ _ => Iff.rfl⟩
    refine ⟨W, ⟨_, (hW _ _ _).2 ⟨lN, 0, [(g.start, [])], [.ref b], [g.start], _, _, _, rfl, ?_, rfl⟩⟩, ?_⟩
    · refine ⟨s12, hA, s1.free hN, ?_, Arr.start' _ _, fun n ls h => ?_, upd_same, .cons ⟨b, rfl, hk.same s12⟩ .nil, fun n ls h => ?_, fun n h => ?_, fun n ls h _ => ?_, fun n ls h hl => ?_⟩
      · exact ⟨_, hD.same s2, .cons ⟨rfl, .inl ⟨rfl, rfl⟩⟩ .nil⟩
      · have h' := List.mem_singleton.mp h
        cases h'
        exact G.st
      · have h' := List.mem_singleton.mp h
        cases h'
        exact Nat.le_refl _
      · rw [List.mem_singleton.mp h]
        exact ⟨[], List.mem_singleton.mpr rfl, rfl⟩
      · have h' := List.mem_singleton.mp h
        cases h'
        exact List.mem_singleton.mpr rfl
      · omega
    intro m σ H2 zz
    refine hide fun Gz hGz => ?_
    obtain ⟨lN, d, arr, nodesV, nodes, o5, o6, o7, rfl, L, rfl⟩ := (hW _ _ _).1 zz
    clear zz
    refine hGz ?_
    have harr := L.A.keys_le L.un
    have hnl := paired_length L.nv
    have few := G.few
    refine ⟨_, rfl, lN, _, rfl, .inl (SqL.of L.lN), _, _, rfl, rfl, _, rfl, ite2 (fun c => ?_) (fun c => ?_)⟩
    · have hne : nodes ≠ [] := by
        have := of_decide_eq_true c
        intro z
        have h0 : nodesV.length = 0 := by rw [hnl, z]; rfl
        omega
      rw [if_neg hne]
      refine ⟨fun σ' H' => ∃ m', m' < 2 * (g.univ.length - arr.length) + 1 ∧ W m' σ' H', fun σ' H' z => z, ?_⟩
      refine sealE fun D1 hN1 hR1 => ?_
      refine cut1 fun T2 hT2 => ?_
      refine ⟨(by show 0 ≤ sizeLine; decide), fun lF hF => hT2 _ _ ?_⟩
      have s3 := Same.new (o := HO.lst []) hF
      have hNF : lN ≠ lF := ne_of_none L.lN hF
      have newF : H lF = none := L.same.free hF
      obtain ⟨I1, hI1⟩ : ∃ I1 : Nat → L2.St → Hp → Prop, ∀ i σ H3, I1 i σ H3 ↔ ∃ arr' farV far o6 o7, σ = stH b fS fE dA lN (some (.ref lF)) o6 o7 ∧
          Inn P w K g H H3 dA lN lF d arr nodesV nodes arr' farV far ∧ ∀ (j : Nat) n, j < i → nodes[j]? = some n → Done g.succ g.fin arr' d n := ⟨_, fun _ _ _ => Iff.rfl⟩
      refine ⟨_, rfl, lN, rfl, ⟨_, SqL.of (s3 _ _ L.lN)⟩, for_list (K := K) (a := lN) (xs := nodesV) I1 ?_ ?_ ?_ ?_⟩
      · refine (hI1 _ _ _).2 ⟨arr, [], [], _, _, rfl, ⟨L.same.trans s3, L.at'.same s3, L.A, L.un, s3 _ _ L.lN, paired_imp (fun _ _ x => x.mono fun _ _ => s3.seqT) L.nv, upd_same, .nil, fun x hx => hx, fun n ls h => Nat.le_succ_of_le (L.le n ls h), fun n ls h _ => h, (fun _ h => by cases h), fun n ls h hl => ?_, rfl⟩, fun j n hj => by omega⟩
        have := L.le n ls h
        omega
      · intro i σ H3 _ zz
        obtain ⟨arr', farV, far, o6, o7, _, I, _⟩ := (hI1 _ _ _).1 zz
        exact SqL.of I.lN
      · intro i x σ H3 hi zz
        refine hide fun Gz hGz => ?_
        obtain ⟨arr', farV, far, o6, o7, rfl, I, hdone⟩ := (hI1 _ _ _).1 zz
        clear zz
        refine hGz ?_
        refine sealE fun D2 hN2 hR2 => ?_
        have hil : i < nodes.length := by
          have := (List.getElem?_eq_some_iff.mp hi).1
          omega
        have hni := List.getElem?_eq_getElem hil
        generalize nodes[i] = n at hni
        obtain ⟨x', ex', bn, e, hkn⟩ := paired_get I.nv i n hni
        rw [hi] at ex'
        cases ex'
        subst e
        obtain ⟨lsn, hmn, hln⟩ := L.on n (List.mem_of_getElem? hni)
        have hun := L.un n lsn hmn
        -- ends(node)
        refine ⟨rfl, I.same, _, rfl, _, rfl, I.same, bn, n, rfl, hkn, hun, G.mono _ _ I.same hh, fun H4 s4 => ⟨_, rfl, ?_⟩⟩
        have I4 := I.grow s4
        rcases Bool.eq_false_or_eq_true (g.fin n) with hfin | hfin
        · refine ifY hfin ?_
          have hlt : lsn.length < g.univ.length := by
            have h1 := I4.A.keys_le I4.un
            have h2 := I4.A.path_lt (I4.sub _ hmn)
            omega
          refine ⟨_, rfl, _, rfl, g.succ, g.start, n, g.Lab, arr', lsn, bn, dA, rfl, hkn.same s4, I4.at', I4.A, I4.sub _ hmn, by omega, fun D lvs H5 s5 hD hDl hLab => ?_⟩
          refine hR2 _ _ (hR1 _ _ (hR0 _ _ (qL D lvs lsn n H5 (I4.same.trans s5) (I4.same.free hD) hDl hLab (L.A.wk n lsn hmn) hfin (fun ls' m' hw hf => ?_) hlt)))
          rw [hln]
          exact least L.A L.done hw hf
        · refine ifN hfin ?_
          -- for step in steps(node)
          refine ⟨rfl, I4.same, _, rfl, _, rfl, I4.same, bn, n, rfl, hkn.same s4, hun, G.mono _ _ I4.same hh, fun D ys H5 s5 hD hDl hSt => ?_⟩
          have I5 := I4.grow s5
          have hDF : D ≠ lF := (ne_of_none I4.lF hD).symm
          have newD : H D = none := I4.same.free hD
          have hyl := paired_length hSt
          obtain ⟨I2, hI2⟩ : ∃ I2 : Nat → L2.St → Hp → Prop, ∀ j σ H6, I2 j σ H6 ↔ ∃ arr2 farV far o7, σ = stH b fS fE dA lN (some (.ref lF)) (some (.ref bn)) o7 ∧
              Inn P w K g H H6 dA lN lF d arr nodesV nodes arr2 farV far ∧ (∀ x ∈ arr', x ∈ arr2) ∧ H6 D = some (.lst ys) ∧ Paired (StepAt K H6 g.Lab) ys (g.succ n) ∧ KeyAt K H6 false bn n ∧ ∀ (j' : Nat) l m, j' < j → (g.succ n)[j']? = some (l, m) → ∃ ls, (m, ls) ∈ arr2 ∧ ls.length ≤ d + 1 := ⟨_, fun _ _ _ => Iff.rfl⟩
          refine ⟨D, rfl, ⟨_, SqL.of hDl⟩, for_list (K := K) (a := D) (xs := ys) I2 ?_ ?_ ?_ ?_⟩
          · exact (hI2 _ _ _).2 ⟨arr', farV, far, _, rfl, I5, fun x hx => hx, hDl, hSt, (hkn.same s4).same s5, fun j' l m hj => by omega⟩
          · intro j σ H6 _ zz
            obtain ⟨arr2, farV, far, o7, _, _, _, h, _⟩ := (hI2 _ _ _).1 zz
            exact SqL.of h
          · intro j y σ H6 hj zz
            refine hide fun Gz hGz => ?_
            obtain ⟨arr2, farV, far, o7, rfl, I6, hsub, hD6, hSt6, hkn6, hsofar⟩ := (hI2 _ _ _).1 zz
            clear zz
            refine hGz ?_
            have hjl : j < (g.succ n).length := by
              have := (List.getElem?_eq_some_iff.mp hj).1
              omega
            have hsj := List.getElem?_eq_getElem hjl
            have hsm := List.getElem_mem hjl
            generalize (g.succ n)[j] = st at hsj hsm
            obtain ⟨l, m⟩ := st
            obtain ⟨y', ey', a, lv, bm, e, hT, hLab, hkm⟩ := paired_get hSt6 j _ hsj
            rw [hj] at ey'
            cases ey'
            subst e
            have hum := G.cl n hun l m hsm
            obtain ⟨kvs, hDt, hpr⟩ := id I6.at'
            have next : ∀ {arr3 : List (PyData × List PyData)}, (∀ x ∈ arr2, x ∈ arr3) → (∃ ls, (m, ls) ∈ arr3 ∧ ls.length ≤ d + 1) → ∀ (j' : Nat) l' m', j' < j + 1 → (g.succ n)[j']? = some (l', m') → ∃ ls, (m', ls) ∈ arr3 ∧ ls.length ≤ d + 1 := fun {arr3} hs hm j' l' m' hj' e => by
              by_cases hlt : j' < j
              · obtain ⟨ls, h1, h2⟩ := hsofar j' l' m' hlt e
                exact ⟨ls, hs _ h1, h2⟩
              · have : j' = j := by omega
                subst this
                rw [hsj] at e
                cases e
                exact hm
            refine ⟨_, rfl, a, _, 1, _, rfl, rfl, hT, rfl, _, rfl, dA, _, rfl, ⟨kvs, m, bm, hDt, rfl, hkm, rfl⟩, _, rfl, ite2 (fun c => ?_) (fun c => ?_)⟩
            · have hnm : ¬ Has' arr2 m := fun ⟨ls, hm⟩ => by
                obtain ⟨v, hv, _⟩ := paired_val hpr I6.A.nd hm
                rw [hv] at c
                cases c
              have hm2 : (n, lsn) ∈ arr2 := hsub _ (I.sub _ hmn)
              have A3 := I6.A.add hm2 hsm hnm
              have un3 : ∀ n' ls', (n', ls') ∈ arr2 ++ [(m, lsn ++ [l])] → n' ∈ g.univ := fun n' ls' h => by
                rcases List.mem_append.mp h with h | h
                · exact I6.un n' ls' h
                · have h' := List.mem_singleton.mp h
                  cases h'
                  exact hum
              have hk3 := A3.keys_le un3
              rw [List.length_append, List.length_singleton] at hk3
              have hkl : kvs.length = arr2.length := paired_length hpr
              have hfl := paired_length I6.fv
              have hsz := I6.size
              refine ⟨_, rfl, a, _, 0, _, rfl, rfl, hT, rfl, _, rfl, (by show 2 ≤ sizeLine; decide), fun t ht => ?_⟩
              have t1 := Same.new (o := HO.tup [lv, V.ref bn]) ht
              refine ⟨_, rfl, _, rfl, a, _, 1, _, rfl, rfl, t1.seqT hT, rfl, dA, bm, kvs, m, rfl, rfl, hDt.same t1, hkm.same t1, smallM (by omega), fun xs ep hD7 => ?_⟩
              obtain ⟨⟨xs0, ep0, he0, _⟩, _⟩ := hDt.same t1
              have s67 : ∀ a' xs', SqT K H6 a' xs' → SqT K (upd (upd H6 t (.tup [lv, V.ref bn])) dA (.ext (dφ P w false dA xs ep))) a' xs' := fun a' xs' z => seqT_put he0 _ _ (t1.seqT z)
              have hlF7 : upd (upd H6 t (.tup [lv, V.ref bn])) dA (.ext (dφ P w false dA xs ep)) lF = some (.lst farV) := by
                rw [upd_ne (ne_of (t1 _ _ I6.lF) he0 (by intro z; cases z))]
                exact t1 _ _ I6.lF
              have other : ∀ {l' : Addr} {zs : List V}, H6 l' = some (.lst zs) → l' ≠ lF → upd (upd (upd H6 t (.tup [lv, V.ref bn])) dA (.ext (dφ P w false dA xs ep))) lF (.lst (farV ++ [V.ref bm])) l' = some (.lst zs) := fun {l' zs} h hne => by
                rw [upd_ne hne, upd_ne (ne_of (t1 _ _ h) he0 (by intro z; cases z))]
                exact t1 _ _ h
              refine ⟨_, rfl, .inl ⟨rfl, _, SqL.of hlF7⟩, _, rfl, a, _, 1, _, rfl, rfl, s67 _ _ hT, rfl, lF, _, _, rfl, rfl, hlF7, smallM (by omega), ?_⟩
              have s68 : ∀ a' xs', SqT K H6 a' xs' → SqT K (upd (upd (upd H6 t (.tup [lv, V.ref bn])) dA (.ext (dφ P w false dA xs ep))) lF (.lst (farV ++ [V.ref bm]))) a' xs' := fun a' xs' z => seqT_putL hlF7 _ _ (s67 _ _ z)
              have ht7 : SqT K (upd (upd H6 t (.tup [lv, V.ref bn])) dA (.ext (dφ P w false dA xs ep))) t [lv, .ref bn] := seqT_put he0 _ _ (SqT.of upd_same)
              have at3 : ArrAt P w K (upd (upd (upd H6 t (.tup [lv, V.ref bn])) dA (.ext (dφ P w false dA xs ep))) lF (.lst (farV ++ [V.ref bm]))) g.Lab dA (arr2 ++ [(m, lsn ++ [l])]) :=
                (ArrAt.add hpr hnm s67 hD7 ht7 hLab (hkn6.mono s67) hm2).putL hlF7
              refine (hI2 _ _ _).2 ⟨arr2 ++ [(m, lsn ++ [l])], farV ++ [V.ref bm], far ++ [m], _, rfl, ⟨?_, at3, A3, un3, other I6.lN hNF, paired_imp (fun _ _ x => x.mono s68) I6.nv, upd_same, paired_snoc (paired_imp (fun _ _ x => x.mono s68) I6.fv) ⟨bm, rfl, hkm.mono s68⟩, fun x hx => List.mem_append_left _ (I6.sub x hx), ?_, ?_, ?_, ?_, ?_⟩,
                fun x hx => List.mem_append_left _ (hsub x hx), other hD6 hDF, paired_imp (fun _ _ x => x.mono s68) hSt6, hkn6.mono s68, next (fun x hx => List.mem_append_left _ hx) ⟨_, List.mem_append_right _ (List.mem_singleton.mpr rfl), by rw [List.length_append, hln]; exact Nat.le_refl _⟩⟩
              · exact (((I6.same.trans t1).put L.newA).put newF)
              · intro n' ls' h
                rcases List.mem_append.mp h with h | h
                · exact I6.le n' ls' h
                · have h' := List.mem_singleton.mp h
                  cases h'
                  rw [List.length_append, hln]
                  exact Nat.le_refl _
              · intro n' ls' h hle
                rcases List.mem_append.mp h with h | h
                · exact I6.old n' ls' h hle
                · have h' := List.mem_singleton.mp h
                  cases h'
                  rw [List.length_append, hln, List.length_singleton] at hle
                  omega
              · intro n' h
                rcases List.mem_append.mp h with h | h
                · obtain ⟨ls, h1, h2⟩ := I6.on n' h
                  exact ⟨ls, List.mem_append_left _ h1, h2⟩
                · rw [List.mem_singleton.mp h]
                  exact ⟨_, List.mem_append_right _ (List.mem_singleton.mpr rfl), by rw [List.length_append, hln]; rfl⟩
              · intro n' ls' h hle
                rcases List.mem_append.mp h with h | h
                · exact List.mem_append_left _ (I6.off n' ls' h hle)
                · have h' := List.mem_singleton.mp h
                  cases h'
                  exact List.mem_append_right _ (List.mem_singleton.mpr rfl)
              · rw [List.length_append, List.length_append, I6.size]
                simp
                omega
            · have hs : (valN kvs m).isSome = true := by
                cases hv : valN kvs m with
                | none => rw [hv] at c; exact absurd rfl c
                | some v => rfl
              obtain ⟨ls, hm⟩ := has_of hpr hs
              exact (hI2 _ _ _).2 ⟨arr2, farV, far, _, rfl, I6, hsub, hD6, hSt6, hkn6, next (fun x hx => hx) ⟨ls, hm, I6.le m ls hm⟩⟩
          · intro σ H6 zz
            obtain ⟨arr2, farV, far, o7, rfl, I6, hsub, hD6, hSt6, hkn6, hsofar⟩ := (hI2 _ _ _).1 zz
            refine hN2 _ _ ((hI1 _ _ _).2 ?_)
            refine ⟨arr2, farV, far, _, _, rfl, I6, fun j n' hj e => ?_⟩
            by_cases hlt : j < i
            · exact (hdone j n' hlt e).more hsub
            · have : j = i := by omega
              subst this
              rw [hni] at e
              cases e
              refine ⟨hfin, fun l m hm => ?_⟩
              obtain ⟨j', hj', e'⟩ := List.getElem_of_mem hm
              exact hsofar j' l m (by omega) (by rw [List.getElem?_eq_getElem hj', e'])
      · intro σ H3 zz
        obtain ⟨arr', farV, far, o6, o7, rfl, I, hdone⟩ := (hI1 _ _ _).1 zz
        have h1 := I.A.keys_le I.un
        have h2 := I.size
        refine ⟨_, rfl, hN1 _ _ ⟨2 * (g.univ.length - arr'.length) + (if far = [] then 0 else 1), ?_, (hW _ _ _).2 ⟨lF, d + 1, arr', farV, far, _, _, _, rfl, ⟨I.same, L.newA, newF, I.at', I.A, I.un, I.lF, I.fv, I.le, I.on, I.off, fun n ls h hl => ?_⟩, rfl⟩⟩⟩
        · cases far with
          | nil => simp at h2 ⊢; omega
          | cons n r => simp at h2 ⊢; omega
        · have hold := I.old n ls h (by omega)
          by_cases hd : ls.length = d
          · obtain ⟨j, hj, e⟩ := List.getElem_of_mem (L.off n ls hold hd)
            rw [hd]
            exact hdone j n (by omega) (by rw [List.getElem?_eq_getElem hj, e])
          · have hlt : ls.length < d := by
              have := L.le n ls hold
              omega
            exact (L.done n ls hold hlt).more I.sub
    · have hn0 : nodes = [] := by
        have := of_decide_eq_false (Bool.eq_false_iff.mpr c)
        cases hno : nodes with
        | nil => rfl
        | cons n r =>
          rw [hno, List.length_cons] at hnl
          omega
      refine hR0 _ _ (qN H2 L.same fun ls m hw => none_left L.A (fun n ls h => L.done n ls h ?_) hw)
      have h1 := L.le n ls h
      by_cases hd : ls.length = d
      · have := L.off n ls h hd
        rw [hn0] at this
        cases this
      · omega
end
end My

set_option maxHeartbeats 1000000
namespace L2
open PySem PySem.Spec PyProof.Rows
theorem triples_snoc : ∀ (l : List Value), TriplesOk l → ∀ (a b : Int) (c : Value), TriplesOk (l ++ [rawInt a, rawInt b, c]) := by
  intro l
  fun_induction TriplesOk l with
  | case1 => intro _ a b c; simp [TriplesOk, rawInt]
  | case2 i t j u c rest ih =>
    intro h a b c'
    show TriplesOk (rest ++ _)
    exact ih h a b c'
  | case3 => intro h; exact absurd h (by simp)
theorem codeAmong_other {p q : Pos} (hne : ¬ (q.line = p.line ∧ q.col = p.col)) : ∀ (l : List Value), TriplesOk l → ∀ (c : Value), codeAmong p (l ++ [rawInt q.line, rawInt q.col, c]) = codeAmong p l := by
  intro l
  fun_induction TriplesOk l with
  | case1 =>
    intro _ c
    simp [codeAmong, rawInt]
    omega
  | case2 i t j u c rest ih =>
    intro h c'
    simp only [List.cons_append, codeAmong]
    rw [ih h c']
  | case3 => intro h; exact absurd h (by simp)
theorem upd_none {H : Hp} {a b : Addr} {o : HO} (h : upd H a o b = none) : H b = none := by
  unfold upd at h
  split at h
  · cases h
  · exact h

noncomputable def Sam (H H' : Hp) : Prop := ∀ b o, (∀ ps, o ≠ HO.tbl ps) → H b = some o → H' b = some o
theorem Same.sam {H H' : Hp} (s : Same H H') : Sam H H' := fun b o _ h => s b o h
theorem Sam.refl (H : Hp) : Sam H H := fun _ _ _ h => h
theorem Sam.trans {H H1 H2 : Hp} (a : Sam H H1) (b : Sam H1 H2) : Sam H H2 := fun c o n h => b c o n (a c o n h)
theorem Sam.seq {K : PySem.W.Frag} {H H' : Hp} {a : Addr} {xs : List V} (e : Sam H H') (h : SqL K H a xs) : SqL K H' a xs := by
  rcases h with (h | ⟨o, h⟩) | h
  · exact .inl (.inl (e _ _ (by intro _ z; cases z) h))
  · exact .inl (.inr ⟨o, e _ _ (by intro _ z; cases z) h⟩)
  · exact .inr h
theorem Sam.put {H H' : Hp} {l : Addr} {o : HO} (s : Sam H H') (h : H l = none) : Sam H (upd H' l o) := fun b u n e => by
  rw [upd_ne (ne_of_none e h)]
  exact s b u n e
theorem Sam.tbl {H : Hp} {P : Addr} {ps : Array Value} {o : HO} (h : H P = some (.tbl ps)) : Sam H (upd H P o) := fun b u n e => by
  rw [upd_ne (fun z => by rw [z, h] at e; exact n ps (Option.some.inj e).symm)]
  exact e
theorem Sam.tup {H H' : Hp} (s : Sam H H') {a : Addr} {xs : List V} (h : H a = some (.tup xs)) : H' a = some (.tup xs) := s _ _ (by intro _ z; cases z) h
theorem Sam.ext {H H' : Hp} (s : Sam H H') {a : Addr} {φ : Heap → Prop} (h : H a = some (.ext φ)) : H' a = some (.ext φ) := s _ _ (by intro _ z; cases z) h
theorem _root_.My.SchAt.sam {H H' : Hp} {v : V} {b : Int} {ts : List My.Tab} (s : Sam H H') (h : My.SchAt H v b ts) : My.SchAt H' v b ts := by
  obtain ⟨a, w, e, h, a1, vs, e1, h1, p1⟩ := h
  refine ⟨a, w, e, s.tup h, a1, vs, e1, s.tup h1, My.paired_imp (fun x t hx => ?_) p1⟩
  obtain ⟨a2, vs2, e2, h2, p2⟩ := hx
  refine ⟨a2, vs2, e2, s.tup h2, My.paired_imp (fun x r hx => ?_) p2⟩
  obtain ⟨a3, e3, h3⟩ := hx
  exact ⟨a3, e3, s.tup h3⟩

structure TabSt (H : Hp) (P : Addr) (qs : List (Pos × Str)) : Prop where
  ex : ∃ ps, H P = some (.tbl ps) ∧ TriplesOk ps.toList ∧ ∀ q ∈ qs, ∀ cv, codeAmong q.1 ps.toList = some cv → ∃ c, cv = .ref c ∧ H c = some (.ext (cdφ c q.2))
theorem TabSt.same {H H' : Hp} {P : Addr} {qs : List (Pos × Str)} (s : Same H H') (h : TabSt H P qs) : TabSt H' P qs := by
  obtain ⟨ps, h1, h2, h3⟩ := h
  exact ⟨ps, s _ _ h1, h2, fun q hq cv e => by obtain ⟨c, e1, e2⟩ := h3 q hq cv e; exact ⟨c, e1, s _ _ e2⟩⟩
noncomputable def farPos (p q : Pos) : Bool := !(q.line == p.line && q.col == p.col)

theorem tDef_of {i : Nat} {P : Addr} {qual : Str} {pos : Pos} {mk : Addr → Value → Value → Value → FuncData} {D : Ends} {σ : St} {H : Hp} {qs : List (Pos × Str)} (T : TabSt H P qs) (hm : (pos, qual) ∈ qs) (hfar : ∀ q ∈ qs, q ≠ (pos, qual) → farPos q.1 pos = true)
    (next : ∀ f c doc pm ct H', Sam H H' → TabSt H' P qs → H f = none → H' f = some (.ext (fnφ f (mk c doc pm ct))) → H' c = some (.ext (cdφ c qual)) → (∀ b, H' b = none → H b = none) → D.nx (σ.set i (some (.ref f))) H') : tDef i P qual pos mk D σ H := by
  obtain ⟨ps, h1, h2, h3⟩ := T
  refine ⟨ps, h1, h2, ?_⟩
  cases hc : codeAmong pos ps.toList with
  | none =>
    refine .inl ⟨rfl, fun f c doc pm ct hf hc' hcf => next f c doc pm ct _ (((Sam.tbl h1).put hc').put hf) ?_ hf upd_same (by rw [upd_ne hcf]; exact upd_same) fun b e => ?_⟩
    · have hPc : P ≠ c := ne_of_none h1 hc'
      have hPf : P ≠ f := ne_of_none h1 hf
      refine ⟨ps ++ #[rawInt pos.line, rawInt pos.col, .ref c], ?_, ?_, fun q hq cv e => ?_⟩
      · rw [upd_ne hPf, upd_ne hPc]
        exact upd_same
      · rw [Array.toList_append]
        exact triples_snoc _ h2 _ _ _
      · rw [Array.toList_append] at e
        by_cases hqe : q = (pos, qual)
        · subst hqe
          have e' := codeAmong_snoc (c := Value.ref c) _ h2 hc
          have e2 : codeAmong pos (ps.toList ++ [rawInt pos.line, rawInt pos.col, Value.ref c]) = some cv := e
          rw [e'] at e2
          cases e2
          exact ⟨c, rfl, by rw [upd_ne hcf]; exact upd_same⟩
        · have hp := hfar q hq hqe
          unfold farPos at hp
          have e' := codeAmong_other (p := q.1) (q := pos) (by
            simp only [Bool.not_eq_true', Bool.and_eq_false_iff, beq_eq_false_iff_ne] at hp
            omega) _ h2 (Value.ref c)
          have e2 : codeAmong q.1 (ps.toList ++ [rawInt pos.line, rawInt pos.col, Value.ref c]) = some cv := e
          rw [e'] at e2
          obtain ⟨c', e1, e3⟩ := h3 q hq cv e2
          refine ⟨c', e1, ?_⟩
          rw [upd_ne (ne_of_none e3 hf), upd_ne (ne_of_none e3 hc'), upd_ne (ne_of e3 h1 (by intro z; cases z))]
          exact e3
    · exact upd_none (upd_none (upd_none e))
  | some cv =>
    obtain ⟨c, rfl, hcx⟩ := h3 _ hm cv hc
    refine .inr ⟨c, rfl, fun f doc pm ct hf => next f c doc pm ct _ ((Sam.refl H).put hf) ?_ hf upd_same (by rw [upd_ne (ne_of_none hcx hf)]; exact hcx) fun b e => ?_⟩
    · exact TabSt.same (Same.new hf) ⟨ps, h1, h2, h3⟩
    · exact upd_none e
noncomputable def freesOk (scope around : Scope) : Bool := scope.names.all fun x => !(x.2 == .free) || (around.names.lookup x.1 == some .cell || around.names.lookup x.1 == some .free)
theorem hfree_of {scope around : Scope} (h : freesOk scope around = true) : ∀ x ∈ scope.names, x.2 = .free → around.names.lookup x.1 = some .cell ∨ around.names.lookup x.1 = some .free := fun x hx e => by
  have := List.all_eq_true.mp h x hx
  rw [e] at this
  simpa using this
noncomputable def farOk (qs : List (Pos × Str)) (pos : Pos) (qual : Str) : Bool := qs.all fun q => decide (q.2 = qual) && decide (q.1 = pos) || farPos q.1 pos
theorem far_of {qs : List (Pos × Str)} {pos : Pos} {qual : Str} (h : farOk qs pos qual = true) : ∀ q ∈ qs, q ≠ (pos, qual) → farPos q.1 pos = true := fun q hq hne => by
  have := List.all_eq_true.mp h q hq
  rw [Bool.or_eq_true, Bool.and_eq_true] at this
  rcases this with ⟨h1, h2⟩ | h
  · exact absurd (Prod.ext (of_decide_eq_true h2) (of_decide_eq_true h1)) hne
  · exact h

theorem cellsAt_of {X : Cx} {pins : List (Addr × Obj)} {σ : St} {H : Hp} {s : Shared} {scope : Scope} {frees : List Str} {fvs : List V} (I : Inv X pins σ H s)
    (hv : ∀ (i : Nat) x v, frees[i]? = some x → fvs[i]? = some v → (x, NameKind.free) ∈ scope.names ∧ (X.env.scope.names.lookup x = some .cell ∨ X.env.scope.names.lookup x = some .free) ∧ ∃ j : Nat, X.N[j]? = some x ∧ σ[j]? = some (some v)) :
    CellsAt s H (closOf X.env.cells scope.names []) frees fvs := by
  have good := closOf_good (cells := X.env.cells) scope.names [] (fun x c e => by simp at e)
  refine ⟨fun x y c h1 h2 => I.ok.inj x y c (good x c h1) (good y c h2), fun x c h => I.freeC x c (good x c h), fun x c h => I.cell x c (good x c h), fun i x v h1 h2 => ?_⟩
  obtain ⟨hm, hk, j, hj1, hj2⟩ := hv i x v h1 h2
  obtain ⟨c0, hc0⟩ := I.ok.has x hk
  obtain ⟨c, hc⟩ := Option.isSome_iff_exists.mp (closOf_has (cells := X.env.cells) scope.names [] x hm (by rw [hc0]; rfl))
  have hc' := good x c hc
  rw [hc0] at hc'
  cases hc'
  obtain ⟨m, hn, hl⟩ := I.loc
  obtain ⟨u, r, l⟩ := hl j x v hj1 hj2 (.inr hk)
  rcases l with ⟨l, _⟩ | ⟨_, c2, ec, z⟩
  · rcases hk with q | q
    · exact absurd (l.symm.trans q) (by decide)
    · exact absurd (l.symm.trans q) (by decide)
  · rw [hc0] at ec
    cases ec
    exact ⟨c0, u, hc, z, r⟩
end L2

set_option maxHeartbeats 1000000
namespace L2
open PySem PySem.Spec PyProof.Rows

theorem law_callT {P : Program} {w : World} {K : PySem.W.Frag} {mg mb : Str → Option Value} {CX : CXT} {k : Nat} {fa a : Addr} {fd : FuncData} {x : Str} {sp : Sp} {s₁ : Shared} {vs : List Value} {ns : List Int} {tabs : List (Addr × Addr)}
    (KX : K.In s₁.heap) (hns : s₁.heap.Ns mainGlobals mg) (hb : s₁.heap.Ns builtinsNs mb) (hbb : ∀ x : Str, x ≠ "__name__" → mb x = bootBuiltins x) (hlim : s₁.heap.NoLimit) (hg : s₁.gens = #[])
    (ha : s₁.heap.get? a = some { cls := .type "list", data := .seq vs.toArray }) (hi : IntsAre vs ns) (hl : ns.length ≤ sizeLine) (hr : Room k callerA) (hT : PySem.W.TabsAt tabs s₁.heap) (hK : PySem.W.noTabs K = true) (BM : BMain mg s₁.heap)
    (F : ∀ base : Heap, K.In base → base.Ns mainGlobals mg → BMain mg base → (∀ q ∈ tabs, PySem.W.CodeHd base q.1 q.2) → FnOk P w K mg base CX k fa fd [x] sp) (hbind : ∀ (s : Shared) (u : Value), BindsTo s fd ⟨[u], []⟩ [(x, u)])
    (hsp : ∀ H : Hp, SqL K H a (ns.map V.int) → (∀ q ∈ tabs, H q.2 = some (.tbl #[])) → sp [.ref a] H (fun v _ => v = .bl true) fun _ _ _ => False)
    (hCX : ∀ H e s', CX [] H s₁ (fun _ _ _ => False) e s' → False) :
    codeAny (model P w) callerA (.call (.ref fa) ⟨[.ref a], []⟩) (fun r s' => r = .ok (.ret (.bool true)) ∧ OldK s₁.heap s'.heap ∧ s'.os = s₁.os ∧ AllBare s'.gens) s₁ := by
  have rv := vals_ints hi
  have lenV := hi.length
  have tabO : ∀ b ∈ tabs.map (·.2), s₁.heap.get? b = some (PySem.W.tabObj #[]) := fun b h => by
    obtain ⟨q, hq, rfl⟩ := List.mem_map.mp h
    exact (hT q hq).2
  have hat : a ∉ tabs.map (·.2) := fun h => by
    have := tabO a h
    rw [ha] at this
    cases this
  have core : ∀ H : Hp, (∀ b, H b = none ∨ (b = a ∧ H b = some (.frz { cls := .type "list", data := .seq vs.toArray } (.lst (ns.map V.int)))) ∨ (b ∈ tabs.map (·.2) ∧ H b = some (.tbl #[]))) → (∀ b ∈ tabs.map (·.2), H b = some (.tbl #[])) → SqL K H a (ns.map V.int) → (H a ≠ none → K.lookup a = none) →
      codeAny (model P w) callerA (.call (.ref fa) ⟨[.ref a], []⟩) (fun r s' => r = .ok (.ret (.bool true)) ∧ OldK s₁.heap s'.heap ∧ s'.os = s₁.os ∧ AllBare s'.gens) s₁ := by
    intro H hO hOt hS hKa
    have hok : HOk P w H s₁.heap := fun b u e => by
      rcases hO b with z | ⟨rfl, z⟩ | ⟨hb, z⟩
      · rw [z] at e; cases e
      · rw [z] at e; cases e
        exact ⟨ha, by rw [List.length_map]; exact hl, vs, _, rv, ha⟩
      · rw [z] at e; cases e
        exact tabO b hb
    have base_of : ∀ {b : Addr} {o : Obj}, s₁.heap.get? b = some o → H b = none → (hidT s₁.heap H).get? b = some o := fun e n => hidT_get e n
    have none_of : ∀ {b : Addr} {o : Obj}, s₁.heap.get? b = some o → o ≠ { cls := .type "list", data := .seq vs.toArray } → o ≠ PySem.W.tabObj #[] → H b = none := fun {b o} e n1 n2 => by
      rcases hO b with z | ⟨rfl, z⟩ | ⟨hb, z⟩
      · exact z
      · rw [ha] at e; exact absurd (Option.some.inj e).symm n1
      · rw [tabO b hb] at e; exact absurd (Option.some.inj e).symm n2
    have noA : ∀ {b : Addr} {o : Obj} {es : Array DictEntry} {ep : Nat}, s₁.heap.get? b = some o → o.data = .dict es ep → H b = none := fun {b o es ep} e d => none_of e (fun z => by rw [z] at d; cases d) fun z => by rw [z] at d; cases d
    have nsK : ∀ {b : Addr} {m : Str → Option Value}, s₁.heap.Ns b m → (hidT s₁.heap H).Ns b m := fun {b m} ⟨o, es, ep, e, d, r⟩ => ⟨o, es, ep, base_of e (noA e d), d, r⟩
    have hKb : K.In (hidT s₁.heap H) := fun b o e => base_of (KX b o e) (by
      rcases hO b with z | ⟨rfl, z⟩ | ⟨hb, z⟩
      · exact z
      · rw [hKa (by rw [z]; simp)] at e; cases e
      · have e2 := KX b o e
        rw [tabO b hb] at e2
        cases e2
        have h2 := List.all_eq_true.mp hK (b, PySem.W.tabObj #[]) (PySem.W.mem_of_lookupK e)
        exact absurd (show false = true from h2) Bool.false_ne_true)
    have hM : Mod K mg (hidT s₁.heap H) := ⟨hKb, nsK hns, ⟨mb, nsK hb, hbb⟩, let ⟨mc, h1, h2⟩ := hlim; ⟨mc, nsK h1, h2⟩⟩
    have hBM : BMain mg (hidT s₁.heap H) := by
      obtain ⟨bm, ob, b1, b2, b3, b4, b5, b6⟩ := BM.at'
      exact ⟨bm, ob, b1, b2, base_of b3 (none_of b3 (fun z => by rw [z] at b6; cases b6) fun z => by rw [z] at b6; cases b6), b4, b5, b6⟩
    have hCH : ∀ q ∈ tabs, PySem.W.CodeHd (hidT s₁.heap H) q.1 q.2 := fun q hq => by
      obtain ⟨o, vs', file, tf, flags, tg, inF, text, tt, e1, r1, r⟩ := (hT q hq).1
      exact ⟨o, vs', file, tf, flags, tg, inF, text, tt, base_of e1 (none_of e1 (fun z => by rw [z] at r1; injection r1 with r1; exact absurd r1 (by decide)) fun z => by rw [z] at r1; cases r1), r1, r⟩
    have e0 : Env0 P w K mg (hidT s₁.heap H) callerA [] s₁ H := ⟨rfl, hM, fun b o e => of_hidT e, Nat.le_of_eq (hidT_size _ _), trivial, fun b hb => absurd (show b ∈ ([] : List Addr) from hb) (by simp), hok, .of_eq hg⟩
    refine codeAny_mono ((F _ hKb (nsK hns) hBM hCH).run callerA [] s₁ H ⟨[.ref a], []⟩ [.ref a] [.ref a] _ _ hr e0 (hbind s₁ (.ref a)) (.cons rfl .nil) (hsp H hS fun q hq => hOt _ (List.mem_map_of_mem hq))) fun r s' h => ?_
    cases r with
    | error e => exact (hCX H e s' h).elim
    | ok fl =>
      cases fl with
      | next => exact False.elim h
      | brk => exact False.elim h
      | cont => exact False.elim h
      | ret u =>
        obtain ⟨v, H', os, bare, un, hok', r', q⟩ := h
        have q' : v = .bl true := q
        subst q'
        obtain rfl : u = Value.bool true := r'
        have grown : ∀ b ∈ tabs.map (·.2), ∃ ps, s'.heap.get? b = some (PySem.W.tabObj ps) := fun b hb => by
          obtain ⟨more, e⟩ := un.tbls b #[] (hOt b hb)
          exact ⟨_, hok' b _ e⟩
        have keep : ∀ b o, b ∉ tabs.map (·.2) → s₁.heap.get? b = some o → s'.heap.get? b = some o := fun b o hbt e => by
          rcases hO b with z | ⟨rfl, z⟩ | ⟨hb, z⟩
          · exact un.keep b o e z (by intro z; exact absurd (show b ∈ ([] : List Addr) from z) (by simp)) (by simp)
          · have z2 := un.frzs b _ _ z
            obtain ⟨e1, _⟩ := hok b _ z
            obtain ⟨e2, _⟩ := hok' b _ z2
            rw [e] at e1; cases e1
            exact e2
          · exact absurd hb hbt
        refine ⟨rfl, ⟨fun b o e => ?_, fun b o e => ?_⟩, os, bare⟩
        · by_cases hbt : b ∈ tabs.map (·.2)
          · obtain ⟨ps, hP⟩ := grown b hbt
            have e2 := tabO b hbt
            rw [e] at e2
            cases e2
            obtain ⟨q, hq, rfl⟩ := List.mem_map.mp hbt
            exact .inr (.inl ⟨((hT q hq).1.tab (hT q hq).2).isCodeTable, rfl, #[], ps, rfl, by rw [Array.empty_append]; exact hP⟩)
          · exact .inl (keep b o hbt e)
        · by_cases hbt : b ∈ tabs.map (·.2)
          · obtain ⟨ps, hP⟩ := grown b hbt
            exact ⟨_, hP⟩
          · exact ⟨o, keep b o hbt e⟩
  cases hk : K.lookup a with
  | some o =>
    have e := KX a o hk
    rw [ha] at e
    cases e
    refine core (fun b => if b ∈ tabs.map (·.2) then some (.tbl #[]) else none) (fun b => ?_) (fun b h => if_pos h) (.inr ⟨_, vs.toArray, _, hk, rfl, rfl, rfl, by rw [List.size_toArray, lenV]; exact hl, by simpa using rv⟩) fun z => absurd (if_neg hat) z
    by_cases h : b ∈ tabs.map (·.2)
    · exact .inr (.inr ⟨h, if_pos h⟩)
    · exact .inl (if_neg h)
  | none =>
    refine core (fun b => if b = a then some (.frz { cls := .type "list", data := .seq vs.toArray } (.lst (ns.map V.int))) else if b ∈ tabs.map (·.2) then some (.tbl #[]) else none) (fun b => ?_) (fun b h => ?_) (.inl (.inr ⟨{ cls := .type "list", data := .seq vs.toArray }, if_pos rfl⟩)) fun _ => hk
    · by_cases hb : b = a
      · exact .inr (.inl ⟨hb, if_pos hb⟩)
      · by_cases h : b ∈ tabs.map (·.2)
        · exact .inr (.inr ⟨h, by rw [if_neg hb, if_pos h]⟩)
        · exact .inl (by rw [if_neg hb, if_neg h])
    · rw [if_neg (fun z => hat (by rw [← z]; exact h)), if_pos h]

theorem walk_ofT {l : PySem.W.OpenLaw} {n k : Nat} {q : Program} {loose : List Str} {XP : (Str → Option Value) → Heap → Prop} {YP : World → Heap → Prop} {d : DefRec} {K : Params → PySem.W.Frag} {CX : World → CXT} {sp : World → Sp} {x : Str} {tabs : List (Addr × Addr)}
    (hn : l.most = some n) (hn2 : n ≤ sizeLine) (hdf : d.params.defaults = []) (hr : Room k callerA)
    (hY : ∀ (w : World) (h : Heap), YP w h → (K w.params).In h) (hT : ∀ (w : World) (mg mb : Str → Option Value) (mean : ExcName → Option Value) (h : Heap), (K w.params).In h → Top q (PySem.W.looseW q loose) mean mg mb h → PySem.W.TabsAt tabs h) (hK : ∀ w : World, PySem.W.noTabs (K w.params) = true)
    (F : ∀ (w : World) (mg : Str → Option Value) (fa : Addr) (h : Heap), (K w.params).In h → h.Ns mainGlobals mg → mg d.name = some (.ref fa) →
      ∃ fd : FuncData, (∀ (s : Shared) (u : Value), BindsTo s fd ⟨[u], []⟩ [(x, u)]) ∧
        ∀ base : Heap, (K w.params).In base → base.Ns mainGlobals mg → BMain mg base → (∀ q ∈ tabs, PySem.W.CodeHd base q.1 q.2) → FnOk l.prog w (K w.params) mg base (CX w) k fa fd [x] (sp w))
    (hsp : ∀ (w : World) (H : Hp) (a : Addr) (ns : List Int), ns.length ≤ n → SqL (K w.params) H a (ns.map V.int) → (∀ q ∈ tabs, H q.2 = some (.tbl #[])) → sp w [.ref a] H (fun v _ => v = .bl true) fun _ _ _ => False)
    (hCX : ∀ (w : World) (H : Hp) (s : Shared) (e : Value) (s' : Shared), CX w [] H s (fun _ _ _ => False) e s' → False) :
    PySem.W.WalkO q loose XP YP l.row.toRowW d [] (fun f vs => PySem.call f vs) := by
  refine Att.attach_call hn hdf fun w s₀ s₁ mg mb fa o pm cd doc a vs ns G Y ho hd hcd hmg hobj hints hlen hg => ?_
  have KX := hY w _ Y
  obtain ⟨fd, hb, hF⟩ := F w mg fa _ KX G.T.g hmg
  obtain ⟨bm, ob, b1, b2, b3, b4, b5, b6⟩ := G.T.bmain
  exact law_callT KX G.T.g G.T.b G.T.builtins G.T.nolimit hg hobj hints (Nat.le_trans hlen hn2) hr (hT w mg mb _ _ KX G.T) (hK w) ⟨bm, ob, b1, b2, b3, b4, b5, b6⟩ hF hb (fun H hS hTb => hsp w H a ns hlen hS hTb) fun H e s' => hCX w H s₁ e s'
end L2


set_option maxHeartbeats 1000000
namespace L2
open PySem PySem.Spec PyProof.Rows

noncomputable abbrev TR := (V → St → Hp → Prop) → St → Hp → Prop
section
variable {X : Cx} {st : Stmt} {rest : List Stmt} {t : TS} {u : TR} {e : Expr} {te : TE} {pos : Pos}
end

structure Trk (X : Cx) (σ : St) (H' H'' : Hp) : Prop where
  old : Same H' H''
  new : ∀ b, H'' b = none → H' b = none
  clo : ∀ (scope : Scope) (frees : List Str) (fvs : List V), fvs.length = frees.length → (∀ y ∈ scope.names, y.2 = .free → y.1 ∈ frees) →
    (∀ (i : Nat) x v, frees[i]? = some x → fvs[i]? = some v → (x, NameKind.free) ∈ scope.names ∧ (X.env.scope.names.lookup x = some .cell ∨ X.env.scope.names.lookup x = some .free) ∧ ∃ j : Nat, X.N[j]? = some x ∧ σ[j]? = some (some v)) →
    CellsX H'' (closOf X.env.cells scope.names []) frees fvs
open Classical in


inductive CallX (P : Program) (w : World) (K : PySem.W.Frag) (mg : Str → Option Value) (base : Heap) (k : Nat) (f : Addr) (sp : Sp) (H : Hp) : Prop
  | clo {fd : FuncData} {p : Str} {frees : List Str} {fvs : List V} {c : Addr} (F : FnOkC P w K mg base k fd p frees fvs sp) (hf : H f = some (.ext (fnφ f fd))) (hd : fd.code = .ref c) (hc : H c = some (.ext (cdφ c fd.qualname))) (C : CellsX H fd.closure frees fvs)
      (st : ∀ v H Q, CellsX H fd.closure frees fvs → sp [v] H Q E0 → sp [v] (dropC H fd.closure) (liftQ H fd.closure Q) E0)
  | mod {fd : FuncData} {p : Str} (F : FnOk P w K mg base CX0 k f fd [p] sp) (hk : PySem.W.keepIn K (.ref f) = true) (hb : Binds K fd [p] [])
end L2


set_option maxHeartbeats 1000000
namespace My
open PySem L2 PyProof.Rows

noncomputable def nodeD (t s : Int) : PyData := .tuple [.int t, .int s]
noncomputable def figD (ts : List Tab) (t s : Int) (f : Nat) : PyData × PyData := (.int (f : Int), nodeD (((t.toNat + 1) % ts.length : Nat) : Int) (ent ts t.toNat s (f : Int)))
noncomputable def succC (b : Int) (ts : List Tab) : PyData → List (PyData × PyData)
  | .tuple [.int t, .int s] => (List.range b.toNat).map (figD ts t s)
  | _ => []
noncomputable def finC (ts : List Tab) : PyData → Bool
  | .tuple [.int t, .int s] => !decide ((chkL (rowOf ts t.toNat s)).length = 1)
  | _ => false
noncomputable def univC (ts : List Tab) : List PyData := (List.range ts.length).flatMap fun t : Nat => (List.range (nst ts)).map fun s : Nat => nodeD (t : Int) (s : Int)
noncomputable def labI : V → PyData → Prop := fun v l => ∃ f : Int, v = .int f ∧ l = .int f
theorem two_of {α : Type} {xs : List α} (h : xs.length = 2) : ∃ a b, xs = [a, b] := match xs, h with
  | [a, b], _ => ⟨a, b, rfl⟩
theorem kr_pair {K : PySem.W.Frag} {H : Hp} {a : Addr} {t s : Int} (h : KR K H (.ref a) (nodeD t s)) : SqT K H a [.int t, .int s] := by
  cases h with
  | @tup _ xs _ h1 h2 h3 =>
    obtain ⟨x, y, rfl⟩ := two_of h2
    have e1 := h3 0 x (.int t) rfl rfl
    have e2 := h3 1 y (.int s) rfl rfl
    cases e1
    cases e2
    exact h1
theorem key_pair {K : PySem.W.Frag} {H : Hp} {a : Addr} {t s : Int} (h : SqT K H a [.int t, .int s]) : KeyAt K H false a (nodeD t s) := by
  refine ⟨.tup h rfl fun i x d h1 h2 => ?_, rfl, by simp [nodeD, PyData.depth, PyData.depthAll]⟩
  match i, h1, h2 with
  | 0, h1, h2 => cases h1; cases h2; exact .int t
  | 1, h1, h2 => cases h1; cases h2; exact .int s
  | i + 2, h1, h2 => simp at h1

theorem seqT_fr {K : PySem.W.Frag} {H H' : Hp} {D : Addr} {ys : List V} (fr : ∀ b o, b ≠ D → H b = some o → H' b = some o) (hD : H D = some (.lst ys)) (a : Addr) (xs : List V) (t : SqT K H a xs) : SqT K H' a xs := by
  rcases t with (t | ⟨ob, t⟩) | t
  · exact .inl (.inl (fr _ _ (ne_of t hD (by intro z; cases z)) t))
  · exact .inl (.inr ⟨ob, fr _ _ (ne_of t hD (by intro z; cases z)) t⟩)
  · exact .inr t
section
variable {P : Program} {w : World} {K : PySem.W.Frag} {mg : Str → Option Value} {base : Heap}
end
end My

set_option maxHeartbeats 1000000
namespace My
open PySem L2 PyProof.Rows
noncomputable def defPos (s : Stmt) : Pos := match s with
  | .FunctionDef _ _ _ _ _ _ _ _ _ p => p
  | _ => ⟨0, 0, 0, 0⟩
theorem lab_ints {fs : List Int} : ∀ {lvs : List V} {ls : List PyData}, Paired labI lvs ls → ls = fs.map PyData.int → lvs = fs.map V.int := by
  intro lvs ls h
  induction h generalizing fs with
  | nil =>
    intro e
    cases fs with
    | nil => rfl
    | cons f r => cases e
  | cons h t ih =>
    intro e
    cases fs with
    | nil => cases e
    | cons f r =>
      obtain ⟨g, e1, e2⟩ := h
      rw [List.map_cons] at e
      injection e with e3 e4
      rw [e2] at e3
      injection e3 with e5
      rw [e1, e5, ih e4]
      rfl
section
variable {P : Program} {w : World} {K : PySem.W.Frag} {mg : Str → Option Value} {base : Heap}
end
end My


set_option maxHeartbeats 1000000
namespace My
open PySem L2 PyProof.Rows
theorem rd_append (ts : List Tab) : ∀ (xs ys : List Int) (t : Nat) (s : Int), rd ts t s (xs ++ ys) = rd ts (t + xs.length) (rd ts t s xs) ys
  | [], ys, t, s => rfl
  | x :: xs, ys, t, s => by
    rw [List.cons_append]
    show rd ts (t + 1) _ (xs ++ ys) = rd ts (t + (xs.length + 1)) (rd ts (t + 1) _ xs) ys
    rw [rd_append ts xs ys, show t + (xs.length + 1) = t + 1 + xs.length by omega]
theorem rd_mod (ts : List Tab) : ∀ (fs : List Int) (t u : Nat) (s : Int), t % ts.length = u % ts.length → rd ts t s fs = rd ts u s fs
  | [], _, _, _, _ => rfl
  | f :: fs, t, u, s, h => by
    show rd ts (t + 1) (ent ts (t % ts.length) s f) fs = rd ts (u + 1) (ent ts (u % ts.length) s f) fs
    rw [h]
    refine rd_mod ts fs _ _ _ ?_
    rw [Nat.add_mod, h, ← Nat.add_mod]

noncomputable def mvD (ts : List Tab) (q : Int × Int) (fs : List Int) : Int × Int := ((((q.1.toNat + fs.length) % ts.length : Nat) : Int), rd ts q.1.toNat q.2 fs)
theorem mvD_append (ts : List Tab) (q : Int × Int) (xs ys : List Int) : mvD ts (mvD ts q xs) ys = mvD ts q (xs ++ ys) := by
  unfold mvD
  simp only [Int.toNat_natCast]
  congr 1
  · rw [List.length_append, Nat.mod_add_mod, Nat.add_assoc]
  · rw [rd_append]
    exact rd_mod ts _ _ _ _ (by rw [Nat.mod_mod])
noncomputable def n1 (q : Int × Int) : PyData := .tuple [nodeD q.1 q.2, .none]
noncomputable def n2 (q r : Int × Int) : PyData := .tuple [nodeD q.1 q.2, nodeD r.1 r.2]
noncomputable def lstD (ys : List Int) : PyData := .list (ys.map PyData.int)
noncomputable def pairD (p : List Int × List Int) : PyData := .tuple [lstD p.1, lstD p.2]
noncomputable def wins (b : Int) : Nat → List (List Int)
  | 0 => [[]]
  | n + 1 => (wins b n).flatMap fun w => (figsOf b).map fun f => w ++ [f]
noncomputable def slipP (b : Int) (k : Kd) : List (List Int × List Int) := (wins b (wid k)).flatMap fun w => (wr b k w).map fun m => (w, m)
noncomputable def kl (f : Int) : PyData := pairD ([f], [f])

inductive IsW (b : Int) (ts : List Tab) (k : Kd) : List PyData → PyData → Prop
  | a {fs : List Int} (h : figsIn b fs) : IsW b ts k (fs.map kl) (n1 (mvD ts (0, 0) fs))
  | b {as cs : List Int} {p : List Int × List Int} (h1 : figsIn b as) (hp : p ∈ slipP b k) (h2 : figsIn b cs) : IsW b ts k (as.map kl ++ [pairD p] ++ cs.map kl) (n2 (mvD ts (0, 0) (as ++ p.1 ++ cs)) (mvD ts (0, 0) (as ++ p.2 ++ cs)))
end My


set_option maxHeartbeats 2000000
namespace My
open PySem L2 PyProof.Rows

structure LT (H0 H : Hp) (D : Addr) (as : List Addr) (yss : List (List Int)) : Prop where
  at' : H D = some (.lst (as.map V.ref))
  newD : H0 D = none
  new : ∀ a ∈ as, H0 a = none ∧ a ≠ D
  ll : LL H as yss
theorem paired_append {α β : Type} {F : α → β → Prop} : ∀ {l₁ : List α} {l₂ : List β} {m₁ : List α} {m₂ : List β}, Paired F l₁ l₂ → Paired F m₁ m₂ → Paired F (l₁ ++ m₁) (l₂ ++ m₂)
  | _, _, _, _, .nil, h => h
  | _, _, _, _, .cons a t, h => .cons a (paired_append t h)
theorem length_flat {α β : Type} {f : α → List β} {n : Nat} : ∀ (l : List α), (∀ x ∈ l, (f x).length = n) → (l.flatMap f).length = l.length * n
  | [], _ => by simp
  | x :: l, h => by
    rw [List.flatMap_cons, List.length_append, h x (by simp), length_flat l fun y hy => h y (by simp [hy]), List.length_cons, Nat.succ_mul]
    omega
section
variable {P : Program} {w : World} {K : PySem.W.Frag} {mg : Str → Option Value} {base : Heap}
end
end My


set_option maxHeartbeats 2000000
namespace My
open PySem L2 PyProof.Rows

section
variable {P : Program} {w : World} {K : PySem.W.Frag} {mg : Str → Option Value} {base : Heap}
end
end My


set_option maxHeartbeats 2000000
namespace My
open PySem L2 PyProof.Rows
noncomputable def spotsN (ts : List Tab) : List (Int × Int) := (List.range ts.length).flatMap fun t : Nat => (List.range (nst ts)).map fun s : Nat => ((t : Int), (s : Int))
theorem mem_spotsN {ts : List Tab} {q : Int × Int} : q ∈ spotsN ts ↔ ∃ t s : Nat, q = ((t : Int), (s : Int)) ∧ t < ts.length ∧ s < nst ts := by
  unfold spotsN
  rw [List.mem_flatMap]
  constructor
  · rintro ⟨t, ht, h⟩
    obtain ⟨s, hs, rfl⟩ := List.mem_map.mp h
    exact ⟨t, s, rfl, List.mem_range.mp ht, List.mem_range.mp hs⟩
  · rintro ⟨t, s, rfl, ht, hs⟩
    exact ⟨t, List.mem_range.mpr ht, List.mem_map.mpr ⟨s, List.mem_range.mpr hs, rfl⟩⟩
theorem length_spotsN (ts : List Tab) : (spotsN ts).length = ts.length * nst ts := by
  unfold spotsN
  rw [length_flat (n := nst ts) _ fun x _ => by rw [List.length_map, List.length_range], List.length_range]
theorem mvD_spots {b : Int} {ts : List Tab} (o : Ok b ts) {q : Int × Int} (h : q ∈ spotsN ts) {fs : List Int} (hf : figsIn b fs) : mvD ts q fs ∈ spotsN ts := by
  obtain ⟨t, s, rfl, ht, hs⟩ := mem_spotsN.mp h
  have := o.rd_lt fs t (s : Int) (by omega) (by omega) hf
  refine mem_spotsN.mpr ⟨(t + fs.length) % ts.length, (rd ts t (s : Int) fs).toNat, ?_, Nat.mod_lt _ o.t1, by omega⟩
  unfold mvD
  simp only [Int.toNat_natCast]
  rw [show (((rd ts t (s : Int) fs).toNat : Nat) : Int) = rd ts t (s : Int) fs by omega]


theorem key_n2 {K : PySem.W.Frag} {H : Hp} {a x y : Addr} {q r : Int × Int} (h : SqT K H a [.ref x, .ref y]) (hx : SqT K H x [.int q.1, .int q.2]) (hy : SqT K H y [.int r.1, .int r.2]) : KeyAt K H false a (n2 q r) := by
  refine ⟨.tup h rfl fun i y d h1 h2 => ?_, rfl, by simp [n2, nodeD, PyData.depth, PyData.depthAll]⟩
  match i, h1, h2 with
  | 0, h1, h2 => cases h1; cases h2; exact (key_pair hx).kr
  | 1, h1, h2 => cases h1; cases h2; exact (key_pair hy).kr
  | i + 2, h1, h2 => simp at h1
theorem kr_ref {K : PySem.W.Frag} {H : Hp} {v : V} {t s : Int} (h : KR K H v (nodeD t s)) : ∃ a, v = .ref a ∧ SqT K H a [.int t, .int s] := by
  have h0 := h
  cases h with
  | @tup a xs _ h1 h2 h3 => exact ⟨a, rfl, kr_pair h0⟩
theorem of_n2 {K : PySem.W.Frag} {H : Hp} {a : Addr} {q r : Int × Int} (h : KeyAt K H false a (n2 q r)) : ∃ x y, SqT K H a [.ref x, .ref y] ∧ SqT K H x [.int q.1, .int q.2] ∧ SqT K H y [.int r.1, .int r.2] := by
  obtain ⟨h, _, _⟩ := h
  cases h with
  | @tup _ xs _ h1 h2 h3 =>
    obtain ⟨x, y, rfl⟩ := two_of h2
    obtain ⟨x', rfl, hx⟩ := kr_ref (h3 0 x (nodeD q.1 q.2) rfl rfl)
    obtain ⟨y', rfl, hy⟩ := kr_ref (h3 1 y (nodeD r.1 r.2) rfl rfl)
    exact ⟨x', y', h1, hx, hy⟩
section
variable {P : Program} {w : World} {K : PySem.W.Frag} {mg : Str → Option Value} {base : Heap}
end
end My


set_option maxHeartbeats 1000000
namespace L2
open PySem PySem.Spec PyProof.Rows
section
variable {prog : Program} {w : World} {A : Around} {E : Value → Shared → Prop} {s : Shared} {d it : Addr} {o : Obj} {es : Array DictEntry} {ep i : Nat}
end

end L2


set_option maxHeartbeats 2000000
namespace L2
open PySem PySem.Spec PyProof.Rows

structure DSet (P : Program) (w : World) (K : PySem.W.Frag) (c : Bool) (H : Hp) (d : Addr) (S : List PyData) : Prop where
  ex : ∃ kvs : List (PyData × V), DAt P w K c H d kvs ∧ kvs.map (·.1) = S
  nd : S.Nodup
noncomputable def insS (S : List PyData) (k : PyData) : List PyData := if k ∈ S then S else S ++ [k]
end L2
namespace My
open PySem L2 PyProof.Rows
noncomputable def spotD (ts : List Tab) (fs : List Int) : PyData := nodeD ((fs.length % ts.length : Nat) : Int) (rd ts 0 0 fs)

structure Lay (b : Int) (ts : List Tab) (d : Nat) (met lay : List PyData) : Prop where
  un : ∀ k ∈ met, k ∈ univC ts
  ul : ∀ k ∈ lay, k ∈ univC ts
  apart : ∀ k ∈ lay, k ∉ met
  come : ∀ k ∈ lay, ∃ fs, figsIn b fs ∧ fs.length = d ∧ k = spotD ts fs
  okm : ∀ k ∈ met, finC ts k = false
  less : ∀ fs, figsIn b fs → fs.length < d → spotD ts fs ∈ met
  here : ∀ fs, figsIn b fs → fs.length = d → spotD ts fs ∈ met ∨ spotD ts fs ∈ lay
  cl : ∀ k ∈ met, ∀ l m, (l, m) ∈ succC b ts k → m ∈ met ∨ m ∈ lay
end My


set_option maxHeartbeats 2000000
namespace L2
open PySem PySem.Spec PyProof.Rows

theorem Fun.okTX {P : Program} {w : World} {K : PySem.W.Frag} {mg : Str → Option Value} {base : Heap} {x qual : Str} {st : Stmt} {f c : Addr} {fd : FuncData} {N ps : List Str} {k : Nat} {sp : Sp} (F : Fun K x qual st f fd) (hfd : fd.code = .ref c) (S : FnScope N ps (defScope st)) (len : ∀ vs H Q E, sp vs H Q E → vs.length = ps.length)
    (hbody : ∀ (A : Around) (outer : List Env) (s : Shared) (H : Hp) (vs : List V) (Q : VK) (E : XK), Room k (A.deeper (envOfC qual (defScope st) s.heap.objs.size f (.ref c))) → sp vs H Q E →
      Lets (cxOf (CXR P w) P w K mg base N qual (defScope st) f (.ref c) A outer s H E) E →
      ∃ t, PSs (cxOf (CXR P w) P w K mg base N qual (defScope st) f (.ref c) A outer s H E) (defBody st) t ∧ t { nx := fun _ H' => Q .non H', rt := Q } (start N vs) H) : FnOk P w K mg base (CXR P w) (k + 1) f fd ps sp := by
  obtain ⟨oc, od, kV, doc, pm, an, cdv, ct, osl, rfl, lk, hcd⟩ := F.ex
  obtain rfl : cdv = .ref c := hfd
  exact fn_of lk hcd S len fun A outer s H vs Q E hr hsp => hbody A outer s H vs Q E hr hsp lets_of

theorem pass0X {X : Cx} : Passes (CXR X.prog X.w) X E0 := fun _ _ _ _ _ _ _ h => by
  obtain ⟨_, _, _, _, _, _, _, _, _, _, _, q⟩ := h
  exact q.elim
end L2
namespace My
open PySem L2 PyProof.Rows
structure ErrsP (K : PySem.W.Frag) (mg : Str → Option Value) : Prop where
  at' : ∃ S c1 C, mg "SlipError" = some (.ref S) ∧ mg "NoScheme" = some (.ref c1) ∧ mg "OtherBase" = some (.ref C) ∧ mg "ValueError" = none ∧ ExcAt K S (mroT K S) ∧ ExcAt K C (mroT K C) ∧ (mroT K C).contains (.ref S) = true ∧ ExcIs K C ∧
    PySem.W.kitOne K (.ref C) (.ref C) = some true ∧ PySem.W.kitOne K (.ref C) (.ref c1) = some false ∧ PySem.W.kitOne K (.ref C) (.type "ValueError") = some true

noncomputable def sucP (b : Int) (ts us : List Tab) : PyData → List (PyData × PyData)
  | .tuple [.tuple [.int t, .int s], .tuple [.int u, .int v]] => (List.range b.toNat).map fun f : Nat => (.int (f : Int), n2 (mvD ts (t, s) [(f : Int)]) (mvD us (u, v) [(f : Int)]))
  | _ => []
noncomputable def finP : PyData → Bool
  | .tuple [.tuple [.int _, .int s], .tuple [.int _, .int v]] => decide (decide (s = 0) ≠ decide (v = 0))
  | _ => false
noncomputable def univP (ts us : List Tab) : List PyData := (spotsN ts).flatMap fun q => (spotsN us).map (n2 q)
theorem mem_univP {ts us : List Tab} {n : PyData} : n ∈ univP ts us ↔ ∃ q ∈ spotsN ts, ∃ r ∈ spotsN us, n = n2 q r := by
  unfold univP
  rw [List.mem_flatMap]
  constructor
  · rintro ⟨q, h, h2⟩
    obtain ⟨r, h3, rfl⟩ := List.mem_map.mp h2
    exact ⟨q, h, r, h3, rfl⟩
  · rintro ⟨q, h, r, h2, rfl⟩
    exact ⟨q, h, List.mem_map.mpr ⟨r, h2, rfl⟩⟩
theorem length_univP {b b' : Int} {ts us : List Tab} (o : Ok b ts) (o' : Ok b' us) : (univP ts us).length ≤ 5184 := by
  have h1 : (spotsN ts).length ≤ 72 := by
    rw [length_spotsN]
    exact Nat.mul_le_mul o.t2 o.n2
  have h2 : (spotsN us).length ≤ 72 := by
    rw [length_spotsN]
    exact Nat.mul_le_mul o'.t2 o'.n2
  unfold univP
  rw [length_flat (n := (spotsN us).length) _ fun x _ => by rw [List.length_map]]
  exact Nat.mul_le_mul h1 h2
noncomputable def grP (b : Int) (ts us : List Tab) (v u : V) : Gr := ⟨sucP b ts us, finP, n2 (0, 0) (0, 0), univP ts us, labI, fun H => SchAt H v b ts ∧ SchAt H u b us⟩
theorem spots0 {b : Int} {ts : List Tab} (o : Ok b ts) : ((0 : Int), (0 : Int)) ∈ spotsN ts := by
  have := o.t1
  have := o.n1
  exact mem_spotsN.mpr ⟨0, 0, rfl, by omega, by omega⟩
theorem grP_ok {b : Int} {ts us : List Tab} {v u : V} (o : Ok b ts) (o' : Ok b us) : GrOk (grP b ts us v u) := by
  have hb := o.b1
  refine ⟨mem_univP.mpr ⟨_, spots0 o, _, spots0 o', rfl⟩, fun n hn l m hm => ?_, Nat.le_trans (length_univP o o') (by decide), fun H H' s h => ⟨h.1.same s, h.2.same s⟩⟩
  obtain ⟨q, hq, r, hr, rfl⟩ := mem_univP.mp hn
  obtain ⟨f, hf, e⟩ := List.mem_map.mp (show (l, m) ∈ (List.range b.toNat).map (fun f : Nat => (PyData.int (f : Int), n2 (mvD ts (q.1, q.2) [(f : Int)]) (mvD us (r.1, r.2) [(f : Int)]))) from hm)
  have hf := List.mem_range.mp hf
  have hfi : figsIn b [(f : Int)] := fun g hg => by rw [List.mem_singleton.mp hg]; omega
  cases e
  exact mem_univP.mpr ⟨_, mvD_spots o hq hfi, _, mvD_spots o' hr hfi, rfl⟩

theorem wk_figsP {b : Int} {ts us : List Tab} (o : Ok b ts) {ls : List PyData} {m : PyData} (h : Wk (sucP b ts us) (n2 (0, 0) (0, 0)) ls m) : ∃ fs : List Int, ls = fs.map PyData.int ∧ figsIn b fs ∧ m = n2 (mvD ts (0, 0) fs) (mvD us (0, 0) fs) := by
  have hb := o.b1
  induction h with
  | nil => exact ⟨[], rfl, (fun _ z => by cases z), by simp [mvD, rd]⟩
  | @snoc m k ls l _ he ih =>
    obtain ⟨fs, rfl, hf, rfl⟩ := ih
    obtain ⟨f, hfr, e⟩ := List.mem_map.mp (show (l, k) ∈ (List.range b.toNat).map (fun f : Nat => (PyData.int (f : Int), n2 (mvD ts (mvD ts (0, 0) fs) [(f : Int)]) (mvD us (mvD us (0, 0) fs) [(f : Int)]))) from he)
    have hfr := List.mem_range.mp hfr
    cases e
    exact ⟨fs ++ [(f : Int)], by simp, mem_snoc hf ⟨by omega, by omega⟩, by rw [mvD_append, mvD_append]⟩
theorem figs_wkP {b : Int} {ts us : List Tab} (o : Ok b ts) : ∀ (k : Nat) (fs : List Int), fs.length = k → figsIn b fs → Wk (sucP b ts us) (n2 (0, 0) (0, 0)) (fs.map PyData.int) (n2 (mvD ts (0, 0) fs) (mvD us (0, 0) fs))
  | 0, fs, e, hf => by
    have : fs = [] := List.length_eq_zero_iff.mp e
    subst this
    have e0 : ∀ ts : List Tab, mvD ts (0, 0) [] = (0, 0) := fun ts => by simp [mvD, rd]
    rw [e0, e0]
    exact .nil _
  | k + 1, fs, e, hf => by
    have hb := o.b1
    have hne : fs ≠ [] := by
      intro z
      subst z
      simp at e
    obtain ⟨r, x, rfl⟩ : ∃ r x, fs = r ++ [x] := ⟨fs.dropLast, fs.getLast hne, (List.dropLast_concat_getLast hne).symm⟩
    have hx := hf x (by simp)
    have ih := figs_wkP o (us := us) k r (by simpa using e) fun f h => hf f (List.mem_append_left _ h)
    rw [List.map_append]
    refine .snoc ih ?_
    show _ ∈ (List.range b.toNat).map (fun f : Nat => (PyData.int (f : Int), n2 (mvD ts (mvD ts (0, 0) r) [(f : Int)]) (mvD us (mvD us (0, 0) r) [(f : Int)])))
    refine List.mem_map.mpr ⟨x.toNat, List.mem_range.mpr (by omega), ?_⟩
    rw [show ((x.toNat : Nat) : Int) = x by omega, mvD_append, mvD_append]

noncomputable def Dst (ts us : List Tab) (fs : List Int) : Prop := ¬ (rd ts 0 0 fs = 0 ↔ rd us 0 0 fs = 0)
theorem finP_dst {ts us : List Tab} (fs : List Int) : finP (n2 (mvD ts (0, 0) fs) (mvD us (0, 0) fs)) = true ↔ Dst ts us fs := by
  show decide (decide (rd ts 0 0 fs = 0) ≠ decide (rd us 0 0 fs = 0)) = true ↔ _
  unfold Dst
  by_cases h1 : rd ts 0 0 fs = 0 <;> by_cases h2 : rd us 0 0 fs = 0 <;> simp [h1, h2]
noncomputable def spPair (mg : Str → Option Value) : Sp := fun vs H Q E => ∃ (v u : V) (ts us : List Tab) (b b' : Int), vs = [v, u] ∧ SchAt H v b ts ∧ Ok b ts ∧ SchAt H u b' us ∧ Ok b' us ∧ (b = b' → ∀ H', Same H H' → Q .non H') ∧ (b ≠ b' → ∀ C H', mg "OtherBase" = some (.ref C) → Same H H' → E (.ref C) none H')
noncomputable def spParted (Pt : Addr) (qs : List (Pos × Str)) (mg : Str → Option Value) : Sp := fun vs H Q E => ∃ (v u : V) (ts us : List Tab) (b b' : Int), vs = [v, u] ∧ SchAt H v b ts ∧ Ok b ts ∧ SchAt H u b' us ∧ Ok b' us ∧ TabSt H Pt qs ∧
  (b ≠ b' → ∀ C H', mg "OtherBase" = some (.ref C) → Same H H' → E (.ref C) none H') ∧
  (b = b' → (∀ H', Sam H H' → TabSt H' Pt qs → (∀ fs, figsIn b fs → ¬ Dst ts us fs) → Q .non H') ∧
    ∀ D fs H', Sam H H' → TabSt H' Pt qs → H D = none → H' D = some (.lst (fs.map V.int)) → figsIn b fs → Dst ts us fs → (∀ fs', figsIn b fs' → Dst ts us fs' → fs.length ≤ fs'.length) → fs.length ≤ 5184 → Q (.ref D) H')
section
variable {P : Program} {w : World} {K : PySem.W.Frag} {mg : Str → Option Value} {base : Heap}
noncomputable abbrev s_check_pair : Stmt := top 29
theorem sc_check_pair : FnScope ["scheme", "other"] ["scheme", "other"] (defScope s_check_pair) := ⟨rfl, rfl, rfl, by decide +kernel, rfl, by decide +kernel, by decide +kernel⟩
theorem ok_check_pair {f : Addr} {fd : FuncData} (F : Fun K "check_pair" "check_pair" s_check_pair f fd) (B : Blt mg) (Ep : ErrsP K mg) (h_check_scheme : Has P w K mg base "check_scheme" 5 ["scheme"] spCheck) :
    FnOk P w K mg base (CXR P w) 6 f fd ["scheme", "other"] (spPair mg) := by
  refine F.okX sc_check_pair (fun vs H Q E h => ?_) (fun cdv A outer s H vs Q E hr h L => ?_)
  · obtain ⟨_, _, _, _, _, _, rfl, _⟩ := h
    rfl
  · obtain ⟨v, u, ts, us, b, b', rfl, hv, ok, hu, ok', q, qE⟩ := h
    have nd := sc_check_pair.nd
    obtain ⟨S, c1, C, _, _, m_OtherBase, _, _, x_OtherBase, _⟩ := Ep.at'
    refine ⟨_, (pss_cons (ps_expr (pe_fn h_check_scheme (hr.mono (by decide)) (pa_cons (pv 0) pa_nil)))
      (pss_cons (ps_expr (pe_fn h_check_scheme (hr.mono (by decide)) (pa_cons (pv 1) pa_nil)))
      (pss_one (ps_if (pt_cmpR op_ne (pe_ix ix_tup (pv 0) pe_int (fun _ _ => rfl)) (pe_ix ix_tup (pv 1) pe_int (fun _ _ => rfl)) (nomark _)) (pss_one (ps_raise L rfl rfl m_OtherBase x_OtherBase (pa_cons pe_str pa_nil))) pss_nil)))), ?_⟩
    refine ⟨_, rfl, v, ts, b, rfl, hv, ok, fun H1 s1 => ⟨_, rfl, u, us, b', rfl, hu.same s1, ok', fun H2 s2 => ?_⟩⟩
    have s12 := s1.trans s2
    obtain ⟨a0, vT, rfl, ha0, _⟩ := hv.same s12
    obtain ⟨a1, vU, rfl, ha1, _⟩ := hu.same s12
    refine ⟨_, rfl, a0, _, 0, _, rfl, rfl, SqT.of ha0, rfl, _, rfl, a1, _, 0, _, rfl, rfl, SqT.of ha1, rfl, rfl, _, rfl, ?_⟩
    by_cases hb : b = b'
    · exact ifN (by simp [hb]) (q hb H2 s12)
    · exact ifY (by simp [hb]) ⟨by show 1 ≤ sizeLine; decide, qE hb C H2 m_OtherBase s12⟩
noncomputable abbrev s_parted : Stmt := top 34
noncomputable abbrev s_parted_steps : Stmt := (defBody s_parted).getD 1 (.Pass ⟨0, 0, 0, 0⟩)
theorem sc_parted_steps : FnScopeC ["node", "other", "scheme"] "node" ["other", "scheme"] (defScope s_parted_steps) := ⟨rfl, rfl, rfl, by decide +kernel, rfl, by decide +kernel, by decide +kernel, by decide +kernel, by decide +kernel⟩
theorem ok_psteps (B : Blt mg) (h_moved : Has P w K mg base "moved" 1 ["tables", "spot", "figures"] (spMoved K)) {b : Int} {ts us : List Tab} (ok : Ok b ts) (ok' : Ok b us) (v u : V) (qual : Str) (cl : List (Str × Addr)) (doc pm ct : Value) (c : Addr) :
    FnOkC P w K mg base 4 (PySem.W.fnX "steps" qual (defArgs s_parted_steps) (defBody s_parted_steps) (defScope s_parted_steps) cl .none .none doc pm none (.ref c) ct) "node" ["other", "scheme"] [u, v] (spSteps K (grP b ts us v u)) := by
  refine FnOkC.mono (clo_of (k := 1) sc_parted_steps rfl (fun u => rfl) (fun A outer s H f v' Q hr h => ?_)) (by decide)
  obtain ⟨bn, n, e, hk, hun, ⟨hv, hu⟩, q⟩ := h
  cases e
  obtain ⟨q0, hq0, r0, hr0, rfl⟩ := mem_univP.mp hun
  obtain ⟨t, st, rfl, ht, hs⟩ := mem_spotsN.mp hq0
  obtain ⟨t2, st2, rfl, ht2, hs2⟩ := mem_spotsN.mp hr0
  obtain ⟨x, y, hn, hx, hy⟩ := of_n2 hk
  obtain ⟨a0, vT, rfl, ha0, hT⟩ := hv
  obtain ⟨a1, vU, rfl, ha1, hU⟩ := hu
  have b1 := ok.b1
  have b2 := ok.b2
  refine ⟨_, (pss_one (ps_ret (pe_comp (N := ["figure", "scheme", "node", "other"]) (js := [none, some 2, some 0, some 1]) rfl rfl (pi_range1 rfl B.range (pa_cons (pe_ix ix_tup (pv 2) pe_int (fun _ _ => rfl)) pa_nil)) (fun _ _ _ _ => (pg_name (i := 0) (ndOf (N := ["figure", "scheme", "node", "other"]) (by decide +kernel)) rfl (Or.inl rfl))) (fun _ _ _ _ => pts_nil) (fun _ _ _ _ => (pe_tup (pa_cons (pv 0) (pa_cons (pe_tup (pa_cons (pe_fn h_moved (hr.mono (by decide)) (pa_cons (pe_ix (ix_tupK K) (pv 1) pe_int (fun _ _ => rfl)) (pa_cons (pe_ix (ix_tupK K) (pv 2) pe_int (fun _ _ => rfl)) (pa_cons (pe_lst (pa_cons (pv 0) pa_nil)) pa_nil)))) (pa_cons (pe_fn h_moved (hr.mono (by decide)) (pa_cons (pe_ix (ix_tupK K) (pv 3) pe_int (fun _ _ => rfl)) (pa_cons (pe_ix (ix_tupK K) (pv 2) pe_int (fun _ _ => rfl)) (pa_cons (pe_lst (pa_cons (pv 0) pa_nil)) pa_nil)))) pa_nil))) pa_nil))))))), ?_⟩
  refine ⟨_, rfl, a0, _, 0, _, rfl, rfl, SqT.of ha0, rfl, b, rfl, by omega, by omega, ?_⟩
  refine block_rel (Walk.rng 0 b.toNat) (by omega) rfl (fun _ => true) (fun D k y H' => StepAt K H' labI y (PyData.int (k : Int), n2 (mvD ts ((t : Int), (st : Int)) [(k : Int)]) (mvD us ((t2 : Int), (st2 : Int)) [(k : Int)]))) (fun D k v ys H1 H2 fr hD h => h.mono (seqT_fr fr hD)) (fun k H3 Q' _ _ q' => q' _ (Same.refl _)) (fun D k ys H3 Q' hk' _ hD hD3 s3 q' => ?_) (fun D ys H3 hD s3 hDl pr => ?_)
  · have hfi : figsIn b [(k : Int)] := fun g hg => by rw [List.mem_singleton.mp hg]; omega
    refine ⟨_, rfl, _, rfl, a0, _, 1, _, rfl, rfl, SqT.of (s3 _ _ ha0), rfl, _, rfl, bn, _, 0, _, rfl, rfl, s3.seqT hn, rfl, _, rfl, (by show 1 ≤ sizeLine; decide), fun l hl => ?_⟩
    have t1 := Same.new (o := HO.lst [V.int (0 + (k : Int))]) hl
    have s31 := s3.trans t1
    refine ⟨vT, ts, b, x, l, t, (st : Int), [(k : Int)], rfl, hT.same s31, ok, s31.seqT hx, SqL.of (by rw [upd_same, Int.zero_add]; rfl), ht, by omega, by omega, hfi, fun q2 H4 s4 hq2 => ?_⟩
    have s34 := s31.trans s4
    refine ⟨_, rfl, a1, _, 1, _, rfl, rfl, SqT.of (s34 _ _ ha1), rfl, _, rfl, bn, _, 1, _, rfl, rfl, s34.seqT hn, rfl, _, rfl, (by show 1 ≤ sizeLine; decide), fun l2 hl2 => ?_⟩
    have t2' := Same.new (o := HO.lst [V.int (0 + (k : Int))]) hl2
    have s35 := s34.trans t2'
    refine ⟨vU, us, b, y, l2, t2, (st2 : Int), [(k : Int)], rfl, hU.same s35, ok', s35.seqT hy, SqL.of (by rw [upd_same, Int.zero_add]; rfl), ht2, by omega, by omega, hfi, fun q3 H5 s5 hq3 => ?_⟩
    refine ⟨(by show 2 ≤ sizeLine; decide), fun t3 ht3 => ⟨(by show 2 ≤ sizeLine; decide), fun t4 ht4 => ?_⟩⟩
    have u3 := Same.new (o := HO.tup [V.ref q2, V.ref q3]) ht3
    have u4 := Same.new (o := HO.tup [V.int (0 + (k : Int)), V.ref t3]) ht4
    refine q' _ _ (((((t1.trans s4).trans t2').trans s5).trans u3).trans u4) ⟨t4, V.int (0 + (k : Int)), t3, rfl, SqT.of upd_same, ⟨(k : Int), by rw [Int.zero_add], rfl⟩, ?_⟩
    refine key_n2 (x := q2) (y := q3) (SqT.of (u4 _ _ upd_same)) (SqT.of ?_) (SqT.of ?_)
    · rw [(t2'.trans (s5.trans (u3.trans u4))) _ _ hq2]
      rfl
    · rw [(u3.trans u4) _ _ hq3]
      rfl
  · rw [List.filter_eq_self.mpr (fun _ _ => rfl)] at pr
    exact q D ys H3 s3 hD hDl (paired_map_left (f := fun k : Nat => (PyData.int (k : Int), n2 (mvD ts ((t : Int), (st : Int)) [(k : Int)]) (mvD us ((t2 : Int), (st2 : Int)) [(k : Int)]))) (fun a b h => h) pr)
noncomputable abbrev s_parted_ends : Stmt := (defBody s_parted).getD 2 (.Pass ⟨0, 0, 0, 0⟩)
theorem sc_parted_ends : FnScopeC ["node"] "node" [] (defScope s_parted_ends) := ⟨rfl, rfl, rfl, by decide +kernel, rfl, by decide +kernel, by decide +kernel, by decide +kernel, by decide +kernel⟩
theorem ok_pends (B : Blt mg) {b : Int} {ts us : List Tab} (ok : Ok b ts) (ok' : Ok b us) (v u : V) (qual : Str) (cl : List (Str × Addr)) (doc pm ct : Value) (c : Addr) :
    FnOkC P w K mg base 4 (PySem.W.fnX "ends" qual (defArgs s_parted_ends) (defBody s_parted_ends) (defScope s_parted_ends) cl .none .none doc pm none (.ref c) ct) "node" [] [] (spEnds K (grP b ts us v u)) := by
  refine FnOkC.mono (clo_of (k := 1) sc_parted_ends rfl (fun u => rfl) (fun A outer s H f v' Q hr h => ?_)) (by decide)
  obtain ⟨bn, n, e, hk, hun, _, q⟩ := h
  cases e
  obtain ⟨q0, hq0, r0, hr0, rfl⟩ := mem_univP.mp hun
  obtain ⟨x, y, hn, hx, hy⟩ := of_n2 hk
  refine ⟨_, (pss_one (ps_ret (pe_cmpR op_ne (pe_cmpR op_eq (pe_ix ix_tup (pe_ix ix_tup (pv 0) pe_int (fun _ _ => rfl)) pe_int (fun _ _ => rfl)) pe_int (nomark _)) (pe_cmpR op_eq (pe_ix ix_tup (pe_ix ix_tup (pv 0) pe_int (fun _ _ => rfl)) pe_int (fun _ _ => rfl)) pe_int (nomark _)) (nomark _)))), ?_⟩
  refine ⟨_, rfl, bn, _, 0, _, rfl, rfl, hn, rfl, x, _, 1, _, rfl, rfl, hx, rfl, rfl, _, rfl, bn, _, 1, _, rfl, rfl, hn, rfl, y, _, 1, _, rfl, rfl, hy, rfl, rfl, rfl, ?_⟩
  have := q H (Same.refl _)
  rw [show (grP b ts us v u).fin (n2 q0 r0) = decide (decide (q0.2 = 0) ≠ decide (r0.2 = 0)) from rfl] at this
  have e1 : (!decide (V.bl (decide (V.int q0.2 = V.int 0)) = V.bl (decide (V.int r0.2 = V.int 0)))) = decide (decide (q0.2 = 0) ≠ decide (r0.2 = 0)) := by
    by_cases h1 : q0.2 = 0 <;> by_cases h2 : r0.2 = 0 <;> simp [h1, h2]
  rw [e1]
  exact this
end
end My


set_option maxHeartbeats 2000000
namespace My
open PySem L2 PyProof.Rows
section
variable {P : Program} {w : World} {K : PySem.W.Frag} {mg : Str → Option Value} {base : Heap}
noncomputable def qsP : List (Pos × Str) := [(defPos s_parted_steps, "parted.<locals>.steps"), (defPos s_parted_ends, "parted.<locals>.ends")]
theorem farP1 : farOk qsP (defPos s_parted_steps) "parted.<locals>.steps" = true := by decide +kernel
theorem farP2 : farOk qsP (defPos s_parted_ends) "parted.<locals>.ends" = true := by decide +kernel
theorem sc_parted : FnScope ["scheme", "other", "steps", "ends"] ["scheme", "other"] (defScope s_parted) := ⟨rfl, rfl, rfl, by decide +kernel, rfl, by decide +kernel, by decide +kernel⟩
theorem ok_parted {f c Pt : Addr} {fd : FuncData} (F : Fun K "parted" "parted" s_parted f fd) (hfd : fd.code = .ref c) (B : Blt mg) (BM : BMain mg base) (CH : PySem.W.CodeHd base c Pt) (St : StartAt K mg)
    (h_check_pair : HasX P w K mg base "check_pair" 6 ["scheme", "other"] (spPair mg)) (h_moved : Has P w K mg base "moved" 1 ["tables", "spot", "figures"] (spMoved K))
    (h_shortest : HasS P w K mg base "shortest" 6 ["start", "steps", "ends"] (preSh P w K mg base) (spSh K)) : FnOk P w K mg base (CXR P w) 8 f fd ["scheme", "other"] (spParted Pt qsP mg) := by
  refine F.okTX hfd sc_parted (fun vs H Q E h => ?_) (fun A outer s H vs Q E hr h L => ?_)
  · obtain ⟨_, _, _, _, _, _, rfl, _⟩ := h
    rfl
  · obtain ⟨v, u, ts, us, b, b', rfl, hv, ok, hu, ok', T, qE, qq⟩ := h
    have nd := sc_parted.nd
    obtain ⟨aS, mS, hSt⟩ := St.at'
    have hcode : (cxOf (CXR P w) P w K mg base ["scheme", "other", "steps", "ends"] "parted" (defScope s_parted) f (.ref c) A outer s H E).env.code = .ref c := rfl
    refine ⟨_, (pss_cons (ps_expr (pe_fnX h_check_pair (hr.mono (by decide)) L.pass (pa_cons (pv 0) (pa_cons (pv 1) pa_nil))))
      (pss_cons (ps_def (i := 2) (qual := "parted.<locals>.steps") BM hcode CH nd rfl (Or.inl rfl) (hfree_of rfl))
      (pss_cons (ps_def (i := 3) (qual := "parted.<locals>.ends") BM hcode CH nd rfl (Or.inl rfl) (hfree_of rfl))
      (pss_one (ps_ret (pe_fnS h_shortest (hr.mono (by decide)) (pa_cons (pe_tup (pa_cons (pe_glob (v := .ref aS) rfl mS rfl) (pa_cons (pe_glob (v := .ref aS) rfl mS rfl) pa_nil))) (pa_cons (pv 2) (pa_cons (pv 3) pa_nil))))))))), ?_⟩
    refine ⟨_, rfl, _, rfl, v, u, ts, us, b, b', rfl, hv, ok, hu, ok', fun eb H1 s1 => ?_, qE⟩
    subst eb
    obtain ⟨qN, qL⟩ := qq rfl
    refine tDef_of (qs := qsP) (T.same s1) List.mem_cons_self (far_of farP1) fun fS cS docS pmS ctS H2 s2 T2 nS hfS hcS n2' => ?_
    refine tDef_of (qs := qsP) T2 (List.mem_cons_of_mem _ List.mem_cons_self) (far_of farP2) fun fE cE docE pmE ctE H3 s3 T3 nE hfE hcE n3 => ?_
    have s13 : Sam H H3 := (s1.sam.trans s2).trans s3
    refine ⟨(by show 2 ≤ sizeLine; decide), fun n0 hn0 => ?_⟩
    have t0 := Same.new (o := HO.tup [V.ref aS, V.ref aS]) hn0
    have s14 := s13.trans t0.sam
    refine ⟨_, rfl, _, rfl, grP b ts us v u, fun pins s' I => ⟨n0, fS, fE, rfl, ?_, ?_⟩, n0, fS, fE, rfl, key_n2 (q := (0, 0)) (r := (0, 0)) (SqT.of upd_same) (hSt _) (hSt _), grP_ok ok ok', ⟨hv.sam s14, hu.sam s14⟩, fun H4 s4 hno => ?_, fun D lvs ls m H4 s4 hD hDl hLab hW hf hmin hlt => ?_⟩
    · refine .clo (ok_psteps B h_moved ok ok' v u _ _ _ _ _ cS) (t0 _ _ (s3.ext hfS)) rfl (t0 _ _ (s3.ext hcS)) (cellsAt_of I fun i x uu h1 h2 => ?_)
      match i, h1, h2 with
      | 0, h1, h2 => cases h1; cases h2; exact ⟨by decide +kernel, Or.inl rfl, 1, rfl, rfl⟩
      | 1, h1, h2 => cases h1; cases h2; exact ⟨by decide +kernel, Or.inl rfl, 0, rfl, rfl⟩
      | i + 2, h1, h2 => simp at h1
    · refine .clo (ok_pends B ok ok' v u _ _ _ _ _ cE) (t0 _ _ hfE) rfl (t0 _ _ hcE) (cellsAt_of I fun i x uu h1 h2 => ?_)
      simp at h1
    · refine qN H4 (s14.trans s4.sam) ((T3.same t0).same s4) fun fs hf hb => ?_
      have := hno _ _ (figs_wkP ok fs.length fs rfl hf)
      rw [show (grP b ts us v u).fin = finP from rfl, (finP_dst fs).mpr hb] at this
      cases this
    · obtain ⟨fs, e1, hfs, e2⟩ := wk_figsP ok hW
      have hb : Dst ts us fs := by
        rw [show (grP b ts us v u).fin = finP from rfl, e2] at hf
        exact (finP_dst fs).mp hf
      have hDl' : H4 D = some (.lst (fs.map V.int)) := by
        rw [hDl, lab_ints hLab e1]
      refine qL D fs H4 (s14.trans s4.sam) ((T3.same t0).same s4) ?_ hDl' hfs hb (fun fs' hf' hb' => ?_) ?_
      · exact s1.free (n2' D (n3 D (t0.free hD)))
      · have := hmin _ _ (figs_wkP ok fs'.length fs' rfl hf') ((finP_dst fs').mpr hb')
        rw [e1, List.length_map, List.length_map] at this
        exact this
      · rw [e1, List.length_map] at hlt
        have := length_univP ok ok'
        exact Nat.le_trans (Nat.le_of_lt hlt) this
end
end My


set_option maxHeartbeats 1000000
namespace My
open PySem L2 PyProof.Rows
noncomputable def prow (m : Nat) (r r' : List Int) : List Int := (List.range r.length).map fun k => r.getD k 0 * (m : Int) + r'.getD k 0
noncomputable def ptab (t t' : Tab) : Tab := t.flatMap fun r => t'.map (prow t'.length r)
noncomputable def bothT (ts us : List Tab) : List Tab := (List.range (Nat.lcm ts.length us.length)).map fun k => ptab (ts.getD (k % ts.length) []) (us.getD (k % us.length) [])
theorem length_prow (m : Nat) (r r' : List Int) : (prow m r r').length = r.length := by unfold prow; rw [List.length_map, List.length_range]
theorem prow_get {m : Nat} {r r' : List Int} {k : Nat} (h : k < r.length) : (prow m r r').getD k 0 = r.getD k 0 * (m : Int) + r'.getD k 0 := by
  unfold prow
  rw [List.getD_eq_getElem?_getD, List.getElem?_map, List.getElem?_range h]
  rfl
theorem ptab_get (t' : Tab) (m : Nat) : ∀ (t : Tab) (i j : Nat) {r r' : List Int}, t[i]? = some r → t'[j]? = some r' → (t.flatMap fun r => t'.map (prow m r))[i * t'.length + j]? = some (prow m r r')
  | [], i, j, r, r', h, _ => by simp at h
  | r0 :: t, 0, j, r, r', h, h' => by
    have e : r0 = r := by simpa using h
    subst e
    have hj : j < t'.length := (List.getElem?_eq_some_iff.mp h').1
    rw [List.flatMap_cons, Nat.zero_mul, Nat.zero_add, List.getElem?_append_left (by rw [List.length_map]; exact hj), List.getElem?_map, h']
    rfl
  | r0 :: t, i + 1, j, r, r', h, h' => by
    have e : t[i]? = some r := by simpa using h
    have ih := ptab_get t' m t i j e h'
    rw [List.flatMap_cons, List.getElem?_append_right (by rw [List.length_map, Nat.add_mul]; omega), List.length_map, show (i + 1) * t'.length + j - t'.length = i * t'.length + j by rw [Nat.add_mul]; omega]
    exact ih
theorem length_ptab (t t' : Tab) : (ptab t t').length = t.length * t'.length := by
  unfold ptab
  rw [length_flat (n := t'.length) _ fun x _ => by rw [List.length_map]]
theorem pair_lt {x y n m : Int} (x0 : 0 ≤ x) (x1 : x < n) (y0 : 0 ≤ y) (y1 : y < m) : 0 ≤ x * m + y ∧ x * m + y < n * m := by
  have h1 : 0 ≤ x * m := Int.mul_nonneg x0 (by omega)
  have h2 : (x + 1) * m ≤ n * m := Int.mul_le_mul_of_nonneg_right (by omega) (by omega)
  rw [Int.add_mul, Int.one_mul] at h2
  omega
theorem okT_both {b : Int} {ts us : List Tab} (o : Ok b ts) (o' : Ok b us) (h1 : Nat.lcm ts.length us.length ≤ 6) (h2 : nst ts * nst us ≤ 12) : Ok b (bothT ts us) ∧ nst (bothT ts us) = nst ts * nst us := by
  have a1 := o.t1
  have a2 := o'.t1
  have n1 := o.n1
  have n2 := o'.n1
  have hl : 1 ≤ Nat.lcm ts.length us.length := Nat.lcm_pos a1 a2
  have hm : 1 ≤ nst ts * nst us := Nat.mul_pos n1 n2
  have len : (bothT ts us).length = Nat.lcm ts.length us.length := by unfold bothT; rw [List.length_map, List.length_range]
  have r := ok_of (b := b) (n := ((nst ts * nst us : Nat) : Int)) (ts := bothT ts us) o.b1 o.b2 (by omega) (by omega) (by omega) (by omega) fun t ht => ?_
  · exact ⟨r.1, by have := r.2; omega⟩
  · obtain ⟨k, hk, rfl⟩ := List.mem_map.mp ht
    have k1 : k % ts.length < ts.length := Nat.mod_lt _ a1
    have k2 : k % us.length < us.length := Nat.mod_lt _ a2
    have e1 : ts.getD (k % ts.length) [] = ts[k % ts.length] := by rw [List.getD_eq_getElem?_getD, List.getElem?_eq_getElem k1]; rfl
    have e2 : us.getD (k % us.length) [] = us[k % us.length] := by rw [List.getD_eq_getElem?_getD, List.getElem?_eq_getElem k2]; rfl
    have m1 : ts[k % ts.length] ∈ ts := List.getElem_mem k1
    have m2 : us[k % us.length] ∈ us := List.getElem_mem k2
    rw [e1, e2]
    have r1 := o.rows _ m1
    have r2 := o'.rows _ m2
    refine ⟨by rw [length_ptab, r1, r2], fun r hr => ?_⟩
    obtain ⟨x, hx, hr⟩ := List.mem_flatMap.mp hr
    obtain ⟨y, hy, rfl⟩ := List.mem_map.mp hr
    have fx := o.figs _ m1 x hx
    have fy := o'.figs _ m2 y hy
    refine ⟨by rw [length_prow]; exact fx, fun e he => ?_⟩
    obtain ⟨i, hi, rfl⟩ := List.mem_map.mp he
    have hi := List.mem_range.mp hi
    have ex : x.getD i 0 = x[i] := by rw [List.getD_eq_getElem?_getD, List.getElem?_eq_getElem hi]; rfl
    have hi' : i < y.length := by omega
    have ey : y.getD i 0 = y[i] := by rw [List.getD_eq_getElem?_getD, List.getElem?_eq_getElem hi']; rfl
    have vx := o.ents _ m1 x hx _ (List.getElem_mem hi)
    have vy := o'.ents _ m2 y hy _ (List.getElem_mem hi')
    rw [ex, ey, r2]
    have := pair_lt vx.1 vx.2 vy.1 vy.2
    rw [Int.natCast_mul]
    exact this
theorem ent_both {b : Int} {ts us : List Tab} (o : Ok b ts) (o' : Ok b us) {k : Nat} {s t f : Int} (s0 : 0 ≤ s) (s1 : s < (nst ts : Int)) (t0 : 0 ≤ t) (t1 : t < (nst us : Int)) (f0 : 0 ≤ f) (f1 : f < b) :
    ent (bothT ts us) (k % (bothT ts us).length) (s * (nst us : Int) + t) f = ent ts (k % ts.length) s f * (nst us : Int) + ent us (k % us.length) t f := by
  have a1 := o.t1
  have a2 := o'.t1
  have len : (bothT ts us).length = Nat.lcm ts.length us.length := by unfold bothT; rw [List.length_map, List.length_range]
  have hl : 0 < Nat.lcm ts.length us.length := Nat.lcm_pos a1 a2
  have k1 : k % ts.length < ts.length := Nat.mod_lt _ a1
  have k2 : k % us.length < us.length := Nat.mod_lt _ a2
  obtain ⟨tab, e1, e2, e3⟩ := o.row k1 s0 s1
  obtain ⟨tab', e1', e2', e3'⟩ := o'.row k2 t0 t1
  have d1 : ts.getD (k % ts.length) [] = tab := by rw [List.getD_eq_getElem?_getD, e1]; rfl
  have d2 : us.getD (k % us.length) [] = tab' := by rw [List.getD_eq_getElem?_getD, e1']; rfl
  have l2 := o'.rows _ (List.mem_of_getElem? e1')
  have d0 : (bothT ts us).getD (k % (bothT ts us).length) [] = ptab tab tab' := by
    rw [len, List.getD_eq_getElem?_getD]
    unfold bothT
    rw [List.getElem?_map, List.getElem?_range (Nat.mod_lt _ hl)]
    show ptab (ts.getD (k % Nat.lcm ts.length us.length % ts.length) []) (us.getD (k % Nat.lcm ts.length us.length % us.length) []) = _
    rw [Nat.mod_mod_of_dvd _ (Nat.dvd_lcm_left _ _), Nat.mod_mod_of_dvd _ (Nat.dvd_lcm_right _ _), d1, d2]
  have st : (s * (nst us : Int) + t).toNat = s.toNat * nst us + t.toNat := by
    have h := Int.mul_nonneg s0 (show (0 : Int) ≤ (nst us : Int) by omega)
    have e : s * (nst us : Int) = ((s.toNat * nst us : Nat) : Int) := by rw [Int.natCast_mul, Int.toNat_of_nonneg s0]
    omega
  have g := ptab_get tab' tab'.length tab s.toNat t.toNat e2 e2'
  rw [l2] at g
  have d3 : (ptab tab tab').getD (s * (nst us : Int) + t).toNat [] = prow (nst us) (rowOf ts (k % ts.length) s) (rowOf us (k % us.length) t) := by
    unfold ptab
    rw [st, List.getD_eq_getElem?_getD, l2, g]
    rfl
  show (((bothT ts us).getD (k % (bothT ts us).length) []).getD (s * (nst us : Int) + t).toNat []).getD f.toNat 0 = _
  rw [d0, d3, prow_get (by omega)]
  rfl
theorem rd_both {b : Int} {ts us : List Tab} (o : Ok b ts) (o' : Ok b us) : ∀ (fs : List Int) (k : Nat) (s t : Int), 0 ≤ s → s < (nst ts : Int) → 0 ≤ t → t < (nst us : Int) → figsIn b fs →
    rd (bothT ts us) k (s * (nst us : Int) + t) fs = rd ts k s fs * (nst us : Int) + rd us k t fs
  | [], k, s, t, _, _, _, _, _ => rfl
  | f :: fs, k, s, t, s0, s1, t0, t1, hf => by
    have hf0 := hf f List.mem_cons_self
    obtain ⟨_, _, _, _, _, x0, x1⟩ := o.look (Nat.mod_lt k o.t1) s0 s1 hf0.1 hf0.2
    obtain ⟨_, _, _, _, _, y0, y1⟩ := o'.look (Nat.mod_lt k o'.t1) t0 t1 hf0.1 hf0.2
    unfold rd
    rw [ent_both o o' s0 s1 t0 t1 hf0.1 hf0.2]
    exact rd_both o o' fs (k + 1) _ _ x0 x1 y0 y1 fun g hg => hf g (List.mem_cons_of_mem _ hg)

theorem good_both {b : Int} {ts us : List Tab} (o : Ok b ts) (o' : Ok b us) (fs : List Int) (hf : figsIn b fs) : rd (bothT ts us) 0 0 fs = 0 ↔ rd ts 0 0 fs = 0 ∧ rd us 0 0 fs = 0 := by
  have n1 := o.n1
  have n2 := o'.n1
  have e := rd_both o o' fs 0 0 0 (Int.le_refl _) (by omega) (Int.le_refl _) (by omega) hf
  rw [Int.zero_mul, Int.zero_add] at e
  have h1 := o.rd_lt fs 0 0 (Int.le_refl _) (by omega) hf
  have h2 := o'.rd_lt fs 0 0 (Int.le_refl _) (by omega) hf
  rw [e]
  constructor
  · intro z
    by_cases h : rd ts 0 0 fs = 0
    · rw [h, Int.zero_mul, Int.zero_add] at z
      exact ⟨h, z⟩
    · have : 1 * (nst us : Int) ≤ rd ts 0 0 fs * (nst us : Int) := Int.mul_le_mul_of_nonneg_right (by omega) (by omega)
      omega
  · rintro ⟨h, h'⟩
    rw [h, h', Int.zero_mul, Int.zero_add]

theorem lcm_step {m n j : Nat} (hm : 1 ≤ m) (hn : 1 ≤ n) (hj : 1 ≤ j) (h : m * j ≤ Nat.lcm m n) : (m * j % n = 0 → m * j = Nat.lcm m n) ∧ (m * j % n ≠ 0 → m * (j + 1) ≤ Nat.lcm m n) := by
  have hp : 0 < m * j := Nat.mul_pos hm hj
  constructor
  · intro z
    have d := Nat.lcm_dvd (Nat.dvd_mul_right m j) (Nat.dvd_of_mod_eq_zero z)
    have := Nat.le_of_dvd hp d
    omega
  · intro z
    obtain ⟨q, hq⟩ := Nat.dvd_lcm_left m n
    have hne : m * j ≠ Nat.lcm m n := by
      intro e
      apply z
      rw [e]
      exact Nat.mod_eq_zero_of_dvd (Nat.dvd_lcm_right m n)
    rw [hq] at h hne ⊢
    refine Nat.mul_le_mul_left m ?_
    have : j ≤ q := Nat.le_of_mul_le_mul_left h hm
    have : j ≠ q := fun e => hne (by rw [e])
    omega
end My


set_option maxHeartbeats 2000000
namespace My
open PySem L2 PyProof.Rows
structure BltZ (mg : Str → Option Value) : Prop where
  zip : mg "zip" = none
  max : mg "max" = none
noncomputable def kitRow (K : PySem.W.Frag) (C : Addr) : List Addr → List Bool → Bool
  | c :: cs, b :: bs => PySem.W.kitOne K (.ref C) (.ref c) == some b && kitRow K C cs bs
  | _, _ => true
noncomputable def errOne (K : PySem.W.Frag) (S : Addr) (cs : List Addr) (C : Addr) (bs : List Bool) : Bool :=
  PySem.W.excIn K C bmVE "ValueError.__new__" && ((mroT K C).contains (.ref S) && (PySem.W.findIn K (.ref C) "__getattribute__" == some (some (.builtin "BaseException.__getattribute__")) && (PySem.W.findIn K (.ref C) "__getattr__" == some none && (PySem.W.findIn K (.ref C) "__class__" == some (some (.builtin "object.__class__")) && (PySem.W.mroIn K C (.type "BaseException") == some true && (PySem.W.mroIn K C (.type "object") == some true && ((PySem.W.clsIn K C).isSome && (kitRow K C cs bs && PySem.W.kitOne K (.ref C) (.type "ValueError") == some true))))))))
structure ErrOk (K : PySem.W.Frag) (S : Addr) (cs : List Addr) (C : Addr) (bs : List Bool) : Prop where
  exc : ExcAt K C (mroT K C)
  has : (mroT K C).contains (.ref S) = true
  is : ExcIs K C
  kit : kitRow K C cs bs = true
  ve : PySem.W.kitOne K (.ref C) (.type "ValueError") = some true
theorem errOne_ok {K : PySem.W.Frag} {S C : Addr} {cs : List Addr} {bs : List Bool} (e : errOne K S cs C bs = true) : ErrOk K S cs C bs := by
  unfold errOne at e
  simp only [Bool.and_eq_true, beq_iff_eq] at e
  obtain ⟨e2, e3, e4, e5, e6, e7, e8, e9, e10, e11⟩ := e
  exact ⟨⟨e2, rfl⟩, e3, ⟨e4, e5, e6, e7, e8, e9⟩, e10, e11⟩
theorem kitRow_cons {K : PySem.W.Frag} {C c : Addr} {cs : List Addr} {b : Bool} {bs : List Bool} (h : kitRow K C (c :: cs) (b :: bs) = true) : PySem.W.kitOne K (.ref C) (.ref c) = some b ∧ kitRow K C cs bs = true := by
  unfold kitRow at h
  simpa only [Bool.and_eq_true, beq_iff_eq] using h
noncomputable def errsAB (K : PySem.W.Frag) (S c1 c2 c3 c4 c5 c6 : Addr) : Bool :=
  PySem.W.excIn K S bmVE "ValueError.__new__" && (errOne K S [c1, c2, c3, c4, c5, c6] c1 [true, false, false, false, false, false] && (errOne K S [c1, c2, c3, c4, c5, c6] c2 [false, true, false, false, false, false] && (errOne K S [c1, c2, c3, c4, c5, c6] c3 [false, false, true, false, false, false] &&
    (errOne K S [c1, c2, c3, c4, c5, c6] c4 [false, false, false, true, false, false] && (errOne K S [c1, c2, c3, c4, c5, c6] c5 [false, false, false, false, true, false] && errOne K S [c1, c2, c3, c4, c5, c6] c6 [false, false, false, false, false, true])))))

structure ErrsA (K : PySem.W.Frag) (mg : Str → Option Value) : Prop where
  at' : ∃ S c1 c2 c3 c4 c5 c6, mg "SlipError" = some (.ref S) ∧ mg "NoScheme" = some (.ref c1) ∧ mg "OtherBase" = some (.ref c2) ∧ mg "NoRoom" = some (.ref c3) ∧ mg "NoKind" = some (.ref c4) ∧ mg "NoFigure" = some (.ref c5) ∧ mg "NoNote" = some (.ref c6) ∧ mg "ValueError" = none ∧
    ExcAt K S (mroT K S) ∧ ErrOk K S [c1, c2, c3, c4, c5, c6] c1 [true, false, false, false, false, false] ∧ ErrOk K S [c1, c2, c3, c4, c5, c6] c2 [false, true, false, false, false, false] ∧ ErrOk K S [c1, c2, c3, c4, c5, c6] c3 [false, false, true, false, false, false] ∧
    ErrOk K S [c1, c2, c3, c4, c5, c6] c4 [false, false, false, true, false, false] ∧ ErrOk K S [c1, c2, c3, c4, c5, c6] c5 [false, false, false, false, true, false] ∧ ErrOk K S [c1, c2, c3, c4, c5, c6] c6 [false, false, false, false, false, true]
theorem errsA_mk {K : PySem.W.Frag} {mg : Str → Option Value} {S c1 c2 c3 c4 c5 c6 : Addr} (m0 : mg "SlipError" = some (.ref S)) (m1 : mg "NoScheme" = some (.ref c1)) (m2 : mg "OtherBase" = some (.ref c2)) (m3 : mg "NoRoom" = some (.ref c3)) (m4 : mg "NoKind" = some (.ref c4)) (m5 : mg "NoFigure" = some (.ref c5)) (m6 : mg "NoNote" = some (.ref c6)) (mv : mg "ValueError" = none) (e : errsAB K S c1 c2 c3 c4 c5 c6 = true) : ErrsA K mg := by
  unfold errsAB at e
  simp only [Bool.and_eq_true] at e
  obtain ⟨e0, e1, e2, e3, e4, e5, e6⟩ := e
  exact ⟨S, c1, c2, c3, c4, c5, c6, m0, m1, m2, m3, m4, m5, m6, mv, ⟨e0, rfl⟩, errOne_ok e1, errOne_ok e2, errOne_ok e3, errOne_ok e4, errOne_ok e5, errOne_ok e6⟩
theorem ErrsA.toP {K : PySem.W.Frag} {mg : Str → Option Value} (h : ErrsA K mg) : ErrsP K mg := by
  obtain ⟨S, c1, c2, c3, c4, c5, c6, m0, m1, m2, m3, m4, m5, m6, mv, x0, x1, x2, _⟩ := h.at'
  obtain ⟨k1, k⟩ := kitRow_cons x2.kit
  obtain ⟨k2, _⟩ := kitRow_cons k
  exact ⟨S, c1, c2, m0, m1, m2, mv, x0, x2.exc, x2.has, x2.is, k2, k1, x2.ve⟩

noncomputable def Fits (ts us : List Tab) : Prop := Nat.lcm ts.length us.length ≤ 6 ∧ nst ts * nst us ≤ 12
noncomputable def spCTurns (K : PySem.W.Frag) : Sp := fun vs H Q _ => ∃ (a c : Addr) (xs ys : List V), vs = [.ref a, .ref c] ∧ SqT K H a xs ∧ SqT K H c ys ∧ 1 ≤ xs.length ∧ xs.length ≤ 6 ∧ 1 ≤ ys.length ∧ ys.length ≤ 6 ∧ Q (.int ((Nat.lcm xs.length ys.length : Nat) : Int)) H
noncomputable def spLTurns : Sp := fun vs H Q _ => ∃ (m n : Nat), vs = [.int (m : Int), .int (n : Int)] ∧ 1 ≤ m ∧ m ≤ 6 ∧ 1 ≤ n ∧ n ≤ 6 ∧ Q (.int ((Nat.lcm m n : Nat) : Int)) H
noncomputable def spPRow : Sp := fun vs H Q _ => ∃ (v u : V) (r r' : List Int) (m : Nat), vs = [v, u, .int (m : Int)] ∧ RowAt H v r ∧ RowAt H u r' ∧ r'.length = r.length ∧ r.length ≤ 10 ∧ m ≤ 12 ∧ ∀ x H', Same H H' → RowAt H' x (prow m r r') → Q x H'
noncomputable def spPTab : Sp := fun vs H Q _ => ∃ (v u : V) (t t' : Tab) (b : Nat), vs = [v, u] ∧ TabAt H v t ∧ TabAt H u t' ∧ t.length ≤ 12 ∧ t'.length ≤ 12 ∧ b ≤ 10 ∧ (∀ r ∈ t, r.length = b) ∧ (∀ r ∈ t', r.length = b) ∧ ∀ x H', Same H H' → TabAt H' x (ptab t t') → Q x H'
noncomputable def spBoth (mg : Str → Option Value) : Sp := fun vs H Q E => ∃ (v u : V) (ts us : List Tab) (b b' : Int), vs = [v, u] ∧ SchAt H v b ts ∧ Ok b ts ∧ SchAt H u b' us ∧ Ok b' us ∧
  (b ≠ b' → ∀ C H', mg "OtherBase" = some (.ref C) → Same H H' → E (.ref C) none H') ∧
  (b = b' → (¬ Fits ts us → ∀ C H', mg "NoRoom" = some (.ref C) → Same H H' → E (.ref C) none H') ∧ (Fits ts us → ∀ x H', Same H H' → SchAt H' x b (bothT ts us) → Q x H'))
noncomputable def spToldB (_ : Str → Option Value) : Sp := fun vs H Q _ => ∃ (v u : V) (ts us : List Tab) (b b' : Int), vs = [v, u] ∧ SchAt H v b ts ∧ Ok b ts ∧ SchAt H u b' us ∧ Ok b' us ∧
  (b ≠ b' → ∀ q H', Same H H' → H' q = some (.tup [.int 2, .non]) → Q (.ref q) H') ∧
  (b = b' → (¬ Fits ts us → ∀ q H', Same H H' → H' q = some (.tup [.int 3, .non]) → Q (.ref q) H') ∧ (Fits ts us → ∀ q x H', Same H H' → H' q = some (.tup [.int 0, x]) → SchAt H' x b (bothT ts us) → Q (.ref q) H'))
theorem mod_nat (a b : Nat) : ((a : Int) % (b : Int)) = ((a % b : Nat) : Int) := rfl
theorem nzT {a b : Nat} (z : (!decide (V.int ((a : Int) % (b : Int)) = V.int 0)) = true) : a % b ≠ 0 := by
  intro e
  rw [mod_nat, e] at z
  simp at z
theorem nzF {a b : Nat} (z : ¬ (!decide (V.int ((a : Int) % (b : Int)) = V.int 0)) = true) : a % b = 0 := by
  rw [mod_nat] at z
  have : ¬ (((a % b : Nat) : Int) ≠ 0) := by simpa using z
  omega
theorem lcm_step2 {m n d : Nat} (hm : 1 ≤ m) (hn : 1 ≤ n) (hd : 1 ≤ d) (h : d ≤ Nat.lcm m n) : (d % m = 0 ∧ d % n = 0 → d = Nat.lcm m n) ∧ (¬ (d % m = 0 ∧ d % n = 0) → d + 1 ≤ Nat.lcm m n) := by
  constructor
  · rintro ⟨z1, z2⟩
    have := Nat.le_of_dvd hd (Nat.lcm_dvd (Nat.dvd_of_mod_eq_zero z1) (Nat.dvd_of_mod_eq_zero z2))
    omega
  · intro z
    have hne : d ≠ Nat.lcm m n := fun e => z (by rw [e]; exact ⟨Nat.mod_eq_zero_of_dvd (Nat.dvd_lcm_left m n), Nat.mod_eq_zero_of_dvd (Nat.dvd_lcm_right m n)⟩)
    omega
section
variable {P : Program} {w : World} {K : PySem.W.Frag} {mg : Str → Option Value} {base : Heap}
noncomputable abbrev s_common_turns : Stmt := top 30
theorem sc_common_turns : FnScope ["tables", "others", "turns"] ["tables", "others"] (defScope s_common_turns) := ⟨rfl, rfl, rfl, by decide +kernel, rfl, by decide +kernel, by decide +kernel⟩
theorem ok_common_turns {f : Addr} {fd : FuncData} (F : Fun K "common_turns" "common_turns" s_common_turns f fd) (B : Blt mg)   :
    FnOk P w K mg base CX0 1 f fd ["tables", "others"] (spCTurns K) := by
  refine F.ok sc_common_turns (fun vs H Q E h => ?_) (fun cdv A outer s H vs Q E hr h => ?_)
  · obtain ⟨_, _, _, _, rfl, _⟩ := h
    rfl
  · obtain ⟨a, c, xs, ys, rfl, ha, hc, x1, x2, y1, y2, q⟩ := h
    have nd := sc_common_turns.nd
    refine ⟨_, (pss_cons (ps_set (i := 2) nd rfl (Or.inl rfl) (pe_callB call_len_seq rfl B.len PySem.boot_len (pa_cons (pv 0) pa_nil)))
      (pss_cons (ps_while PassesOwn.never (pt_cmpR op_ne (pe_op op_mod (pv 2) (pe_callB call_len_seq rfl B.len PySem.boot_len (pa_cons (pv 1) pa_nil))) pe_int (nomark _)) (pss_one (ps_set (i := 2) nd rfl (Or.inl rfl) (pe_op op_add (pv 2) (pe_callB call_len_seq rfl B.len PySem.boot_len (pa_cons (pv 0) pa_nil))))))
      (pss_one (ps_ret (pv 2))))), ?_⟩
    refine ⟨_, rfl, a, xs, rfl, .inr ha, ?_⟩
    refine ⟨fun k σ H' => ∃ j : Nat, σ = [some (.ref a), some (.ref c), some (.int ((xs.length * j : Nat) : Int))] ∧ H' = H ∧ 1 ≤ j ∧ xs.length * j ≤ Nat.lcm xs.length ys.length ∧ k = Nat.lcm xs.length ys.length - xs.length * j, ⟨_, 1, by rw [Nat.mul_one]; rfl, rfl, Nat.le_refl _, by rw [Nat.mul_one]; exact Nat.le_of_dvd (Nat.lcm_pos x1 y1) (Nat.dvd_lcm_left _ _), rfl⟩, ?_⟩
    rintro k σ H' ⟨j, rfl, rfl, j1, jl, rfl⟩
    have st := lcm_step x1 y1 j1 jl
    refine ⟨_, rfl, _, rfl, c, ys, rfl, .inr hc, _, _, rfl, rfl, (by show (0 : Int) < (ys.length : Int); omega), rfl, _, rfl, ite2 (fun z => ?_) (fun z => ?_)⟩
    · have hz : xs.length * j % ys.length ≠ 0 := nzT z
      have h2 := st.2 hz
      have e2 : xs.length * (j + 1) = xs.length * j + xs.length := Nat.mul_succ _ _
      refine ⟨_, fun σ' H' z => z, ?_⟩
      refine ⟨_, rfl, _, rfl, a, xs, rfl, .inr ha, _, _, rfl, rfl, _, ?_, j + 1, ?_, rfl, by omega, h2, rfl⟩
      · omega
      · rw [e2]
        rfl
    · have hz : xs.length * j % ys.length = 0 := nzF z
      have := st.1 hz
      refine ⟨_, rfl, ?_⟩
      rw [this]
      exact q
noncomputable abbrev s__law_turns : Stmt := top 43
theorem sc__law_turns : FnScope ["one", "two", "found"] ["one", "two"] (defScope s__law_turns) := ⟨rfl, rfl, rfl, by decide +kernel, rfl, by decide +kernel, by decide +kernel⟩
theorem ok__law_turns {f : Addr} {fd : FuncData} (F : Fun K "_law_turns" "_law_turns" s__law_turns f fd) (B : Blt mg) (Zm : BltZ mg)  :
    FnOk P w K mg base CX0 1 f fd ["one", "two"] spLTurns := by
  refine F.ok sc__law_turns (fun vs H Q E h => ?_) (fun cdv A outer s H vs Q E hr h => ?_)
  · obtain ⟨_, _, rfl, _⟩ := h
    rfl
  · obtain ⟨m, n, rfl, m1, m2, n1, n2, q⟩ := h
    have nd := sc__law_turns.nd
    refine ⟨_, (pss_cons (ps_set (i := 2) nd rfl (Or.inl rfl) (pe_callB (call_max2 rfl) rfl Zm.max boot_max (pa_cons (pv 0) (pa_cons (pv 1) pa_nil))))
      (pss_cons (ps_while PassesOwn.never (PW.pt (pw_or (pt_cmpR op_ne (pe_op op_mod (pv 2) (pv 0)) pe_int (nomark _)) (pw_or1 (pt_cmpR op_ne (pe_op op_mod (pv 2) (pv 1)) pe_int (nomark _))))) (pss_one (ps_set (i := 2) nd rfl (Or.inl rfl) (pe_op op_add (pv 2) pe_int))))
      (pss_one (ps_ret (pv 2))))), ?_⟩
    refine ⟨_, rfl, _, rfl, (m : Int), (n : Int), rfl, ?_⟩
    have l1 : m ≤ Nat.lcm m n := Nat.le_of_dvd (Nat.lcm_pos m1 n1) (Nat.dvd_lcm_left _ _)
    have l2 : n ≤ Nat.lcm m n := Nat.le_of_dvd (Nat.lcm_pos m1 n1) (Nat.dvd_lcm_right _ _)
    obtain ⟨d, ed, d1, dl⟩ : ∃ d : Nat, (if (n : Int) > (m : Int) then (n : Int) else (m : Int)) = (d : Int) ∧ 1 ≤ d ∧ d ≤ Nat.lcm m n := by
      split
      · exact ⟨n, rfl, n1, l2⟩
      · exact ⟨m, rfl, m1, l1⟩
    rw [ed]
    refine ⟨fun k σ H' => ∃ d : Nat, σ = [some (.int (m : Int)), some (.int (n : Int)), some (.int (d : Int))] ∧ H' = H ∧ 1 ≤ d ∧ d ≤ Nat.lcm m n ∧ k = Nat.lcm m n - d, ⟨_, d, rfl, rfl, d1, dl, rfl⟩, ?_⟩
    clear ed d1 dl d
    rintro k σ H' ⟨d, rfl, rfl, d1, dl, rfl⟩
    have st := lcm_step2 m1 n1 d1 dl
    have on : ¬ (d % m = 0 ∧ d % n = 0) → ∃ N : L2.St → Hp → Prop, (∀ σ' H'', N σ' H'' → ∃ m', m' < Nat.lcm m n - d ∧ ∃ d' : Nat, σ' = [some (.int (m : Int)), some (.int (n : Int)), some (.int (d' : Int))] ∧ H'' = H' ∧ 1 ≤ d' ∧ d' ≤ Nat.lcm m n ∧ m' = Nat.lcm m n - d') ∧ N [some (.int (m : Int)), some (.int (n : Int)), some (.int ((d : Int) + 1))] H' := fun z => by
      have h2 := st.2 z
      exact ⟨_, fun σ' H'' z => z, _, (by omega), d + 1, rfl, rfl, by omega, h2, rfl⟩
    refine ⟨_, rfl, _, rfl, _, _, rfl, rfl, (by show (0 : Int) < (m : Int); omega), rfl, _, rfl, ite2 (fun z => ?_) (fun z => ?_)⟩
    · have hz : d % m ≠ 0 := nzT z
      obtain ⟨N, hN, h⟩ := on fun x => hz x.1
      exact iteT ⟨N, hN, _, rfl, _, _, rfl, rfl, h⟩
    · have hz : d % m = 0 := nzF z
      refine ⟨_, rfl, _, rfl, _, _, rfl, rfl, (by show (0 : Int) < (n : Int); omega), rfl, _, rfl, ite2 (fun z => ?_) (fun z => ?_)⟩
      · have hz2 : d % n ≠ 0 := nzT z
        obtain ⟨N, hN, h⟩ := on fun x => hz2 x.2
        exact ⟨N, hN, _, rfl, _, _, rfl, rfl, h⟩
      · have hz2 : d % n = 0 := nzF z
        refine ⟨_, rfl, ?_⟩
        rw [st.1 ⟨hz, hz2⟩]
        exact q
noncomputable abbrev s_paired_row : Stmt := top 31
theorem sc_paired_row : FnScope ["row", "other_row", "other_states"] ["row", "other_row", "other_states"] (defScope s_paired_row) := ⟨rfl, rfl, rfl, by decide +kernel, rfl, by decide +kernel, by decide +kernel⟩
theorem ok_paired_row {f : Addr} {fd : FuncData} (F : Fun K "paired_row" "paired_row" s_paired_row f fd) (B : Blt mg) (Zm : BltZ mg)  :
    FnOk P w K mg base CX0 1 f fd ["row", "other_row", "other_states"] spPRow := by
  refine F.ok sc_paired_row (fun vs H Q E h => ?_) (fun cdv A outer s H vs Q E hr h => ?_)
  · obtain ⟨_, _, _, _, _, rfl, _⟩ := h
    rfl
  · obtain ⟨v, u, r, r', m, rfl, ⟨a, rfl, ha⟩, ⟨c, rfl, hc⟩, hl, hr10, hm, q⟩ := h
    have nd := sc_paired_row.nd
    refine ⟨_, (pss_one (ps_ret (pe_callTy call_tuple_of rfl B.tTuple boot_tuple (pa_cons (pe_comp (g := (gTup K 2 (gCons (gName 0) (gCons (gName 1) gNil)))) (N := ["state", "other", "other_states"]) (js := [none, none, some 2]) rfl rfl (pi_zipT rfl Zm.zip (pa_cons (pv 0) (pa_cons (pv 1) pa_nil))) (fun _ _ _ _ => (pg_tup rfl (pgs_cons (pg_name (i := 0) (ndOf (N := ["state", "other", "other_states"]) (by decide +kernel)) rfl (Or.inl rfl)) (pgs_cons (pg_name (i := 1) (ndOf (N := ["state", "other", "other_states"]) (by decide +kernel)) rfl (Or.inl rfl)) pgs_nil)))) (fun _ _ _ _ => pts_nil) (fun _ _ _ _ => (pe_op op_add (pe_op op_mul (pv 0) (pv 2)) (pv 1)))) pa_nil)))), ?_⟩
    refine ⟨_, rfl, _, rfl, a, c, rfl, ⟨_, SqT.of ha⟩, ⟨_, SqT.of hc⟩, ?_⟩
    have wk := Walk.zipT (K := K) (SqT.of ha) (SqT.of hc) (by rw [List.length_map, List.length_map, hl])
    rw [List.length_map] at wk
    refine block_gen wk (fun D k ys H2 => ys = (List.range k).map fun i : Nat => V.int (r.getD i 0 * (m : Int) + r'.getD i 0)) (fun D hD => rfl) (fun D k x ys H1 H3 Keep Drop hD hk s1' s2' hys e ix keep drop => ?_) (fun D ys H2 hD s2 hys e => ?_)
    · obtain ⟨p, rfl, hp⟩ := ix
      have ex : (r.map V.int).getD k .non = V.int (r.getD k 0) := by simp [List.getD_eq_getElem?_getD, List.getElem?_map, List.getElem?_eq_getElem hk]
      have hk' : k < r'.length := by omega
      have ex' : (r'.map V.int).getD k .non = V.int (r'.getD k 0) := by simp [List.getD_eq_getElem?_getD, List.getElem?_map, List.getElem?_eq_getElem hk']
      rw [ex, ex'] at hp
      have hly : ys.length < sizeLine := by
        rw [e, List.length_map, List.length_range]
        exact small1000 (by omega)
      refine ⟨p, _, rfl, SqT.of hp, rfl, _, _, rfl, _, _, rfl, rfl, ?_⟩
      refine ⟨⟨rfl, fun i v e => ?_⟩, ?_⟩
      · match i, e with
        | 0, e => cases e
        | 1, e => cases e
        | 2, e => exact e
      · refine ⟨_, rfl, _, rfl, _, _, rfl, rfl, .inr ⟨by omega, by omega⟩, _, rfl, _, _, rfl, rfl, keep _ _ (Same.refl _) hly ?_⟩
        rw [List.range_succ, List.map_append, e]
        rfl
    · refine ⟨D, _, rfl, .inl ⟨SqL.of hys, fun l hl' => ?_⟩⟩
      refine q (.ref l) _ (s2.trans (Same.new hl')) ⟨l, rfl, ?_⟩
      rw [upd_same, e]
      unfold prow
      rw [List.map_map]
      rfl
end
end My


set_option maxHeartbeats 2000000
namespace My
open PySem L2 PyProof.Rows
theorem RowAt.put {H : Hp} {l : Addr} {ys : List V} {o : HO} {v : V} {r : List Int} (hl : H l = some (.lst ys)) (h : RowAt H v r) : RowAt (upd H l o) v r := by
  obtain ⟨a, e, h⟩ := h
  exact ⟨a, e, by rw [upd_ne (ne_of h hl (by intro z; cases z))]; exact h⟩
theorem TabAt.frL {H H' : Hp} {D : Addr} {ys : List V} {v : V} {t : Tab} (fr : ∀ b o, b ≠ D → H b = some o → H' b = some o) (hD : H D = some (.lst ys)) (h : TabAt H v t) : TabAt H' v t := by
  have tp : ∀ a xs, H a = some (.tup xs) → H' a = some (.tup xs) := fun a xs e => fr _ _ (ne_of e hD (by intro z; cases z)) e
  obtain ⟨a2, vs2, e2, h2, p2⟩ := h
  refine ⟨a2, vs2, e2, tp _ _ h2, paired_imp (fun x r hx => ?_) p2⟩
  obtain ⟨a3, e3, h3⟩ := hx
  exact ⟨a3, e3, tp _ _ h3⟩
theorem paired_mapR {α β γ : Type} {F : α → γ → Prop} {G : α → β → Prop} {f : β → γ} (h : ∀ a b, G a b → F a (f b)) : ∀ {l : List α} {m : List β}, Paired G l m → Paired F l (m.map f)
  | _, _, .nil => .nil
  | _, _, .cons a t => .cons (h _ _ a) (paired_mapR h t)
section
variable {P : Program} {w : World} {K : PySem.W.Frag} {mg : Str → Option Value} {base : Heap}
noncomputable abbrev s_paired_table : Stmt := top 32
theorem sc_paired_table : FnScope ["table", "other_table", "rows", "row"] ["table", "other_table"] (defScope s_paired_table) := ⟨rfl, rfl, rfl, by decide +kernel, rfl, by decide +kernel, by decide +kernel⟩
theorem ok_paired_table {f : Addr} {fd : FuncData} (F : Fun K "paired_table" "paired_table" s_paired_table f fd) (B : Blt mg)  (h_paired_row : Has P w K mg base "paired_row" 1 ["row", "other_row", "other_states"] spPRow) :
    FnOk P w K mg base CX0 2 f fd ["table", "other_table"] spPTab := by
  refine F.ok sc_paired_table (fun vs H Q E h => ?_) (fun cdv A outer s H vs Q E hr h => ?_)
  · obtain ⟨_, _, _, _, _, rfl, _⟩ := h
    rfl
  · obtain ⟨v, u, t, t', b, rfl, ⟨a, vrs, rfl, ha, pR⟩, ⟨c, vus, rfl, hc, pU⟩, hl, hl', hb, hrb, hrb', q⟩ := h
    have nd := sc_paired_table.nd
    have el := paired_length pR
    have el' := paired_length pU
    refine ⟨_, (pss_cons (ps_set (i := 2) nd rfl (Or.inl rfl) (pe_lst pa_nil))
      (pss_cons (ps_for PassesOwn.never rfl (pi_tup (pv 0)) (pg_name (i := 3) nd rfl (Or.inr rfl)) (pss_one (ps_expr (pe_bm PySem.F.plainAttrs_list PySem.F.slot_list_extend PySem.F.type_list_extend mt_extend (pv 2) (pa_cons (pe_comp (N := ["other_row", "row", "other_table"]) (js := [none, some 3, some 1]) rfl rfl (pi_tup (pv 1)) (fun _ _ _ _ => (pg_name (i := 0) (ndOf (N := ["other_row", "row", "other_table"]) (by decide +kernel)) rfl (Or.inl rfl))) (fun _ _ _ _ => pts_nil) (fun _ _ _ _ => (pe_fn h_paired_row (hr.mono (by decide)) (pa_cons (pv 1) (pa_cons (pv 0) (pa_cons (pe_callB (call_lenK K) rfl B.len PySem.boot_len (pa_cons (pv 2) pa_nil)) pa_nil)))))) pa_nil)))))
      (pss_one (ps_ret (pe_callTy call_tuple_of rfl B.tTuple boot_tuple (pa_cons (pv 2) pa_nil)))))), ?_⟩
    refine ⟨(by show 0 ≤ sizeLine; decide), fun lT hlT => ?_⟩
    have uT := Same.new (o := HO.lst []) hlT
    obtain ⟨g, hg⟩ : ∃ g : List Int → Tab, ∀ r, g r = t'.map (prow t'.length r) := ⟨_, fun _ => rfl⟩
    have hgl : ∀ r, (g r).length = t'.length := fun r => by rw [hg, List.length_map]
    obtain ⟨I1, hI1⟩ : ∃ I1 : Nat → L2.St → Hp → Prop, ∀ i σ H4, I1 i σ H4 ↔ ∃ vs o3, σ = [some (.ref a), some (.ref c), some (.ref lT), o3] ∧ Same H H4 ∧ H4 lT = some (.lst vs) ∧ Paired (RowAt H4) vs ((t.take i).flatMap g) := ⟨_, fun _ _ _ => Iff.rfl⟩
    refine ⟨_, rfl, a, rfl, ⟨_, SqT.of (uT _ _ ha)⟩, for_tup (K := K) (a := a) (xs := vrs) I1 ((hI1 _ _ _).2 ⟨[], _, rfl, uT, upd_same, .nil⟩) (fun i σ H4 _ zz => by
      obtain ⟨_, _, _, s4, _⟩ := (hI1 _ _ _).1 zz
      exact SqT.of (s4 _ _ ha)) ?_ ?_⟩
    · intro i y σ H4 hi zz
      obtain ⟨vs, o3, rfl, s4, hT4, p4⟩ := (hI1 _ _ _).1 zz
      clear zz
      obtain ⟨r, er, hy⟩ := paired_getL pR i _ hi
      have hrl := hrb r (List.mem_of_getElem? er)
      have hvl : vs.length ≤ 144 := by
        have e1 := paired_length p4
        have e2 : ((t.take i).flatMap g).length = (t.take i).length * t'.length := length_flat (n := t'.length) _ fun x _ => hgl x
        have e3 : (t.take i).length * t'.length ≤ 12 * 12 := Nat.mul_le_mul (by rw [List.length_take]; omega) hl'
        omega
      have wk := Walk.tup (K := K) (SqT.of (s4 _ _ hc))
      refine ⟨_, rfl, .inl ⟨rfl, _, SqL.of hT4⟩, _, rfl, c, rfl, ⟨_, SqT.of (s4 _ _ hc)⟩, ?_⟩
      refine block_rel wk (by omega) rfl (fun _ => true) (fun D k y H' => RowAt H' y (prow t'.length r (t'.getD k []))) (fun D k v ys H1 H2 fr hD h => ?_) (fun k H3 Q' _ _ q' => q' _ (Same.refl _)) (fun D k ys H3 Q' hk' _ hD hD3 s3 q' => ?_) (fun D ys H3 hD s3 hDl pr => ?_)
      · obtain ⟨x, e, h⟩ := h
        exact ⟨x, e, fr _ _ (ne_of h hD (by intro z; cases z)) h⟩
      · have s43 := s4.trans s3
        obtain ⟨r', er'⟩ : ∃ r', t'[k]? = some r' := ⟨_, List.getElem?_eq_getElem (show k < t'.length by omega)⟩
        obtain ⟨x, ex, hx⟩ := paired_get pU k _ er'
        have ed : vus.getD k .non = x := by rw [List.getD_eq_getElem?_getD, ex]; rfl
        have ed' : t'.getD k [] = r' := by rw [List.getD_eq_getElem?_getD, er']; rfl
        have hrl' := hrb' r' (List.mem_of_getElem? er')
        refine ⟨_, rfl, _, rfl, _, rfl, c, vus, rfl, .inr (SqT.of (s43 _ _ hc)), y, vus.getD k .non, r, r', t'.length, ?_, hy.same s43, ?_, by omega, by omega, hl', fun x' H5 s5 hx' => q' _ _ s5 ?_⟩
        · rw [el']
          rfl
        · rw [ed]
          exact hx.same s43
        · rw [ed']
          exact hx'
      · rw [List.filter_eq_self.mpr (fun _ _ => rfl)] at pr
        have hT3 := s3 _ _ hT4
        have e5 := paired_length pr
        rw [List.length_range] at e5
        refine ⟨lT, D, vs, ys, rfl, rfl, hT3, hDl, Nat.le_of_lt (smallM (by omega)), (hI1 _ _ _).2 ⟨_, _, rfl, (s4.trans s3).put hlT, upd_same, ?_⟩⟩
        have e6 : (t.take (i + 1)).flatMap g = (t.take i).flatMap g ++ g r := by
          rw [List.take_add_one, er, List.flatMap_append]
          simp
        have e7 : (List.range vus.length).map (fun k => prow t'.length r (t'.getD k [])) = g r := by
          rw [hg, el', range_map_getD t' [] (prow t'.length r)]
        rw [e6, ← e7]
        exact paired_append (paired_imp (fun _ _ x => (x.same s3).put hT3) p4) (paired_imp (fun _ _ x => RowAt.put hT3 x) (paired_mapR (F := RowAt H3) (f := fun k => prow t'.length r (t'.getD k [])) (fun _ _ h => h) pr))
    · intro σ H4 zz
      obtain ⟨vs, o3, rfl, s4, hT4, p4⟩ := (hI1 _ _ _).1 zz
      refine ⟨_, rfl, lT, vs, rfl, .inl ⟨SqL.of hT4, fun l hl2 => ?_⟩⟩
      have u5 := Same.new (o := HO.tup vs) hl2
      refine q (.ref l) _ (s4.trans u5) ⟨l, vs, rfl, upd_same, ?_⟩
      rw [el, List.take_length] at p4
      have e : t.flatMap g = ptab t t' := by
        unfold ptab
        exact congrArg (fun f => List.flatMap f t) (funext hg)
      rw [e] at p4
      exact paired_imp (fun _ _ x => x.same u5) p4
noncomputable abbrev s_both : Stmt := top 33
theorem sc_both : FnScope ["scheme", "other", "tables", "others", "turns", "paired"] ["scheme", "other"] (defScope s_both) := ⟨rfl, rfl, rfl, by decide +kernel, rfl, by decide +kernel, by decide +kernel⟩
theorem ok_both {f : Addr} {fd : FuncData} (F : Fun K "both" "both" s_both f fd) (B : Blt mg) (Nm : Nums mg) (Ea : ErrsA K mg) (h_check_pair : HasX P w K mg base "check_pair" 6 ["scheme", "other"] (spPair mg)) (h_common_turns : Has P w K mg base "common_turns" 1 ["tables", "others"] (spCTurns K)) (h_paired_table : Has P w K mg base "paired_table" 2 ["table", "other_table"] spPTab) :
    FnOk P w K mg base (CXR P w) 7 f fd ["scheme", "other"] (spBoth mg) := by
  refine F.okX sc_both (fun vs H Q E h => ?_) (fun cdv A outer s H vs Q E hr h L => ?_)
  · obtain ⟨_, _, _, _, _, _, rfl, _⟩ := h
    rfl
  · obtain ⟨v, u, ts, us, b, b', rfl, hv, ok, hu, ok', qE, qq⟩ := h
    have nd := sc_both.nd
    obtain ⟨t6, m6⟩ := Nm.mt
    obtain ⟨t12, m12⟩ := Nm.ms
    obtain ⟨_, _, _, c_NoRoom, _, _, _, _, _, _, m_NoRoom, _, _, _, _, _, _, _, e_NoRoom, _⟩ := Ea.at'
    have x_NoRoom := e_NoRoom.exc
    refine ⟨_, (pss_cons (ps_expr (pe_fnX h_check_pair (hr.mono (by decide)) L.pass (pa_cons (pv 0) (pa_cons (pv 1) pa_nil))))
      (pss_cons (ps_set (i := 2) nd rfl (Or.inr rfl) (pe_ix ix_tup (pv 0) pe_int (fun _ _ => rfl)))
      (pss_cons (ps_set (i := 3) nd rfl (Or.inr rfl) (pe_ix ix_tup (pv 1) pe_int (fun _ _ => rfl)))
      (pss_cons (ps_set (i := 4) nd rfl (Or.inl rfl) (pe_fn h_common_turns (hr.mono (by decide)) (pa_cons (pv 2) (pa_cons (pv 3) pa_nil))))
      (pss_cons (ps_if (PW.pt (pw_or (pt_cmpR op_gt (pv 4) (pe_glob (v := .int 6) rfl m6 ⟨_, rfl⟩) (nomark _)) (pw_or1 (pt_cmpR op_gt (pe_op op_mul (pe_callB call_len_seq rfl B.len PySem.boot_len (pa_cons (pe_ix ix_tup (pv 2) pe_int (fun _ _ => rfl)) pa_nil)) (pe_callB call_len_seq rfl B.len PySem.boot_len (pa_cons (pe_ix ix_tup (pv 3) pe_int (fun _ _ => rfl)) pa_nil))) (pe_glob (v := .int 12) rfl m12 ⟨_, rfl⟩) (nomark _))))) (pss_one (ps_raise L rfl rfl m_NoRoom x_NoRoom (pa_cons pe_str pa_nil))) pss_nil)
      (pss_cons (ps_setC (i := 5) (N := ["turn", "tables", "others"]) (js := [none, some 2, some 3]) nd rfl rfl rfl rfl (pi_range1 rfl B.range (pa_cons (pv 4) pa_nil)) (fun _ _ _ _ => (pg_name (i := 0) (ndOf (N := ["turn", "tables", "others"]) (by decide +kernel)) rfl (Or.inl rfl))) (fun _ _ _ _ => pts_nil) (fun _ _ _ _ => (pe_fn h_paired_table (hr.mono (by decide)) (pa_cons (pe_ix (ix_tupK K) (pv 1) (pe_op op_mod (pv 0) (pe_callB (call_lenK K) rfl B.len PySem.boot_len (pa_cons (pv 1) pa_nil))) (fun _ _ => rfl)) (pa_cons (pe_ix (ix_tupK K) (pv 2) (pe_op op_mod (pv 0) (pe_callB (call_lenK K) rfl B.len PySem.boot_len (pa_cons (pv 2) pa_nil))) (fun _ _ => rfl)) pa_nil)))))
      (pss_one (ps_ret (pe_tup (pa_cons (pe_ix ix_tup (pv 0) pe_int (fun _ _ => rfl)) (pa_cons (pe_callTy call_tuple_of rfl B.tTuple boot_tuple (pa_cons (pv 5) pa_nil)) pa_nil))))))))))), ?_⟩
    refine ⟨_, rfl, _, rfl, v, u, ts, us, b, b', rfl, hv, ok, hu, ok', fun eb H1 s1 => ?_, qE⟩
    subst eb
    obtain ⟨qN, qL⟩ := qq rfl
    clear qq qE
    obtain ⟨a0, vT, rfl, ha0, a1, vts, rfl, ha1, pT⟩ := hv.same s1
    obtain ⟨c0, vU, rfl, hc0, c1, vus, rfl, hc1, pU⟩ := hu.same s1
    have el := paired_length pT
    have el' := paired_length pU
    have t1 := ok.t1
    have t2 := ok.t2
    have t1' := ok'.t1
    have t2' := ok'.t2
    have n2 := ok.n2
    have n2' := ok'.n2
    have b1 := ok.b1
    have b2 := ok.b2
    have e0 : ts[0]? = some (ts.headD []) := by
      cases ts with
      | nil => simp at t1
      | cons t r => rfl
    have e0' : us[0]? = some (us.headD []) := by
      cases us with
      | nil => simp at t1'
      | cons t r => rfl
    obtain ⟨x0, ex0, ⟨a2, vrs, rfl, ha2, pR⟩⟩ := paired_get pT 0 _ e0
    obtain ⟨y0, ey0, ⟨c2, vru, rfl, hc2, pR'⟩⟩ := paired_get pU 0 _ e0'
    have hn0 : vrs.length = nst ts := paired_length pR
    have hn0' : vru.length = nst us := paired_length pR'
    refine ⟨_, rfl, a0, _, 1, _, rfl, rfl, SqT.of ha0, rfl, ?_⟩
    refine ⟨_, rfl, c0, _, 1, _, rfl, rfl, SqT.of hc0, rfl, ?_⟩
    refine ⟨_, rfl, _, rfl, a1, c1, vts, vus, rfl, SqT.of ha1, SqT.of hc1, by omega, by omega, by omega, by omega, ?_⟩
    rw [el, el']
    have l1 : 1 ≤ Nat.lcm ts.length us.length := Nat.lcm_pos t1 t1'
    refine ⟨_, rfl, _, _, rfl, rfl, _, rfl, ite2 (fun z => ?_) (fun z => ?_)⟩
    · have hz : ¬ Fits ts us := fun h => by
        have := of_decide_eq_true z
        have := h.1
        omega
      exact iteT ⟨by show 1 ≤ sizeLine; decide, qN hz c_NoRoom H1 m_NoRoom s1⟩
    have hz1 : Nat.lcm ts.length us.length ≤ 6 := by
      have : ¬ ((6 : Int) < ((Nat.lcm ts.length us.length : Nat) : Int)) := by simpa using z
      omega
    refine ⟨_, rfl, a1, _, 0, _, rfl, rfl, SqT.of ha1, atI_nat ex0, a2, vrs, rfl, .inr (SqT.of ha2), _, rfl, c1, _, 0, _, rfl, rfl, SqT.of hc1, atI_nat ey0, c2, vru, rfl, .inr (SqT.of hc2), _, _, rfl, rfl, .inr ⟨by omega, by omega⟩, _, _, rfl, rfl, _, rfl, ite2 (fun z2 => ?_) (fun z2 => ?_)⟩
    · have hz : ¬ Fits ts us := fun h => by
        have h1 : (12 : Int) < (vrs.length : Int) * (vru.length : Int) := of_decide_eq_true z2
        rw [hn0, hn0', ← Int.natCast_mul] at h1
        have := h.2
        omega
      exact ⟨by show 1 ≤ sizeLine; decide, qN hz c_NoRoom H1 m_NoRoom s1⟩
    have hz2 : nst ts * nst us ≤ 12 := by
      have h1 : ¬ ((12 : Int) < (vrs.length : Int) * (vru.length : Int)) := by simpa using z2
      rw [hn0, hn0', ← Int.natCast_mul] at h1
      omega
    have hfit : Fits ts us := ⟨hz1, hz2⟩
    clear z z2 qN
    obtain ⟨L', hL⟩ : ∃ L', L' = Nat.lcm ts.length us.length := ⟨_, rfl⟩
    rw [← hL] at l1 hz1 ⊢
    refine ⟨_, rfl, (L' : Int), rfl, by omega, by omega, ?_⟩
    rw [Int.toNat_natCast]
    refine block_rel (Walk.rng 0 L') (by omega) rfl (fun _ => true) (fun D k y H' => TabAt H' y (ptab (ts.getD (k % ts.length) []) (us.getD (k % us.length) []))) (fun D k v ys H1 H2 fr hD h => h.frL fr hD) (fun k H3 Q' _ _ q' => q' _ (Same.refl _)) (fun D k ys H3 Q' hk' _ hD hD3 s3 q' => ?_) (fun D ys H3 hD s3 hDl pr => ?_)
    · have k1 : k % ts.length < ts.length := Nat.mod_lt _ t1
      have k2 : k % us.length < us.length := Nat.mod_lt _ t1'
      obtain ⟨tab, etab⟩ : ∃ tab, ts[k % ts.length]? = some tab := ⟨_, List.getElem?_eq_getElem k1⟩
      obtain ⟨tab', etab'⟩ : ∃ tab', us[k % us.length]? = some tab' := ⟨_, List.getElem?_eq_getElem k2⟩
      obtain ⟨x, ex, hx⟩ := paired_get pT _ _ etab
      obtain ⟨y, ey, hy⟩ := paired_get pU _ _ etab'
      have d1 : ts.getD (k % ts.length) [] = tab := by rw [List.getD_eq_getElem?_getD, etab]; rfl
      have d2 : us.getD (k % us.length) [] = tab' := by rw [List.getD_eq_getElem?_getD, etab']; rfl
      have mt := List.mem_of_getElem? etab
      have mt' := List.mem_of_getElem? etab'
      have ei : (0 + (k : Int)) % ((vts.length : Nat) : Int) = ((k % ts.length : Nat) : Int) := by rw [Int.zero_add, el]; rfl
      have ei' : (0 + (k : Int)) % ((vus.length : Nat) : Int) = ((k % us.length : Nat) : Int) := by rw [Int.zero_add, el']; rfl
      refine ⟨_, rfl, _, rfl, _, rfl, a1, vts, rfl, .inr (SqT.of (s3 _ _ ha1)), _, _, rfl, rfl, (by show (0 : Int) < (vts.length : Int); omega), a1, vts, _, x, rfl, rfl, SqT.of (s3 _ _ ha1), ?_, _, rfl, _, rfl, _, rfl, c1, vus, rfl, .inr (SqT.of (s3 _ _ hc1)), _, _, rfl, rfl, (by show (0 : Int) < (vus.length : Int); omega), c1, vus, _, y, rfl, rfl, SqT.of (s3 _ _ hc1), ?_, x, y, tab, tab', b.toNat, rfl, hx.same s3, hy.same s3, by have := ok.rows _ mt; omega, by have := ok'.rows _ mt'; omega, by omega, fun r hr => by have := ok.figs _ mt r hr; omega, fun r hr => by have := ok'.figs _ mt' r hr; omega, fun z H4 s4 hz => q' _ _ s4 ?_⟩
      · rw [ei]
        exact atI_nat ex
      · rw [ei']
        exact atI_nat ey
      · rw [d1, d2]
        exact hz
    · rw [List.filter_eq_self.mpr (fun _ _ => rfl)] at pr
      refine ⟨_, rfl, a0, _, 0, _, rfl, rfl, SqT.of (s3 _ _ ha0), rfl, _, rfl, D, ys, rfl, .inl ⟨SqL.of hDl, fun l hl => ⟨(by show 2 ≤ sizeLine; decide), fun l2 hl2 => ?_⟩⟩⟩
      have u4 := Same.new (o := HO.tup ys) hl
      have u5 := Same.new (o := HO.tup [V.int b, V.ref l]) hl2
      have s5 := s3.trans (u4.trans u5)
      refine qL hfit (.ref l2) _ (s1.trans s5) ⟨l2, _, rfl, upd_same, l, ys, rfl, u5 _ _ upd_same, ?_⟩
      have := paired_mapR (F := TabAt H3) (f := fun k => ptab (ts.getD (k % ts.length) []) (us.getD (k % us.length) [])) (fun _ _ h => h) pr
      rw [hL] at this
      exact paired_imp (fun _ _ x => x.same (u4.trans u5)) this
end
end My


set_option maxHeartbeats 2000000
namespace L2
open PySem PySem.Spec PyProof.Rows
section
variable {X : Cx} {o e : Expr} {to : TE} {t : TA} {apos cpos : Pos}
theorem pe_index (ho : PE X o to) (ha : PA X [e] t) (hbase : attributeBase o "index" X.env (eval o X.env) = eval o X.env := by rfl)
    (hfew : ((backTo cpos (starEach [e] X.env)).all (fun x => !x.1) && (backToKw cpos (keywordEach [] X.env)).all (fun x => x.1.isSome)
      && decide (([e] : List Expr).length + ([] : List Keyword).length + (if ([] : List Keyword).isEmpty then 0 else 1) < 30)) = true := by rfl)
    (hline : (apos.endLine == cpos.line) = true := by rfl) (hs : starEach [e] X.env = (false, eval e X.env) :: starEach [] X.env := by rfl) (hplain : (backTo cpos (starEach [] X.env)).any (·.1) = false := by rfl) :
    PE X (.Call (.Attribute o "index" apos) [e] [] cpos) (tBM X.K "list" (rIndex X.K) to t) := pe_bm PySem.F.plainAttrs_list PySem.F.slot_list_index PySem.F.type_list_index mt_index ho ha hbase hfew hline hs hplain
theorem pe_count (ho : PE X o to) (ha : PA X [e] t) (hbase : attributeBase o "count" X.env (eval o X.env) = eval o X.env := by rfl)
    (hfew : ((backTo cpos (starEach [e] X.env)).all (fun x => !x.1) && (backToKw cpos (keywordEach [] X.env)).all (fun x => x.1.isSome)
      && decide (([e] : List Expr).length + ([] : List Keyword).length + (if ([] : List Keyword).isEmpty then 0 else 1) < 30)) = true := by rfl)
    (hline : (apos.endLine == cpos.line) = true := by rfl) (hs : starEach [e] X.env = (false, eval e X.env) :: starEach [] X.env := by rfl) (hplain : (backTo cpos (starEach [] X.env)).any (·.1) = false := by rfl) :
    PE X (.Call (.Attribute o "count" apos) [e] [] cpos) (tBM X.K "list" (rCountL X.K) to t) := pe_bm PySem.F.plainAttrs_list PySem.F.slot_list_count PySem.F.type_list_count mt_count ho ha hbase hfew hline hs hplain
end
end L2


set_option maxHeartbeats 2000000
namespace My
open PySem L2 PyProof.Rows
section
variable {P : Program} {w : World} {K : PySem.W.Frag} {mg : Str → Option Value} {base : Heap}
noncomputable abbrev s__law_told : Stmt := top 42
theorem sc__law_told : FnScope ["scheme", "other", "e", "kinds"] ["scheme", "other"] (defScope s__law_told) := ⟨rfl, rfl, rfl, by decide +kernel, rfl, by decide +kernel, by decide +kernel⟩
theorem ok__law_told {f : Addr} {fd : FuncData} (F : Fun K "_law_told" "_law_told" s__law_told f fd) (B : Blt mg) (Ea : ErrsA K mg) (h_both : HasX P w K mg base "both" 7 ["scheme", "other"] (spBoth mg)) :
    FnOk P w K mg base CX0 9 f fd ["scheme", "other"] (spToldB mg) := by
  refine F.ok sc__law_told (fun vs H Q E h => ?_) (fun cdv A outer s H vs Q E hr h => ?_)
  · obtain ⟨_, _, _, _, _, _, rfl, _⟩ := h
    rfl
  · obtain ⟨v, u, ts, us, b, b', rfl, hv, ok, hu, ok', qO, qq⟩ := h
    have nd := sc__law_told.nd
    obtain ⟨S, c_NoScheme, c_OtherBase, c_NoRoom, c_NoKind, c_NoFigure, c_NoNote, m_SlipError, m_NoScheme, m_OtherBase, m_NoRoom, m_NoKind, m_NoFigure, m_NoNote, mVE, x_SlipError, _, e_OtherBase, e_NoRoom, _⟩ := Ea.at'
    refine ⟨_, (pss_one (ps_try (i := 2) (fun _ _ _ hp => (pss_one (ps_ret (pe_tup (pa_cons pe_int (pa_cons (pe_fnX h_both (hr.mono (by decide)) hp (pa_cons (pv 0) (pa_cons (pv 1) pa_nil))) pa_nil)))))) (fun _ _ => (pss_cons (ps_set (i := 3) nd rfl (Or.inl rfl) (pe_lst (pa_cons (pe_callB call_isexc rfl B.isi boot_isinstance (pa_cons (pv 2) (pa_cons (pe_glob (v := .ref c_NoScheme) rfl m_NoScheme rfl) pa_nil))) (pa_cons (pe_callB call_isexc rfl B.isi boot_isinstance (pa_cons (pv 2) (pa_cons (pe_glob (v := .ref c_OtherBase) rfl m_OtherBase rfl) pa_nil))) (pa_cons (pe_callB call_isexc rfl B.isi boot_isinstance (pa_cons (pv 2) (pa_cons (pe_glob (v := .ref c_NoRoom) rfl m_NoRoom rfl) pa_nil))) (pa_cons (pe_callB call_isexc rfl B.isi boot_isinstance (pa_cons (pv 2) (pa_cons (pe_glob (v := .ref c_NoKind) rfl m_NoKind rfl) pa_nil))) pa_nil))))))
      (pss_cons (ps_set (i := 3) nd rfl (Or.inl rfl) (pe_op op_cat (pv 3) (pe_lst (pa_cons (pe_callB call_isexc rfl B.isi boot_isinstance (pa_cons (pv 2) (pa_cons (pe_glob (v := .ref c_NoFigure) rfl m_NoFigure rfl) pa_nil))) (pa_cons (pe_callB call_isexc rfl B.isi boot_isinstance (pa_cons (pv 2) (pa_cons (pe_glob (v := .ref c_NoNote) rfl m_NoNote rfl) pa_nil))) pa_nil)))))
      (pss_cons (ps_if (PW.pt (pw_or (pt_cmpR op_ne (pe_count (pv 3) (pa_cons pe_bl pa_nil)) pe_int (nomark _)) (pw_or1 (pt_not (pt_val (pe_callB call_isexc rfl B.isi boot_isinstance (pa_cons (pv 2) (pa_cons (pe_ty mVE PyProof.Rows.Boot.«ValueError») pa_nil)))))))) (pss_one (ps_ret (pe_tup (pa_cons pe_int (pa_cons pe_non pa_nil))))) pss_nil)
      (pss_one (ps_ret (pe_tup (pa_cons (pe_op op_add pe_int (pe_index (pv 3) (pa_cons pe_bl pa_nil))) (pa_cons pe_non pa_nil))))))))) rfl rfl rfl nd rfl rfl rfl m_SlipError x_SlipError)), ?_⟩
    refine ⟨_, rfl, _, rfl, v, u, ts, us, b, b', rfl, hv, ok, hu, ok', fun nb C' H1 mC s1 => ?_, fun eb => ⟨fun nf C' H1 mC s1 => ?_, fun hf x H1 s1 hx => ⟨(by show 2 ≤ sizeLine; decide), fun l hl => ?_⟩⟩⟩
    · have eC : C' = c_OtherBase := by rw [m_OtherBase] at mC; cases mC; rfl
      subst eC
      refine ⟨C', _, rfl, e_OtherBase.exc, e_OtherBase.has, fun pn a ha => ?_⟩
      obtain ⟨k1, kk⟩ := kitRow_cons e_OtherBase.kit
      obtain ⟨k2, kk⟩ := kitRow_cons kk
      obtain ⟨k3, kk⟩ := kitRow_cons kk
      obtain ⟨k4, kk⟩ := kitRow_cons kk
      obtain ⟨k5, kk⟩ := kitRow_cons kk
      obtain ⟨k6, kk⟩ := kitRow_cons kk
      clear kk
      have xI := e_OtherBase.is
      have s2 := s1.trans (Same.new (o := HO.ext (excφ a C')) ha)
      have ga : ∀ {H2 : Hp}, Same (upd H1 a (.ext (excφ a C'))) H2 → H2 a = some (.ext (excφ a C')) := fun z => z _ _ upd_same
      refine ⟨_, rfl, a, C', _, false, rfl, ga (Same.refl _), xI, (fun u hu => by cases hu; exact k1), _, rfl, a, C', _, true, rfl, ga (Same.refl _), xI, (fun u hu => by cases hu; exact k2), _, rfl, a, C', _, false, rfl, ga (Same.refl _), xI, (fun u hu => by cases hu; exact k3), _, rfl, a, C', _, false, rfl, ga (Same.refl _), xI, (fun u hu => by cases hu; exact k4), (by show 4 ≤ sizeLine; decide), fun l hl => ?_⟩
      have t1 := Same.new (o := HO.lst [V.bl false, V.bl true, V.bl false, V.bl false]) hl
      refine ⟨_, rfl, _, rfl, a, C', _, false, rfl, ga t1, xI, (fun u hu => by cases hu; exact k5), _, rfl, a, C', _, false, rfl, ga t1, xI, (fun u hu => by cases hu; exact k6), (by show 2 ≤ sizeLine; decide), fun l2 hl2 => ?_⟩
      have t2 := Same.new (o := HO.lst [V.bl false, V.bl false]) hl2
      refine ⟨l, l2, _, _, rfl, rfl, t2 _ _ upd_same, upd_same, (by show 6 ≤ sizeLine; decide), fun R hR => ?_⟩
      have t3 := Same.new (o := HO.lst ([V.bl false, V.bl true, V.bl false, V.bl false] ++ [V.bl false, V.bl false])) hR
      refine ⟨_, rfl, .inl ⟨rfl, _, SqL.of upd_same⟩, R, _, V.bl true, rfl, rfl, SqL.of upd_same, rfl, rfl, rfl, _, rfl, iteF ?_⟩
      refine ⟨_, rfl, a, C', _, true, rfl, ga ((t1.trans t2).trans t3), xI, (fun u hu => by cases hu; exact e_OtherBase.ve), _, rfl, iteF ?_⟩
      refine ⟨_, rfl, .inl ⟨rfl, _, SqL.of upd_same⟩, R, _, V.bl true, 1, V.bl true, rfl, rfl, SqL.of upd_same, rfl, rfl, rfl, rfl, (fun i z h e => ?_), _, _, rfl, rfl, (by show 2 ≤ sizeLine; decide), fun l3 hl3 => ?_⟩
      · match i, h, e with
        | 0, _, e => cases e; rfl
      exact qO nb l3 _ ((((s2.trans t1).trans t2).trans t3).trans (Same.new hl3)) upd_same
    · have eC : C' = c_NoRoom := by rw [m_NoRoom] at mC; cases mC; rfl
      subst eC
      refine ⟨C', _, rfl, e_NoRoom.exc, e_NoRoom.has, fun pn a ha => ?_⟩
      obtain ⟨k1, kk⟩ := kitRow_cons e_NoRoom.kit
      obtain ⟨k2, kk⟩ := kitRow_cons kk
      obtain ⟨k3, kk⟩ := kitRow_cons kk
      obtain ⟨k4, kk⟩ := kitRow_cons kk
      obtain ⟨k5, kk⟩ := kitRow_cons kk
      obtain ⟨k6, kk⟩ := kitRow_cons kk
      clear kk
      have xI := e_NoRoom.is
      have s2 := s1.trans (Same.new (o := HO.ext (excφ a C')) ha)
      have ga : ∀ {H2 : Hp}, Same (upd H1 a (.ext (excφ a C'))) H2 → H2 a = some (.ext (excφ a C')) := fun z => z _ _ upd_same
      refine ⟨_, rfl, a, C', _, false, rfl, ga (Same.refl _), xI, (fun u hu => by cases hu; exact k1), _, rfl, a, C', _, false, rfl, ga (Same.refl _), xI, (fun u hu => by cases hu; exact k2), _, rfl, a, C', _, true, rfl, ga (Same.refl _), xI, (fun u hu => by cases hu; exact k3), _, rfl, a, C', _, false, rfl, ga (Same.refl _), xI, (fun u hu => by cases hu; exact k4), (by show 4 ≤ sizeLine; decide), fun l hl => ?_⟩
      have t1 := Same.new (o := HO.lst [V.bl false, V.bl false, V.bl true, V.bl false]) hl
      refine ⟨_, rfl, _, rfl, a, C', _, false, rfl, ga t1, xI, (fun u hu => by cases hu; exact k5), _, rfl, a, C', _, false, rfl, ga t1, xI, (fun u hu => by cases hu; exact k6), (by show 2 ≤ sizeLine; decide), fun l2 hl2 => ?_⟩
      have t2 := Same.new (o := HO.lst [V.bl false, V.bl false]) hl2
      refine ⟨l, l2, _, _, rfl, rfl, t2 _ _ upd_same, upd_same, (by show 6 ≤ sizeLine; decide), fun R hR => ?_⟩
      have t3 := Same.new (o := HO.lst ([V.bl false, V.bl false, V.bl true, V.bl false] ++ [V.bl false, V.bl false])) hR
      refine ⟨_, rfl, .inl ⟨rfl, _, SqL.of upd_same⟩, R, _, V.bl true, rfl, rfl, SqL.of upd_same, rfl, rfl, rfl, _, rfl, iteF ?_⟩
      refine ⟨_, rfl, a, C', _, true, rfl, ga ((t1.trans t2).trans t3), xI, (fun u hu => by cases hu; exact e_NoRoom.ve), _, rfl, iteF ?_⟩
      refine ⟨_, rfl, .inl ⟨rfl, _, SqL.of upd_same⟩, R, _, V.bl true, 2, V.bl true, rfl, rfl, SqL.of upd_same, rfl, rfl, rfl, rfl, (fun i z h e => ?_), _, _, rfl, rfl, (by show 2 ≤ sizeLine; decide), fun l3 hl3 => ?_⟩
      · match i, h, e with
        | 0, _, e => cases e; rfl
        | 1, _, e => cases e; rfl
      exact (qq eb).1 nf l3 _ ((((s2.trans t1).trans t2).trans t3).trans (Same.new hl3)) upd_same
    · exact (qq eb).2 hf l x _ (s1.trans (Same.new hl)) upd_same (hx.same (Same.new hl))
end
end My


set_option maxHeartbeats 4000000
namespace My
open PySem L2 PyProof.Rows
noncomputable def spLawT (K : PySem.W.Frag) (Pt : Addr) (qs : List (Pos × Str)) : Sp := fun vs H Q _ => ∃ (a : Addr) (ns : List Int), vs = [.ref a] ∧ SqL K H a (ns.map V.int) ∧ ns.length ≤ 63 ∧ TabSt H Pt qs ∧ ∀ H', Q (.bl true) H'
theorem pickM {H : Hp} {t1 t2 t3 : Addr} {c : Int} (k1 : H t1 = some (.tup [V.int 5, V.int 5, V.int 3])) (k2 : H t2 = some (.tup [V.int 4, V.int 3, V.int 6])) (k3 : H t3 = some (.tup [V.int 10, V.int 4, V.int 3])) :
    ∃ m m0 m1 m2, atI [V.ref t1, V.ref t2, V.ref t3] (c % 3) = some (V.ref m) ∧ H m = some (.tup [.int m0, .int m1, .int m2]) ∧ 2 ≤ m0 ∧ m0 ≤ 10 ∧ 1 ≤ m1 ∧ m1 ≤ 12 ∧ 1 ≤ m2 ∧ m2 ≤ 6 := by
  have : c % 3 = 0 ∨ c % 3 = 1 ∨ c % 3 = 2 := by omega
  rcases this with e | e | e <;> rw [e]
  · exact ⟨t1, 5, 5, 3, rfl, k1, by omega, by omega, by omega, by omega, by omega, by omega⟩
  · exact ⟨t2, 4, 3, 6, rfl, k2, by omega, by omega, by omega, by omega, by omega, by omega⟩
  · exact ⟨t3, 10, 4, 3, rfl, k3, by omega, by omega, by omega, by omega, by omega, by omega⟩
theorem pe_tup3m {X : Cx} {i j k : Int} {n1 n2 n3 n4 : Nat} {p1 p2 p3 p4 : Pos} : PE X (.Tuple [.Constant (.int i) n1 p1, .Constant (.int j) n2 p2, .Constant (.int k) n3 p3] n4 p4) (tTup (tCons (tC (.int i)) (tCons (tC (.int j)) (tCons (tC (.int k)) tNil)))) := pe_tup (pa_cons pe_int (pa_cons pe_int (pa_cons pe_int pa_nil)))
theorem star_tupM {env : Env} {xs es : List Expr} {n : Nat} {p : Pos} : starEach (.Tuple xs n p :: es) env = (false, eval (.Tuple xs n p) env) :: starEach es env := rfl

theorem ps_pickM {X : Cx} {st : Stmt} {i : Nat} {x : Str} {x1 x2 x3 : List Expr} {n1 n2 n3 : Nat} {p1 p2 p3 : Pos} {b : Expr} {t1 t2 t3 tb : TE} {pos pos' p q : Pos}
    (hst : st = .Assign [.Name x pos'] (.Subscript (.List [.Tuple x1 n1 p1, .Tuple x2 n2 p2, .Tuple x3 n3 p3] p) b q) pos) (hN : X.N.Nodup) (hi : X.N[i]? = some x) (hx : Loc X.env.scope x)
    (h1 : PE X (.Tuple x1 n1 p1) t1) (h2 : PE X (.Tuple x2 n2 p2) t2) (h3 : PE X (.Tuple x3 n3 p3) t3) (hb : PE X b tb) (hp : PlainIx b)
    (hf : X.fn x = true ∨ X.env.scope.names.lookup x = some .local := by first | exact .inl rfl | exact .inr rfl | assumption) :
    PS X st (tAsg (tOp (rIxL X.K) (tLst (tCons t1 (tCons t2 (tCons t3 tNil)))) tb) (gName i)) := by
  subst hst
  exact ps_set hN hi hx (pe_ix ix_list (pe_lst (pa_cons h1 (pa_cons h2 (pa_cons h3 pa_nil star_tupM) star_tupM) star_tupM)) hb hp) rfl hf
theorem pss_eqM {X : Cx} {ss rs : List Stmt} {t : TS} (h : ss = rs) (p : PSs X rs t) : PSs X ss t := h ▸ p
theorem pickV {R : V → Hp → Prop} {p : V → Hp → Prop} {G : Prop} (a : (∀ v H', p v H' → R v H') → G) (b : ∀ v H', p v H' → R v H') : G := a b
theorem cut_takeB (xs : List V) (k : Nat) : cutV xs none (some (k : Int)) = xs.take k := by
  unfold cutV
  rw [HT.sIx_none, HT.sIx_nat, List.drop_zero, Nat.sub_zero]
  by_cases h : k ≤ xs.length
  · rw [Nat.min_eq_left h]
  · rw [Nat.min_eq_right (by omega), List.take_of_length_le (Nat.le_refl _), List.take_of_length_le (by omega)]
theorem iteF' {c : Bool} {A B : Prop} (h : c = false) (b : B) : if c = true then A else B := by
  rw [h]
  exact b
theorem iteT' {c : Bool} {A B : Prop} (h : c = true) (b : A) : if c = true then A else B := by
  rw [h]
  exact b

theorem Fits.symm {ts us : List Tab} (h : Fits ts us) : Fits us ts := ⟨by rw [Nat.lcm_comm]; exact h.1, by rw [Nat.mul_comm]; exact h.2⟩
theorem both_alike {b : Int} {ts us : List Tab} (o : Ok b ts) (o' : Ok b us) (fs : List Int) (hf : figsIn b fs) : ¬ Dst (bothT ts us) (bothT us ts) fs := fun h => h (by
  rw [good_both o o' fs hf, good_both o' o fs hf]
  exact And.comm)
section
variable {P : Program} {w : World} {K : PySem.W.Frag} {mg : Str → Option Value} {base : Heap}
variable {Pt : Addr}
theorem sc_law : FnScope ["script", "most", "scheme", "more", "other", "found", "states", "turns", "told", "table", "figures", "k", "first"] ["script"] (defScope sLaw) := ⟨rfl, rfl, rfl, by decide +kernel, rfl, by decide +kernel, by decide +kernel⟩
theorem ok_law {f : Addr} {fd : FuncData} (F : Fun K "law" "law" sLaw f fd) (B : Blt mg)  (h__law_cell_at : Has P w K mg base "_law_cell_at" 1 ["script", "k"] (spCell K)) (h__law_scheme : Has P w K mg base "_law_scheme" 3 ["script", "at", "most"] (spScheme K)) (h__law_figures : Has P w K mg base "_law_figures" 2 ["script", "at", "base", "most"] (spFigures K)) (h__law_read : Has P w K mg base "_law_read" 1 ["scheme", "turn", "state", "figures"] (spRead K)) (h__law_told : Has P w K mg base "_law_told" 9 ["scheme", "other"] (spToldB mg)) (h__law_turns : Has P w K mg base "_law_turns" 1 ["one", "two"] spLTurns) (h_parted : HasX P w K mg base "parted" 8 ["scheme", "other"] (spParted Pt qsP mg)) (h_both : HasX P w K mg base "both" 7 ["scheme", "other"] (spBoth mg)) (h_good : Has P w K mg base "good" 8 ["scheme", "figures"] (spGood K)) :
    FnOk P w K mg base CX0 10 f fd ["script"] (spLawT K Pt qsP) := by
  refine F.ok sc_law (fun vs H Q E h => ?_) (fun cdv A outer s H vs Q E hr h => ?_)
  · obtain ⟨_, _, rfl, _⟩ := h
    rfl
  · obtain ⟨a, ns, rfl, hSq, hlen, T, q⟩ := h
    have nd := sc_law.nd
    have hu := hr.units
    obtain ⟨ss, hss⟩ : ∃ ss, ss = defBody sLaw := ⟨_, rfl⟩
    rw [← hss]
    obtain ⟨s0, hs0⟩ : ∃ s0, s0 = (defBody sLaw).getD 0 (.Pass ⟨0, 0, 0, 0⟩) := ⟨_, rfl⟩
    obtain ⟨rs, hrs⟩ : ∃ rs, rs = (defBody sLaw).drop 1 := ⟨_, rfl⟩
    have hss' : ss = s0 :: rs := by rw [hss, hs0, hrs]; rfl
    rw [hss']
    refine' ⟨_, pss_cons (ps_pickM (i := 1) hs0 nd rfl (Or.inl rfl) ?a ?b ?c ?e ?f) (pss_eqM hrs (pss_cons (ps_set (i := 2) nd rfl (Or.inr rfl) (pe_fn h__law_scheme (hr.mono (by decide)) (pa_cons (pv 0) (pa_cons pe_int (pa_cons (pv 1) pa_nil)))))
      (pss_cons (ps_setC (i := 3) (N := ["k", "script"]) (js := [none, some 0]) nd rfl rfl rfl rfl (pi_range2 rfl B.range (pa_cons pe_int (pa_cons pe_int pa_nil))) (fun _ _ _ _ => (pg_name (i := 0) (ndOf (N := ["k", "script"]) (by decide +kernel)) rfl (Or.inl rfl))) (fun _ _ _ _ => pts_nil) (fun _ _ _ _ => (pe_fn h__law_cell_at (hr.mono (by decide)) (pa_cons (pv 1) (pa_cons (pv 0) pa_nil)))))
      (pss_cons (ps_if (pt_cmpR op_gt (pe_op op_mod (pe_fn h__law_cell_at (hr.mono (by decide)) (pa_cons (pv 0) (pa_cons pe_int pa_nil))) pe_int) pe_int (nomark _)) (pss_one (ps_asg (pe_op op_sub (pe_op op_add (pe_op op_mul (pe_op op_fdiv (pe_ix ix_list (pv 3) pe_int (fun _ _ => rfl)) pe_int) pe_int) (pe_ix ix_tup (pv 2) pe_int (fun _ _ => rfl))) pe_int) (pg_sub (pv 3) pe_int set_list))) pss_nil)
      (pss_cons (ps_set (i := 4) nd rfl (Or.inl rfl) (pe_fn h__law_scheme (hr.mono (by decide)) (pa_cons (pv 3) (pa_cons pe_int (pa_cons (pv 1) pa_nil)))))
      (pss_cons (ps_set (i := 5) nd rfl (Or.inl rfl) (pe_fn h__law_told (hr.mono (by decide)) (pa_cons (pv 2) (pa_cons (pv 4) pa_nil))))
      (pss_cons (ps_if (pt_cmpR op_ne (pe_ix ix_tup (pv 2) pe_int (fun _ _ => rfl)) (pe_ix ix_tup (pv 4) pe_int (fun _ _ => rfl)) (nomark _)) (pss_one (ps_ret (pe_cmpR op_eq (pe_ix ix_tup (pv 5) pe_int (fun _ _ => rfl)) pe_int (nomark _)))) pss_nil)
      (pss_cons (ps_set (i := 6) nd rfl (Or.inr rfl) (pe_op op_mul (pe_callB call_len_seq rfl B.len PySem.boot_len (pa_cons (pe_ix ix_tup (pe_ix ix_tup (pv 2) pe_int (fun _ _ => rfl)) pe_int (fun _ _ => rfl)) pa_nil)) (pe_callB call_len_seq rfl B.len PySem.boot_len (pa_cons (pe_ix ix_tup (pe_ix ix_tup (pv 4) pe_int (fun _ _ => rfl)) pe_int (fun _ _ => rfl)) pa_nil))))
      (pss_cons (ps_set (i := 7) nd rfl (Or.inl rfl) (pe_fn h__law_turns (hr.mono (by decide)) (pa_cons (pe_callB call_len_seq rfl B.len PySem.boot_len (pa_cons (pe_ix ix_tup (pv 2) pe_int (fun _ _ => rfl)) pa_nil)) (pa_cons (pe_callB call_len_seq rfl B.len PySem.boot_len (pa_cons (pe_ix ix_tup (pv 4) pe_int (fun _ _ => rfl)) pa_nil)) pa_nil))))
      (pss_cons (ps_if (PW.pt (pw_or (pt_cmpR op_gt (pv 6) pe_int (nomark _)) (pw_or1 (pt_cmpR op_gt (pv 7) pe_int (nomark _))))) (pss_one (ps_ret (pe_cmpR op_eq (pe_ix ix_tup (pv 5) pe_int (fun _ _ => rfl)) pe_int (nomark _)))) pss_nil)
      (pss_cons (ps_set (i := 8) nd rfl (Or.inl rfl) (pe_ix ix_tup (pv 5) pe_int (fun _ _ => rfl)))
      (pss_cons (ps_if (PW.pt (pw_or (pt_cmpR op_ne (pe_ix ix_tup (pv 5) pe_int (fun _ _ => rfl)) pe_int (nomark _)) (pw_or (pt_not (pt_val (pe_callB call_isinst rfl B.isi boot_isinstance (pa_cons (pv 8) (pa_cons (pe_ty B.tTuple boot_tuple) pa_nil))))) (pw_or (pt_not (pt_val (pe_callB call_isinst rfl B.isi boot_isinstance (pa_cons (pe_ix ix_tup (pv 8) pe_int (fun _ _ => rfl)) (pa_cons (pe_ty B.tTuple boot_tuple) pa_nil))))) (pw_or1 (pt_cmpR op_ne (pe_callB call_len_seq rfl B.len PySem.boot_len (pa_cons (pe_ix ix_tup (pv 8) pe_int (fun _ _ => rfl)) pa_nil)) (pv 7) (nomark _))))))) (pss_one (ps_ret pe_bl)) pss_nil)
      (pss_cons (ps_if (pt_cmpR op_ne (pe_ix ix_tup (pv 8) pe_int (fun _ _ => rfl)) (pe_ix ix_tup (pv 2) pe_int (fun _ _ => rfl)) (nomark _)) (pss_one (ps_ret pe_bl)) pss_nil)
      (pss_cons (ps_if (pt_cmpR op_gt (pe_callB call_len_seq rfl B.len PySem.boot_len (pa_cons (pe_comp (N := ["table", "states"]) (js := [none, some 6]) rfl rfl (pi_tup (pe_ix ix_tup (pv 8) pe_int (fun _ _ => rfl))) (fun _ _ _ _ => (pg_name (i := 0) (ndOf (N := ["table", "states"]) (by decide +kernel)) rfl (Or.inl rfl))) (fun _ _ _ _ => (pts_one (PW.pt (pw_or (pt_not (pt_val (pe_callB (call_isinstK K) rfl B.isi boot_isinstance (pa_cons (pv 0) (pa_cons (pe_ty B.tTuple boot_tuple) pa_nil))))) (pw_or1 (pt_cmpR op_ne (pe_callB (call_lenK K) rfl B.len PySem.boot_len (pa_cons (pv 0) pa_nil)) (pv 1) (nomark _))))))) (fun _ _ _ _ => (pv 0))) pa_nil)) pe_int (nomark _)) (pss_one (ps_ret pe_bl)) pss_nil)
      (pss_cons (ps_for PassesOwn.never rfl (pi_tup (pe_ix ix_tup (pv 8) pe_int (fun _ _ => rfl))) (pg_name (i := 9) nd rfl (Or.inl rfl)) (pss_one (ps_if (pt_cmpR op_gt (pe_callB call_len_seq rfl B.len PySem.boot_len (pa_cons (pe_comp (N := ["row", "scheme"]) (js := [none, some 2]) rfl rfl (pi_tup (pv 9)) (fun _ _ _ _ => (pg_name (i := 0) (ndOf (N := ["row", "scheme"]) (by decide +kernel)) rfl (Or.inl rfl))) (fun _ _ _ _ => (pts_one (PW.pt (pw_or (pt_not (pt_val (pe_callB (call_isinstK K) rfl B.isi boot_isinstance (pa_cons (pv 0) (pa_cons (pe_ty B.tTuple boot_tuple) pa_nil))))) (pw_or1 (pt_cmpR op_ne (pe_callB (call_lenK K) rfl B.len PySem.boot_len (pa_cons (pv 0) pa_nil)) (pe_ix (ix_tupK K) (pv 1) pe_int (fun _ _ => rfl)) (nomark _))))))) (fun _ _ _ _ => (pv 0))) pa_nil)) pe_int (nomark _)) (pss_one (ps_ret pe_bl)) pss_nil)))
      (pss_cons (ps_if (pt_cmpR op_notN (pe_fnX h_parted (hr.mono (by decide)) pass0X (pa_cons (pv 8) (pa_cons (pe_fnX h_both (hr.mono (by decide)) pass0X (pa_cons (pv 4) (pa_cons (pv 2) pa_nil))) pa_nil))) pe_non (nomark _)) (pss_one (ps_ret pe_bl)) pss_nil)
      (pss_cons (ps_set (i := 10) nd rfl (Or.inl rfl) (pe_fn h__law_figures (hr.mono (by decide)) (pa_cons (pv 0) (pa_cons pe_int (pa_cons (pe_ix ix_tup (pv 2) pe_int (fun _ _ => rfl)) (pa_cons pe_int pa_nil))))))
      (pss_cons (ps_for PassesOwn.never rfl (pi_range1 rfl B.range (pa_cons (pe_op op_add (pe_callB call_len_seq rfl B.len PySem.boot_len (pa_cons (pv 10) pa_nil)) pe_int) pa_nil)) (pg_name (i := 11) nd rfl (Or.inl rfl)) (pss_cons (ps_set (i := 12) nd rfl (Or.inl rfl) (pe_cmpR op_eq (pe_fn h__law_read (hr.mono (by decide)) (pa_cons (pv 2) (pa_cons pe_int (pa_cons pe_int (pa_cons (pe_slice sl_list (pv 10) po_none (po_some (pv 11))) pa_nil))))) pe_int (nomark _)))
      (pss_one (ps_if (pt_cmpR op_ne (pe_fn h_good (hr.mono (by decide)) (pa_cons (pv 8) (pa_cons (pe_slice sl_list (pv 10) po_none (po_some (pv 11))) pa_nil))) (pe_and (pv 12) (pe_one (pe_cmpR op_eq (pe_fn h__law_read (hr.mono (by decide)) (pa_cons (pv 4) (pa_cons pe_int (pa_cons pe_int (pa_cons (pe_slice sl_list (pv 10) po_none (po_some (pv 11))) pa_nil))))) pe_int (nomark _)))) (nomark _)) (pss_one (ps_ret pe_bl)) pss_nil))))
      (pss_one (ps_ret pe_bl)))))))))))))))))))), ?go⟩
    case a => exact pe_tup3m
    case b => exact pe_tup3m
    case c => exact pe_tup3m
    case e => exact (pe_op op_mod (pe_op op_fdiv (pe_fn h__law_cell_at (hr.mono (by decide)) (pa_cons (pv 0) (pa_cons pe_int pa_nil))) pe_int) pe_int)
    case f => exact (fun _ _ => rfl)
    clear hss' hrs hs0 hss
    refine sealE fun E0 hN0 hR0 => ?_
    refine cut1 fun T1 hT1 => ?_
    refine ⟨(by show 3 ≤ sizeLine; decide), fun t1 ht1 => ⟨(by show 3 ≤ sizeLine; decide), fun t2 ht2 => ⟨(by show 3 ≤ sizeLine; decide), fun t3 ht3 => ⟨(by show 3 ≤ sizeLine; decide), fun l hl => ?_⟩⟩⟩⟩
    have u1 := Same.new (o := HO.tup [V.int 5, V.int 5, V.int 3]) ht1
    have u2 := Same.new (o := HO.tup [V.int 4, V.int 3, V.int 6]) ht2
    have u3 := Same.new (o := HO.tup [V.int 10, V.int 4, V.int 3]) ht3
    have u5 := Same.new (o := HO.lst [V.ref t1, V.ref t2, V.ref t3]) hl
    have k3 := u5 _ _ ((upd_same (H := _) (a := t3) (o := .tup [V.int 10, V.int 4, V.int 3])))
    have k2 := u5 _ _ ((u3 _ _ (upd_same (H := _) (a := t2) (o := .tup [V.int 4, V.int 3, V.int 6]))))
    have k1 := u5 _ _ ((u3 _ _ (u2 _ _ (upd_same (H := _) (a := t1) (o := .tup [V.int 5, V.int 5, V.int 3])))))
    have s0 : Same H _ := (((u1.trans u2).trans u3).trans u5)
    refine ⟨_, rfl, a, ns, 8, rfl, s0.seq hSq, by omega, _, _, rfl, rfl, ⟨by decide, by decide⟩, _, _, rfl, rfl, (by show (0 : Int) < 3; decide), ?_⟩
    obtain ⟨m, m0, m1, m2, hm, hmt, g1, g2, g3, g4, g5, g6⟩ := pickM (c := cel ns 8 / 6) k1 k2 k3
    refine ⟨l, _, _, V.ref m, rfl, rfl, SqL.of upd_same, hm, hT1 _ _ ?_⟩
    clear hT1
    -- scheme
    refine cut1 fun T2 hT2 => ?_
    refine ⟨_, rfl, _, rfl, a, m, ns, 0, m0, m1, m2, rfl, s0.seq hSq, by omega, hmt, g1, g2, g3, g4, g5, g6, fun v b ts H1 s1 hSch ok _ _ _ => hT2 _ _ ?_⟩
    clear hT2
    have s01 : Same H H1 := s0.trans s1
    have hm1 := s1 _ _ hmt
    clear s0 k1 k2 k3 u1 u2 u3 u5 hmt hm s1 hl ht1 ht2 ht3
    obtain ⟨a0, vT, rfl, ha0, a1, vts, rfl, ha1, pT⟩ := id hSch
    have b1 := ok.b1
    have b2 := ok.b2
    have n1 := ok.n1
    have ht1 := ok.t1
    have hvl := paired_length pT
    have e0 : ts[0]? = some (ts.headD []) := by
      cases ts with
      | nil => simp at ht1
      | cons t r => rfl
    obtain ⟨x0, ex0, ⟨a2, vrs, rfl, ha2, pR⟩⟩ := paired_get pT 0 _ e0
    have hn0 : vrs.length = nst ts := paired_length pR
    -- more
    refine cut2 fun T3 hT3 => ?_
    refine ⟨4, 8, rfl, ⟨by omega, by omega, by omega, by omega⟩, ?_⟩
    refine block_map (Walk.rng 4 4) (by omega) rfl (fun k => .int (cel ns (4 + (k : Int)))) (fun k H2 Q' hk s2 q' => ?_) (fun W H2 hW s2 hWl => ?_)
    · exact ⟨_, rfl, _, rfl, a, ns, 4 + (k : Int), rfl, (s01.trans s2).seq hSq, by omega, q' _ (Same.refl _)⟩
    obtain ⟨ms, ems, hml⟩ : ∃ ms : List Int, (List.range 4).map (fun k : Nat => V.int (cel ns (4 + (k : Int)))) = ms.map V.int ∧ ms.length = 4 := ⟨(List.range 4).map fun k : Nat => cel ns (4 + (k : Int)), by rw [List.map_map]; rfl, by rw [List.length_map, List.length_range]⟩
    rw [ems] at hWl
    clear ems
    have s02 := s01.trans s2
    refine pickV (p := fun v H' => v = .ref W ∧ Same H1 H' ∧ ∃ ms : List Int, H' W = some (.lst (ms.map V.int))) (R := fun v H' => T3 E0 [some (.ref a), some (.ref m), some (.ref a0), some v, none, none, none, none, none, none, none, none, none] H') (fun gT3 => ?_) ?_
    · refine ⟨_, rfl, a, ns, 8, rfl, s02.seq hSq, by omega, _, _, rfl, rfl, (by show (0 : Int) < 6; decide), _, _, rfl, rfl, _, rfl, ite2 (fun _ => ?_) (fun _ => gT3 (.ref W) _ ⟨rfl, s2, ms, hWl⟩)⟩
      obtain ⟨x0, x1, x2, x3, rfl⟩ : ∃ x0 x1 x2 x3, ms = [x0, x1, x2, x3] := by
        match ms, hml with
        | [x0, x1, x2, x3], _ => exact ⟨_, _, _, _, rfl⟩
      refine ⟨_, rfl, W, _, 0, _, rfl, rfl, SqL.of hWl, rfl, _, _, rfl, rfl, ⟨by decide, by decide⟩, _, _, rfl, rfl, .inr ⟨by decide, by decide⟩, _, rfl, a0, _, 0, _, rfl, rfl, SqT.of (s2 _ _ ha0), rfl, _, _, rfl, rfl, _, _, rfl, rfl, _, rfl, W, _, 0, 0, rfl, rfl, hWl, rfl, gT3 (.ref W) _ ⟨rfl, s2.put hW, [x0 / 9 * 9 + b - 2, x1, x2, x3], upd_same⟩⟩
    rintro _ H3 ⟨rfl, s3, ms', hW3⟩
    refine hT3 _ _ ?_
    clear hT3 hWl s2 s02
    have s03 := s01.trans s3
    -- other
    refine cut1 fun T4 hT4 => ?_
    refine ⟨_, rfl, _, rfl, W, m, ms', 0, m0, m1, m2, rfl, SqL.of hW3, by omega, s3 _ _ hm1, g1, g2, g3, g4, g5, g6, fun v' b' us H4 s4 hO okO _ _ _ => hT4 _ _ ?_⟩
    clear hT4
    have s14 := s3.trans s4
    have s04 := s01.trans s14
    have hS4 := hSch.same s14
    have ha04 := s14 _ _ ha0
    have ha14 := s14 _ _ ha1
    have ha24 := s14 _ _ ha2
    clear hW3 s3 s03 s4 hSch ha0 ha1 ha2
    have ht1' := okO.t1
    have n1' := okO.n1
    obtain ⟨c0, vU, rfl, hc0, c1, vus, rfl, hc1, pU⟩ := id hO
    have hvl' := paired_length pU
    have e0' : us[0]? = some (us.headD []) := by
      cases us with
      | nil => simp at ht1'
      | cons t r => rfl
    obtain ⟨y0, ey0, ⟨c2, vru, rfl, hc2, pR'⟩⟩ := paired_get pU 0 _ e0'
    have hn0' : vru.length = nst us := paired_length pR'
    have nn := ok.n2
    have nn' := okO.n2
    have tt := ok.t2
    have tt' := okO.t2
    -- told
    refine cut1 fun T5 hT5 => ?_
    refine ⟨_, rfl, _, rfl, .ref a0, .ref c0, ts, us, b, b', rfl, hS4, ok, hO, okO, fun nb fd H5 s5 hfd => hT5 _ _ ?_, fun eb => ?_⟩
    · refine ⟨_, rfl, a0, _, 0, _, rfl, rfl, SqT.of (s5 _ _ ha04), rfl, _, rfl, c0, _, 0, _, rfl, rfl, SqT.of (s5 _ _ hc0), rfl, rfl, _, rfl, iteT' (by simpa using nb) ?_⟩
      exact ⟨_, rfl, fd, _, 0, _, rfl, rfl, SqT.of hfd, rfl, rfl, hR0 _ _ (q H5)⟩
    subst eb
    refine ⟨fun nf fd H5 s5 hfd => hT5 _ _ ?_, fun hf fd x H5 s5 hfd hx => hT5 _ _ ?_⟩
    · have ha05 := s5 _ _ ha04
      have hc05 := s5 _ _ hc0
      refine ⟨_, rfl, a0, _, 0, _, rfl, rfl, SqT.of ha05, rfl, _, rfl, c0, _, 0, _, rfl, rfl, SqT.of hc05, rfl, rfl, _, rfl, iteF' (by simp) ?_⟩
      refine ⟨_, rfl, a0, _, 1, _, rfl, rfl, SqT.of ha05, rfl, a1, _, 0, _, rfl, rfl, SqT.of (s5 _ _ ha14), atI_nat ex0, a2, vrs, rfl, .inr (SqT.of (s5 _ _ ha24)), _, rfl, c0, _, 1, _, rfl, rfl, SqT.of hc05, rfl, c1, _, 0, _, rfl, rfl, SqT.of (s5 _ _ hc1), atI_nat ey0, c2, vru, rfl, .inr (SqT.of (s5 _ _ hc2)), _, _, rfl, rfl, .inr ⟨by omega, by omega⟩, ?_⟩
      refine ⟨_, rfl, a0, _, 1, _, rfl, rfl, SqT.of ha05, rfl, a1, vts, rfl, .inr (SqT.of (s5 _ _ ha14)), _, rfl, c0, _, 1, _, rfl, rfl, SqT.of hc05, rfl, c1, vus, rfl, .inr (SqT.of (s5 _ _ hc1)), vts.length, vus.length, rfl, by omega, by omega, by omega, by omega, ?_⟩
      refine ⟨_, rfl, _, _, rfl, rfl, _, rfl, ite2 (fun z => iteT ⟨_, rfl, fd, _, 0, _, rfl, rfl, SqT.of hfd, rfl, rfl, hR0 _ _ (q H5)⟩) (fun z => ?_)⟩
      refine ⟨_, rfl, _, _, rfl, rfl, _, rfl, ite2 (fun z => ⟨_, rfl, fd, _, 0, _, rfl, rfl, SqT.of hfd, rfl, rfl, hR0 _ _ (q H5)⟩) (fun z2 => ?_)⟩
      refine absurd (show Fits ts us from ⟨?_, ?_⟩) nf
      · have h1 : ¬ ((6 : Int) < ((Nat.lcm vts.length vus.length : Nat) : Int)) := by simpa using z2
        rw [hvl, hvl'] at h1
        omega
      · have h1 : ¬ ((12 : Int) < (vrs.length : Int) * (vru.length : Int)) := by simpa using z
        rw [hn0, hn0', ← Int.natCast_mul] at h1
        omega
    · have okB := okT_both ok okO hf.1 hf.2
      obtain ⟨p0, vB, rfl, hp0, p1, vbs, rfl, hp1, pB⟩ := id hx
      have hbl : vbs.length = Nat.lcm ts.length us.length := by
        have := paired_length pB
        unfold bothT at this
        rw [List.length_map, List.length_range] at this
        exact this
      have ha05 := s5 _ _ ha04
      have hc05 := s5 _ _ hc0
      refine cut3 fun T6 hT6 => ?_
      refine ⟨_, rfl, a0, _, 0, _, rfl, rfl, SqT.of ha05, rfl, _, rfl, c0, _, 0, _, rfl, rfl, SqT.of hc05, rfl, rfl, _, rfl, iteF' (by simp) ?_⟩
      refine ⟨_, rfl, a0, _, 1, _, rfl, rfl, SqT.of ha05, rfl, a1, _, 0, _, rfl, rfl, SqT.of (s5 _ _ ha14), atI_nat ex0, a2, vrs, rfl, .inr (SqT.of (s5 _ _ ha24)), _, rfl, c0, _, 1, _, rfl, rfl, SqT.of hc05, rfl, c1, _, 0, _, rfl, rfl, SqT.of (s5 _ _ hc1), atI_nat ey0, c2, vru, rfl, .inr (SqT.of (s5 _ _ hc2)), _, _, rfl, rfl, .inr ⟨by omega, by omega⟩, ?_⟩
      refine ⟨_, rfl, a0, _, 1, _, rfl, rfl, SqT.of ha05, rfl, a1, vts, rfl, .inr (SqT.of (s5 _ _ ha14)), _, rfl, c0, _, 1, _, rfl, rfl, SqT.of hc05, rfl, c1, vus, rfl, .inr (SqT.of (s5 _ _ hc1)), vts.length, vus.length, rfl, by omega, by omega, by omega, by omega, ?_⟩
      refine hT6 _ _ ?_
      clear hT6
      show tSeq _ _ E0 [some (.ref a), some (.ref m), some (.ref a0), some (.ref W), some (.ref c0), some (.ref fd), some (.int ((vrs.length : Int) * (vru.length : Int))), some (.int ((Nat.lcm vts.length vus.length : Nat) : Int)), none, none, none, none, none] H5
      rw [hvl, hvl', hn0, hn0', ← Int.natCast_mul]
      obtain ⟨L', hL⟩ : ∃ L', L' = Nat.lcm ts.length us.length := ⟨_, rfl⟩
      obtain ⟨nn2, hnn2⟩ : ∃ nn2, nn2 = nst ts * nst us := ⟨_, rfl⟩
      have hf1 := hf.1
      have hf2 := hf.2
      rw [← hL] at hbl hf1 ⊢
      rw [← hnn2] at hf2 ⊢
      have hS5 := hS4.same s5
      have hO5 := hO.same s5
      have hbn := okB.2
      rw [← hnn2] at hbn
      -- the form of what is told
      refine cut5 fun T7 hT7 => ?_
      refine ⟨_, rfl, _, _, rfl, rfl, _, rfl, iteF' (by simp; omega) ⟨_, rfl, _, _, rfl, rfl, _, rfl, iteF' (by simp; omega) ?_⟩⟩
      refine ⟨_, rfl, fd, _, 1, _, rfl, rfl, SqT.of hfd, rfl, ?_⟩
      refine ⟨_, rfl, fd, _, 0, _, rfl, rfl, SqT.of hfd, rfl, rfl, _, rfl, iteF' (by simp) ?_⟩
      refine ⟨_, rfl, _, _, _, _, rfl, .tup hp0, kit_tup_tup, _, rfl, iteF ?_⟩
      refine ⟨_, rfl, p0, _, 1, _, rfl, rfl, SqT.of hp0, rfl, _, _, _, _, rfl, .tup hp1, kit_tup_tup, _, rfl, iteF ?_⟩
      refine ⟨_, rfl, p0, _, 1, _, rfl, rfl, SqT.of hp0, rfl, p1, vbs, rfl, .inr (SqT.of hp1), _, rfl, rfl, _, rfl, iteF' (by simp [hbl]) ?_⟩
      refine ⟨_, rfl, p0, _, 0, _, rfl, rfl, SqT.of hp0, rfl, _, rfl, a0, _, 0, _, rfl, rfl, SqT.of ha05, rfl, rfl, _, rfl, iteF' (by simp) ?_⟩
      refine ⟨_, rfl, p0, _, 1, _, rfl, rfl, SqT.of hp0, rfl, p1, rfl, ⟨_, SqT.of hp1⟩, ?_⟩
      refine block_fm (Walk.tup (K := K) (SqT.of hp1)) (by omega) rfl (fun _ => false) (fun _ => .non) (fun k H6 Q' hk s6 q' => ?_) (fun k H6 Q' hk z => by cases z) (fun D H6 hD s6 hDl => ?_)
      · obtain ⟨tab, etab, ⟨pk, vk, epk, hpk, pRk⟩⟩ := paired_getL pB k _ (List.getElem?_eq_getElem hk)
        have ed : vbs.getD k .non = .ref pk := by rw [List.getD_eq_getElem?_getD, List.getElem?_eq_getElem hk, ← epk]; rfl
        have hkl : vk.length = nn2 := by
          have h1 := paired_length pRk
          have h2 := okB.1.rows tab (List.mem_of_getElem? etab)
          omega
        show ((_ : TT)) ((cst _ _).set 0 (some (vbs.getD k .non))) H6 Q'
        rw [ed]
        refine ⟨_, rfl, _, _, _, _, rfl, .tup (s6 _ _ hpk), kit_tup_tup, _, rfl, iteF ?_⟩
        refine ⟨_, rfl, pk, vk, rfl, .inr (SqT.of (s6 _ _ hpk)), _, rfl, rfl, _, rfl, ?_⟩
        have e : (!decide (V.int ((vk.length : Nat) : Int) = V.int ((nn2 : Nat) : Int))) = false := by rw [hkl, decide_eq_true rfl]; rfl
        rw [e]
        exact q' _ (Same.refl _)
      have hD0 : H6 D = some (.lst []) := by
        rw [hDl]
        congr 2
        simp
      refine ⟨D, [], rfl, .inl (SqL.of hD0), _, _, rfl, rfl, _, rfl, iteF' (by simp) (hT7 _ _ ?_)⟩
      clear hT7 hD0 hDl hD
      have s06 := s5.trans s6
      have hp06 := s6 _ _ hp0
      have hp16 := s6 _ _ hp1
      have hx6 := hx.same s6
      have hS6 := hS5.same s6
      have hO6 := hO5.same s6
      have ha06 := s6 _ _ ha05
      have T6' := ((T.same s04).same s5).same s6
      have hsq6 : SqL K H6 a (ns.map V.int) := (s04.trans s06).seq hSq
      have pB6 := paired_imp (fun _ _ x => TabAt.same s6 x) pB
      clear hx hS5 hO5 s6 s06 hp0 hp1 pB
      -- its rows
      refine cut1 fun T8 hT8 => ?_
      obtain ⟨I1, hI1⟩ : ∃ I1 : Nat → L2.St → Hp → Prop, ∀ i σ H7, I1 i σ H7 ↔ ∃ o9, σ = [some (.ref a), some (.ref m), some (.ref a0), some (.ref W), some (.ref c0), some (.ref fd), some (.int ((nn2 : Nat) : Int)), some (.int ((L' : Nat) : Int)), some (.ref p0), o9, none, none, none] ∧ Same H6 H7 := ⟨_, fun _ _ _ => Iff.rfl⟩
      refine ⟨_, rfl, p0, _, 1, _, rfl, rfl, SqT.of hp06, rfl, p1, rfl, ⟨_, SqT.of hp16⟩, for_tup (K := K) (a := p1) (xs := vbs) I1 ((hI1 _ _ _).2 ⟨_, rfl, Same.refl _⟩) (fun i σ H7 _ zz => by
        obtain ⟨_, _, s7⟩ := (hI1 _ _ _).1 zz
        exact SqT.of (s7 _ _ hp16)) ?_ ?_⟩
      · intro i y σ H7 hi zz
        obtain ⟨o9, rfl, s7⟩ := (hI1 _ _ _).1 zz
        obtain ⟨tab, etab, ⟨pk, vk, rfl, hpk, pRk⟩⟩ := paired_getL pB6 i _ hi
        have hpk7 := s7 _ _ hpk
        have hmt := List.mem_of_getElem? etab
        have hvk : vk.length ≤ 12 := by
          have h1 := paired_length pRk
          have h2 := okB.1.rows tab hmt
          omega
        refine ⟨_, rfl, pk, rfl, ⟨_, SqT.of hpk7⟩, ?_⟩
        refine block_fm (Walk.tup (K := K) (SqT.of hpk7)) (by omega) rfl (fun _ => false) (fun _ => .non) (fun k H8 Q' hk s8 q' => ?_) (fun k H8 Q' hk z => by cases z) (fun D H8 hD s8 hDl => ?_)
        · obtain ⟨row, erow, ⟨rk, erk, hrk⟩⟩ := paired_getL pRk k _ (List.getElem?_eq_getElem hk)
          have ed : vk.getD k .non = .ref rk := by rw [List.getD_eq_getElem?_getD, List.getElem?_eq_getElem hk, ← erk]; rfl
          have hrl : (row.length : Int) = b := okB.1.figs tab hmt row (List.mem_of_getElem? erow)
          have hrk8 := (s7.trans s8) _ _ hrk
          show ((_ : TT)) ((cst _ _).set 0 (some (vk.getD k .non))) H8 Q'
          rw [ed]
          refine ⟨_, rfl, _, _, _, _, rfl, .tup hrk8, kit_tup_tup, _, rfl, iteF ?_⟩
          refine ⟨_, rfl, rk, _, rfl, .inr (SqT.of hrk8), _, rfl, a0, _, 0, _, rfl, rfl, SqT.of ((s7.trans s8) _ _ ha06), rfl, rfl, _, rfl, ?_⟩
          have e : (!decide (V.int (((row.map V.int).length : Nat) : Int) = V.int b)) = false := by rw [List.length_map, hrl, decide_eq_true rfl]; rfl
          rw [e]
          exact q' _ (Same.refl _)
        have hD0 : H8 D = some (.lst []) := by
          rw [hDl]
          congr 2
          simp
        exact ⟨D, [], rfl, .inl (SqL.of hD0), _, _, rfl, rfl, _, rfl, iteF' (by simp) ((hI1 _ _ _).2 ⟨_, rfl, s7.trans s8⟩)⟩
      intro σ H7 zz
      obtain ⟨o9, rfl, s7⟩ := (hI1 _ _ _).1 zz
      refine hT8 _ _ ?_
      clear hT8 zz hI1 I1
      -- the two in the other order
      refine cut1 fun T9 hT9 => ?_
      refine ⟨_, rfl, _, rfl, _, rfl, .ref c0, .ref a0, us, ts, b, b, rfl, hO6.same s7, okO, hS6.same s7, ok, fun nb => absurd rfl nb, fun _ => ⟨fun nf => absurd hf.symm nf, fun _ y H8 s8 hy => ?_⟩⟩
      refine ⟨.ref p0, y, bothT ts us, bothT us ts, b, b, rfl, (hx6.same s7).same s8, okB.1, hy, (okT_both okO ok hf.symm.1 hf.symm.2).1, (T6'.same s7).same s8, fun nb => absurd rfl nb, fun _ => ⟨fun H9 s9 T9' _ => ?_, fun D fs H9 s9 T9' hD hDl hf' hd _ _ => absurd hd (both_alike ok okO fs hf')⟩⟩
      refine ⟨rfl, _, rfl, iteF (hT9 _ _ ?_)⟩
      clear hT9
      have s69 : Sam H6 H9 := (s7.trans s8).sam.trans s9
      have hx9 := hx6.sam s69
      have hS9 := hS6.sam s69
      have hO9 := hO6.sam s69
      -- figures
      refine cut1 fun T10 hT10 => ?_
      refine ⟨_, rfl, _, rfl, a0, _, 0, _, rfl, rfl, SqT.of (s69.tup ha06), rfl, a, ns, 9, b, 12, rfl, s69.seq hsq6, by omega, b1, b2, by omega, by omega, fun D fs HA sA hD hDl hfi hfl => hT10 _ _ ?_⟩
      clear hT10
      have hxA := hx9.same sA
      have hSA := hS9.same sA
      have hOA := hO9.same sA
      refine ⟨_, rfl, D, _, rfl, .inl (SqL.of hDl), _, _, rfl, rfl, ?_⟩
      rw [List.length_map]
      refine ⟨_, rfl, by omega, by omega, for_range (fun i σ HB => (∃ o11 o12, σ = [some (.ref a), some (.ref m), some (.ref a0), some (.ref W), some (.ref c0), some (.ref fd), some (.int ((nn2 : Nat) : Int)), some (.int ((L' : Nat) : Int)), some (.ref p0), o9, some (.ref D), o11, o12]) ∧ Same HA HB) ⟨⟨_, _, rfl⟩, Same.refl _⟩ ?_ ?_⟩
      · rintro i σ HB hi ⟨⟨o11, o12, rfl⟩, sB⟩
        have hfit : figsIn b (fs.take i) := fun g hg => hfi g (List.mem_of_mem_take hg)
        have cut : cutV (fs.map V.int) none (some (0 + (i : Int))) = (fs.take i).map V.int := by rw [Int.zero_add, cut_takeB, List.map_take]
        refine ⟨_, rfl, _, rfl, _, rfl, _, rfl, D, _, rfl, SqL.of (sB _ _ hDl), fun c1' hc1' => ?_⟩
        rw [cut]
        have sC := sB.trans (Same.new (o := HO.lst ((fs.take i).map V.int)) hc1')
        refine ⟨.ref a0, ts, b, c1', 0, 0, fs.take i, rfl, hSA.same sC, ok, SqL.of upd_same, Int.le_refl _, by omega, hfit, rfl, ?_⟩
        refine ⟨_, rfl, _, rfl, _, rfl, _, rfl, D, _, rfl, SqL.of (sC _ _ hDl), fun c2' hc2' => ?_⟩
        rw [cut]
        have sE := sC.trans (Same.new (o := HO.lst ((fs.take i).map V.int)) hc2')
        refine ⟨.ref p0, bothT ts us, b, c2', fs.take i, rfl, hxA.same sE, okB.1, SqL.of upd_same, hfit, fun HG sG => ?_⟩
        have sEG := sE.trans sG
        have gb := good_both ok okO (fs.take i) hfit
        by_cases h1 : rd ts 0 0 (fs.take i) = 0
        · refine ⟨_, rfl, _, rfl, iteT' (by simp [h1]) ?_⟩
          refine ⟨_, rfl, _, rfl, _, rfl, _, rfl, D, _, rfl, SqL.of (sEG _ _ hDl), fun c3' hc3' => ?_⟩
          rw [cut]
          have sH := sEG.trans (Same.new (o := HO.lst ((fs.take i).map V.int)) hc3')
          refine ⟨.ref c0, us, b, c3', 0, 0, fs.take i, rfl, hOA.same sH, okO, SqL.of upd_same, Int.le_refl _, by omega, hfit, rfl, rfl, _, rfl, iteF' ?_ ?_⟩
          · by_cases h2 : rd us 0 0 (fs.take i) = 0
            · simp [gb.mpr ⟨h1, h2⟩, h2]
            · have h3 : ¬ rd (bothT ts us) 0 0 (fs.take i) = 0 := fun z => h2 (gb.mp z).2
              simp [h3, h2]
          · exact ⟨⟨_, _, rfl⟩, sH⟩
        · refine ⟨_, rfl, _, rfl, iteF' (by simp [h1]) ⟨rfl, _, rfl, iteF' ?_ ?_⟩⟩
          · have h3 : ¬ rd (bothT ts us) 0 0 (fs.take i) = 0 := fun z => h1 (gb.mp z).1
            simp [h3]
          · exact ⟨⟨_, _, rfl⟩, sEG⟩
      · rintro σ HB ⟨⟨o11, o12, rfl⟩, sB⟩
        exact hR0 _ _ (q HB)
end
end My

namespace My
open PySem L2 PyProof.Rows
theorem _root_.L2.Def.has {P : Program} {w : World} {K : PySem.W.Frag} {h base : Heap} {mg : Str → Option Value} {x : Str} {st : Stmt} {f : Addr} {fd : FuncData} {ps : List Str} {k : Nat} {sp : Sp} (d : L2.Def K x st f fd) (X : K.In h) (G : h.Ns mainGlobals mg)
    (hb : Binds K fd ps []) (ok : FnOk P w K mg base CX0 k f fd ps sp) : Has P w K mg base x k ps sp := ⟨f, fd, PySem.W.mg_of X G d.a, d.F.kp, hb, ok⟩
theorem law_mk {K : PySem.W.Frag} {x : Str} {st : Stmt} {f : Addr} {oc : Value} {od an : Option Addr} {osl : Array (Option Value)} {kV doc pm cdv ct : Value} (a : PySem.W.nsIn K mainGlobals x = some (some (.ref f)))
    (l : K.lookup f = some ⟨oc, od, .func (PySem.W.fnOf x x (defArgs st) (defBody st) (defScope st) .none kV doc pm an cdv ct), osl⟩) (c : PySem.W.codeIn K cdv x = true) (k : PySem.W.keepIn K (.ref f) = true)
    (b : ∀ (s : Shared) (v : Value), BindsTo s (PySem.W.fnOf x x (defArgs st) (defBody st) (defScope st) .none kV doc pm an cdv ct) ⟨[v], []⟩ [("script", v)]) :
    ∃ f fd, L2.Def K x st f fd ∧ ∀ (s : Shared) (v : Value), BindsTo s fd ⟨[v], []⟩ [("script", v)] := ⟨f, _, ⟨a, fun_mk l c k⟩, b⟩
end My

namespace My
open PySem L2 PyProof.Rows
theorem all_mk {l : PySem.W.OpenLaw} {w : World} {K : PySem.W.Frag} {h : Heap} {mg : Str → Option Value} {c Pt : Addr} {r0 r1 r2 r3 r4 r5 r6 : Addr} {fa : Addr} {t0 t1 t2 t3 : Tok} {aS : Addr} {u0 u1 : Tok} {dS : Option Addr} {nS : Nat} {slS : Array (Option Value)} (X : K.In h) (G : h.Ns mainGlobals mg) (hfa : mg "law" = some (.ref fa))
    (d1 : ∃ f fd, L2.Def K "labels_to" s_labels_to f fd)
    (d2 : ∃ f fd, L2.Def K "shortest" s_shortest f fd)
    (d3 : ∃ f fd, L2.Def K "is_whole" sWhole f fd)
    (d4 : ∃ f fd, L2.Def K "is_tuple_of" sTupOf f fd)
    (d5 : ∃ f fd, L2.Def K "is_row" sRow f fd)
    (d6 : ∃ f fd, L2.Def K "is_table" sTab f fd)
    (d7 : ∃ f fd, L2.Def K "are_tables" sTabs f fd)
    (d8 : ∃ f fd, L2.Def K "check_scheme" sCheck f fd)
    (d9 : ∃ f fd, L2.Def K "check_figures" sFigs f fd)
    (d10 : ∃ f fd, L2.Def K "moved" sMoved f fd)
    (d11 : ∃ f fd, L2.Def K "spot_after" sSpot f fd)
    (d12 : ∃ f fd, L2.Def K "state_after" sState f fd)
    (d13 : ∃ f fd, L2.Def K "good" sGood f fd)
    (d14 : ∃ f fd, L2.Def K "check_pair" s_check_pair f fd)
    (d15 : ∃ f fd, L2.Def K "common_turns" s_common_turns f fd)
    (d16 : ∃ f fd, L2.Def K "paired_row" s_paired_row f fd)
    (d17 : ∃ f fd, L2.Def K "paired_table" s_paired_table f fd)
    (d18 : ∃ f fd, L2.Def K "both" s_both f fd)
    (d19 : ∃ f fd, L2.Def K "parted" s_parted f fd ∧ fd.code = .ref c)
    (d20 : ∃ f fd, L2.Def K "_law_cell_at" sCell f fd)
    (d21 : ∃ f fd, L2.Def K "_law_stirred" sStir f fd)
    (d22 : ∃ f fd, L2.Def K "_law_weight" sWeight f fd)
    (d23 : ∃ f fd, L2.Def K "_law_scheme" sScheme f fd)
    (d24 : ∃ f fd, L2.Def K "_law_figures" sFigures f fd)
    (d25 : ∃ f fd, L2.Def K "_law_read" sRead f fd)
    (d26 : ∃ f fd, L2.Def K "_law_told" s__law_told f fd)
    (d27 : ∃ f fd, L2.Def K "_law_turns" s__law_turns f fd)
    (d28 : ∃ f fd, L2.Def K "law" sLaw f fd ∧ ∀ (s : Shared) (v : Value), BindsTo s fd ⟨[v], []⟩ [("script", v)])
    (c0 : PySem.W.nsIn K mainGlobals "LEAST_BASE" = some (some (.int 2 t0)))
    (c1 : PySem.W.nsIn K mainGlobals "MOST_BASE" = some (some (.int 10 t1)))
    (c2 : PySem.W.nsIn K mainGlobals "MOST_TABLES" = some (some (.int 6 t2)))
    (c3 : PySem.W.nsIn K mainGlobals "MOST_STATES" = some (some (.int 12 t3)))
    (x0 : PySem.W.nsIn K mainGlobals "SlipError" = some (some (.ref r0)))
    (x1 : PySem.W.nsIn K mainGlobals "NoScheme" = some (some (.ref r1)))
    (x2 : PySem.W.nsIn K mainGlobals "OtherBase" = some (some (.ref r2)))
    (x3 : PySem.W.nsIn K mainGlobals "NoRoom" = some (some (.ref r3)))
    (x4 : PySem.W.nsIn K mainGlobals "NoKind" = some (some (.ref r4)))
    (x5 : PySem.W.nsIn K mainGlobals "NoFigure" = some (some (.ref r5)))
    (x6 : PySem.W.nsIn K mainGlobals "NoNote" = some (some (.ref r6)))
    (xv : PySem.W.nsIn K mainGlobals "ValueError" = some none)
    (xb : errsAB K r0 r1 r2 r3 r4 r5 r6 = true)
    (e1 : PySem.W.nsIn K mainGlobals "START" = some (some (.ref aS))) (e2 : K.lookup aS = some ⟨.type "tuple", dS, .seq #[.int 0 u0, .int 0 u1] nS, slS⟩)
    (z0 : PySem.W.nsIn K mainGlobals "len" = some none)
    (z1 : PySem.W.nsIn K mainGlobals "isinstance" = some none)
    (z2 : PySem.W.nsIn K mainGlobals "int" = some none)
    (z3 : PySem.W.nsIn K mainGlobals "bool" = some none)
    (z4 : PySem.W.nsIn K mainGlobals "tuple" = some none)
    (z5 : PySem.W.nsIn K mainGlobals "list" = some none)
    (z6 : PySem.W.nsIn K mainGlobals "all" = some none)
    (z7 : PySem.W.nsIn K mainGlobals "range" = some none)
    (z8 : PySem.W.nsIn K mainGlobals "enumerate" = some none)
    (z9 : PySem.W.nsIn K mainGlobals "sum" = some none)
    (z10 : PySem.W.nsIn K mainGlobals "zip" = some none)
    (z11 : PySem.W.nsIn K mainGlobals "max" = some none) :
    ∃ fd : FuncData, (∀ (s : Shared) (v : Value), BindsTo s fd ⟨[v], []⟩ [("script", v)]) ∧ ∀ base : Heap, K.In base → base.Ns mainGlobals mg → BMain mg base → (∀ q ∈ [(c, Pt)], PySem.W.CodeHd base q.1 q.2) → FnOk l.prog w K mg base CX0 10 fa fd ["script"] (spLawT K Pt qsP) := by
  obtain ⟨f1, g1, d1⟩ := d1
  obtain ⟨f2, g2, d2⟩ := d2
  obtain ⟨f3, g3, d3⟩ := d3
  obtain ⟨f4, g4, d4⟩ := d4
  obtain ⟨f5, g5, d5⟩ := d5
  obtain ⟨f6, g6, d6⟩ := d6
  obtain ⟨f7, g7, d7⟩ := d7
  obtain ⟨f8, g8, d8⟩ := d8
  obtain ⟨f9, g9, d9⟩ := d9
  obtain ⟨f10, g10, d10⟩ := d10
  obtain ⟨f11, g11, d11⟩ := d11
  obtain ⟨f12, g12, d12⟩ := d12
  obtain ⟨f13, g13, d13⟩ := d13
  obtain ⟨f14, g14, d14⟩ := d14
  obtain ⟨f15, g15, d15⟩ := d15
  obtain ⟨f16, g16, d16⟩ := d16
  obtain ⟨f17, g17, d17⟩ := d17
  obtain ⟨f18, g18, d18⟩ := d18
  obtain ⟨f19, g19, d19, dc19⟩ := d19
  obtain ⟨f20, g20, d20⟩ := d20
  obtain ⟨f21, g21, d21⟩ := d21
  obtain ⟨f22, g22, d22⟩ := d22
  obtain ⟨f23, g23, d23⟩ := d23
  obtain ⟨f24, g24, d24⟩ := d24
  obtain ⟨f25, g25, d25⟩ := d25
  obtain ⟨f26, g26, d26⟩ := d26
  obtain ⟨f27, g27, d27⟩ := d27
  obtain ⟨f28, g28, d28, hb⟩ := d28
  have e := hfa.symm.trans (PySem.W.mg_of X G d28.a)
  cases e
  have B : Blt mg := ⟨PySem.W.mg_none_of X G z0, PySem.W.mg_none_of X G z1, PySem.W.mg_none_of X G z2, PySem.W.mg_none_of X G z3, PySem.W.mg_none_of X G z4, PySem.W.mg_none_of X G z5, PySem.W.mg_none_of X G z6, PySem.W.mg_none_of X G z7, PySem.W.mg_none_of X G z8, PySem.W.mg_none_of X G z9⟩
  have Nm : Nums mg := ⟨⟨_, PySem.W.mg_of X G c0⟩, ⟨_, PySem.W.mg_of X G c1⟩, ⟨_, PySem.W.mg_of X G c2⟩, ⟨_, PySem.W.mg_of X G c3⟩⟩
  have Ea : ErrsA K mg := errsA_mk (PySem.W.mg_of X G x0) (PySem.W.mg_of X G x1) (PySem.W.mg_of X G x2) (PySem.W.mg_of X G x3) (PySem.W.mg_of X G x4) (PySem.W.mg_of X G x5) (PySem.W.mg_of X G x6) (PySem.W.mg_none_of X G xv) xb
  have Ep : ErrsP K mg := Ea.toP
  have Zm : BltZ mg := ⟨PySem.W.mg_none_of X G z10, PySem.W.mg_none_of X G z11⟩
  have St : StartAt K mg := ⟨aS, PySem.W.mg_of X G e1, fun H => .inr ⟨_, _, _, e2, rfl, rfl, (by show 2 ≤ sizeLine; decide), .cons ⟨_, rfl⟩ (.cons ⟨_, rfl⟩ .nil)⟩⟩
  refine ⟨g28, hb, fun base _ _ BM CHs => ?_⟩
  have CH : PySem.W.CodeHd base c Pt := CHs (c, Pt) List.mem_cons_self
  have H1 : Has l.prog w K mg base "labels_to" 1 ["node", "arrivals"] (spLabels l.prog w K) := d1.has X G (d1.F.binds fun _ _ _ _ _ _ us hl => match us, hl with | [_, _], _ => rfl) (ok_labels_to d1.F B  )
  have H2 : HasS l.prog w K mg base "shortest" 6 ["start", "steps", "ends"] (preSh l.prog w K mg base) (spSh K) := ⟨f2, g2, PySem.W.mg_of X G d2.a, d2.F.kp, d2.F.binds fun _ _ _ _ _ _ us hl => match us, hl with | [_, _, _], _ => rfl, fun g => ok_shortest d2.F B H1 g⟩
  have H3 : Has l.prog w K mg base "is_whole" 1 ["value", "least", "most"] spWhole := d3.has X G (d3.F.binds fun _ _ _ _ _ _ us hl => match us, hl with | [_, _, _], _ => rfl) (ok_whole d3.F B)
  have H4 : Has l.prog w K mg base "is_tuple_of" 1 ["value", "least", "most"] spTupOf := d4.has X G (d4.F.binds fun _ _ _ _ _ _ us hl => match us, hl with | [_, _, _], _ => rfl) (ok_tupOf d4.F B)
  have H5 : Has l.prog w K mg base "is_row" 2 ["row", "base", "states"] spRow := d5.has X G (d5.F.binds fun _ _ _ _ _ _ us hl => match us, hl with | [_, _, _], _ => rfl) (ok_row d5.F B H4 H3)
  have H6 : Has l.prog w K mg base "is_table" 3 ["table", "base", "states"] spTab := d6.has X G (d6.F.binds fun _ _ _ _ _ _ us hl => match us, hl with | [_, _, _], _ => rfl) (ok_tab d6.F B H4 H5)
  have H7 : Has l.prog w K mg base "are_tables" 4 ["tables", "base"] spTabs := d7.has X G (d7.F.binds fun _ _ _ _ _ _ us hl => match us, hl with | [_, _], _ => rfl) (ok_tabs d7.F B Nm H4 H6)
  have H8 : Has l.prog w K mg base "check_scheme" 5 ["scheme"] spCheck := d8.has X G (d8.F.binds fun _ _ _ _ _ _ us hl => match us, hl with | [_], _ => rfl) (ok_check d8.F B Nm H4 H3 H7)
  have H9 : Has l.prog w K mg base "check_figures" 2 ["scheme", "figures"] (spFigs K) := d9.has X G (d9.F.binds fun _ _ _ _ _ _ us hl => match us, hl with | [_, _], _ => rfl) (ok_figs d9.F H3)
  have H10 : Has l.prog w K mg base "moved" 1 ["tables", "spot", "figures"] (spMoved K) := d10.has X G (d10.F.binds fun _ _ _ _ _ _ us hl => match us, hl with | [_, _, _], _ => rfl) (ok_moved d10.F B)
  have H11 : Has l.prog w K mg base "spot_after" 6 ["scheme", "figures"] (spSpot K) := d11.has X G (d11.F.binds fun _ _ _ _ _ _ us hl => match us, hl with | [_, _], _ => rfl) (ok_spot d11.F St H8 H9 H10)
  have H12 : Has l.prog w K mg base "state_after" 7 ["scheme", "figures"] (spState K) := d12.has X G (d12.F.binds fun _ _ _ _ _ _ us hl => match us, hl with | [_, _], _ => rfl) (ok_state d12.F H11)
  have H13 : Has l.prog w K mg base "good" 8 ["scheme", "figures"] (spGood K) := d13.has X G (d13.F.binds fun _ _ _ _ _ _ us hl => match us, hl with | [_, _], _ => rfl) (ok_good d13.F H12)
  have H14 : HasX l.prog w K mg base "check_pair" 6 ["scheme", "other"] (spPair mg) := ⟨f14, g14, PySem.W.mg_of X G d14.a, d14.F.kp, d14.F.binds fun _ _ _ _ _ _ us hl => match us, hl with | [_, _], _ => rfl, ok_check_pair d14.F B Ep H8⟩
  have H15 : Has l.prog w K mg base "common_turns" 1 ["tables", "others"] (spCTurns K) := d15.has X G (d15.F.binds fun _ _ _ _ _ _ us hl => match us, hl with | [_, _], _ => rfl) (ok_common_turns d15.F B  )
  have H16 : Has l.prog w K mg base "paired_row" 1 ["row", "other_row", "other_states"] spPRow := d16.has X G (d16.F.binds fun _ _ _ _ _ _ us hl => match us, hl with | [_, _, _], _ => rfl) (ok_paired_row d16.F B Zm )
  have H17 : Has l.prog w K mg base "paired_table" 2 ["table", "other_table"] spPTab := d17.has X G (d17.F.binds fun _ _ _ _ _ _ us hl => match us, hl with | [_, _], _ => rfl) (ok_paired_table d17.F B  H16)
  have H18 : HasX l.prog w K mg base "both" 7 ["scheme", "other"] (spBoth mg) := ⟨f18, g18, PySem.W.mg_of X G d18.a, d18.F.kp, d18.F.binds fun _ _ _ _ _ _ us hl => match us, hl with | [_, _], _ => rfl, ok_both d18.F B Nm Ea H14 H15 H17⟩
  have H19 : HasX l.prog w K mg base "parted" 8 ["scheme", "other"] (spParted Pt qsP mg) := ⟨f19, g19, PySem.W.mg_of X G d19.a, d19.F.kp, d19.F.binds fun _ _ _ _ _ _ us hl => match us, hl with | [_, _], _ => rfl, ok_parted d19.F dc19 B BM CH St H14 H10 H2⟩
  have H20 : Has l.prog w K mg base "_law_cell_at" 1 ["script", "k"] (spCell K) := d20.has X G (d20.F.binds fun _ _ _ _ _ _ us hl => match us, hl with | [_, _], _ => rfl) (ok_cell d20.F B)
  have H21 : Has l.prog w K mg base "_law_stirred" 1 ["cell", "k"] spStir := d21.has X G (d21.F.binds fun _ _ _ _ _ _ us hl => match us, hl with | [_, _], _ => rfl) (ok_stir d21.F)
  have H22 : Has l.prog w K mg base "_law_weight" 2 ["script", "at", "turn", "states"] (spWeight K) := d22.has X G (d22.F.binds fun _ _ _ _ _ _ us hl => match us, hl with | [_, _, _, _], _ => rfl) (ok_weight d22.F B H20)
  have H23 : Has l.prog w K mg base "_law_scheme" 3 ["script", "at", "most"] (spScheme K) := d23.has X G (d23.F.binds fun _ _ _ _ _ _ us hl => match us, hl with | [_, _, _], _ => rfl) (ok_scheme d23.F B H20 H21 H22)
  have H24 : Has l.prog w K mg base "_law_figures" 2 ["script", "at", "base", "most"] (spFigures K) := d24.has X G (d24.F.binds fun _ _ _ _ _ _ us hl => match us, hl with | [_, _, _, _], _ => rfl) (ok_figures d24.F B H20)
  have H25 : Has l.prog w K mg base "_law_read" 1 ["scheme", "turn", "state", "figures"] (spRead K) := d25.has X G (d25.F.binds fun _ _ _ _ _ _ us hl => match us, hl with | [_, _, _, _], _ => rfl) (ok_read d25.F B)
  have H26 : Has l.prog w K mg base "_law_told" 9 ["scheme", "other"] (spToldB mg) := d26.has X G (d26.F.binds fun _ _ _ _ _ _ us hl => match us, hl with | [_, _], _ => rfl) (ok__law_told d26.F B Ea H18)
  have H27 : Has l.prog w K mg base "_law_turns" 1 ["one", "two"] spLTurns := d27.has X G (d27.F.binds fun _ _ _ _ _ _ us hl => match us, hl with | [_, _], _ => rfl) (ok__law_turns d27.F B Zm )
  exact ok_law d28.F B  H20 H23 H24 H25 H26 H27 H19 H18 H13
theorem tabIn_mk {K : PySem.W.Frag} {x : Str} {st : Stmt} {f c Pt : Addr} {oc o1 : Value} {od an o2 : Option Addr} {osl o3 : Array (Option Value)} {vs : Array Value} {kV doc pm ct : Value} (a : PySem.W.nsIn K mainGlobals x = some (some (.ref f)))
    (l : K.lookup f = some ⟨oc, od, .func (PySem.W.fnOf x x (defArgs st) (defBody st) (defScope st) .none kV doc pm an (.ref c) ct), osl⟩) (m : K.lookup c = some ⟨o1, o2, .fields vs, o3⟩) (e : vs[11]? = some (.ref Pt)) : PySem.W.tabIn K x = some (c, Pt) := by
  unfold PySem.W.tabIn
  rw [a]
  simp only [l]
  show (match K.lookup c with
        | some ⟨_, _, .fields vs, _⟩ => (match (vs[11]? : Option Value) with
          | some (.ref P) => some (c, P)
          | _ => none)
        | _ => none) = some (c, Pt)
  rw [m]
  show (match (vs[11]? : Option Value) with
          | some (.ref P) => some (c, P)
          | _ => none) = some (c, Pt)
  rw [e]
theorem tabs_one {c Pt : Addr} {h : Heap} (x : PySem.W.CodeHd h c Pt ∧ h.get? Pt = some (PySem.W.tabObj #[])) : PySem.W.TabsAt [(c, Pt)] h := List.forall_mem_cons.mpr ⟨x, fun _ z => nomatch z⟩
theorem defT_mk {K : PySem.W.Frag} {x : Str} {st : Stmt} {f c : Addr} {oc : Value} {od an : Option Addr} {osl : Array (Option Value)} {kV doc pm ct : Value} (a : PySem.W.nsIn K mainGlobals x = some (some (.ref f)))
    (l : K.lookup f = some ⟨oc, od, .func (PySem.W.fnOf x x (defArgs st) (defBody st) (defScope st) .none kV doc pm an (.ref c) ct), osl⟩) (hc : PySem.W.codeIn K (.ref c) x = true) (k : PySem.W.keepIn K (.ref f) = true) :
    ∃ f fd, L2.Def K x st f fd ∧ fd.code = .ref c := ⟨f, _, ⟨a, fun_mk l hc k⟩, rfl⟩
theorem walk {l : PySem.W.OpenLaw} {q : Program} {loose : List Str} {XP : (Str → Option Value) → Heap → Prop} {YP : World → Heap → Prop} {d : DefRec} {K : Params → PySem.W.Frag} {c Pt : Addr} (hn : l.most = some 63) (hdf : d.params.defaults = [])
    (hY : ∀ (w : World) (h : Heap), YP w h → (K w.params).In h)
    (hT : ∀ (w : World) (mg mb : Str → Option Value) (mean : ExcName → Option Value) (h : Heap), (K w.params).In h → Top q (PySem.W.looseW q loose) mean mg mb h → PySem.W.TabsAt [(c, Pt)] h) (hK : ∀ w : World, PySem.W.noTabs (K w.params) = true)
    (F : ∀ (w : World) (mg : Str → Option Value) (fa : Addr) (h : Heap), (K w.params).In h → h.Ns mainGlobals mg → mg d.name = some (.ref fa) →
      ∃ fd : FuncData, (∀ (s : Shared) (u : Value), BindsTo s fd ⟨[u], []⟩ [("script", u)]) ∧ ∀ base : Heap, (K w.params).In base → base.Ns mainGlobals mg → BMain mg base → (∀ q ∈ [(c, Pt)], PySem.W.CodeHd base q.1 q.2) → FnOk l.prog w (K w.params) mg base CX0 10 fa fd ["script"] (spLawT (K w.params) Pt qsP)) :
    PySem.W.WalkO q loose XP YP l.row.toRowW d [] (fun f vs => PySem.call f vs) :=
  L2.walk_ofT (n := 63) (k := 10) (x := "script") (CX := fun _ => CX0) (sp := fun w => spLawT (K w.params) Pt qsP) (tabs := [(c, Pt)]) hn (by decide) hdf ⟨rfl, by decide, by decide⟩ hY hT hK F (fun _ H a ns hl hS hTb => ⟨a, ns, rfl, hS, hl, ⟨#[], hTb (c, Pt) List.mem_cons_self, trivial, fun _ _ _ e => by cases e⟩, fun _ => rfl⟩) fun _ _ _ _ _ z => z
end My
open PySem PySem.W PyProof.Rows
set_option maxRecDepth 100000 in
set_option maxHeartbeats 0 in
theorem PySem.Challenge.cw_slipseen_k12_whole_two_schemes_together_holds : PySem.Challenge.rw_slipseen_k12_whole_two_schemes_together.Holds := by
  w_on; o_law; k_head; (case hw => w_witness2)
  k_fill
  refine' My.walk (l := PySem.Challenge.rw_slipseen_k12_whole_two_schemes_together) (c := ?cTab) (Pt := ?pTab) rfl rfl (fun w h Y => PySem.W.km_in_of Y) ?hTab ?hNo ?F
  case hTab =>
    intro w mg mb mean h KX T
    refine' My.tabs_one (PySem.W.tab_of (x := PySem.Str.ofString "parted") T KX rfl (My.tabIn_mk (st := My.s_parted) ?a ?l ?m ?e))
    case a => k_is
    case l => k_is
    case m => k_is
    case e => rfl
  case hNo =>
    intro w
    kernel_rfl
  case F =>
    intro w mg fa h KX G hmg
    refine' My.all_mk KX G hmg ?d1 ?d2 ?d3 ?d4 ?d5 ?d6 ?d7 ?d8 ?d9 ?d10 ?d11 ?d12 ?d13 ?d14 ?d15 ?d16 ?d17 ?d18 ?d19 ?d20 ?d21 ?d22 ?d23 ?d24 ?d25 ?d26 ?d27 ?d28 ?c0 ?c1 ?c2 ?c3 ?x0 ?x1 ?x2 ?x3 ?x4 ?x5 ?x6 ?xv ?xb ?e1 ?e2 ?z0 ?z1 ?z2 ?z3 ?z4 ?z5 ?z6 ?z7 ?z8 ?z9 ?z10 ?z11
    case d28 => (refine' My.law_mk ?a ?l ?c ?k ?b; (case a => k_is); (case l => k_is); (case c => k_is); (case k => k_is); (case b => exact fun s v => .of_eq rfl))
    case c0 => k_is
    case c1 => k_is
    case c2 => k_is
    case c3 => k_is
    case x0 => k_is
    case x1 => k_is
    case x2 => k_is
    case x3 => k_is
    case x4 => k_is
    case x5 => k_is
    case x6 => k_is
    case xv => k_is
    case xb => kernel_rfl
    case e1 => k_is
    case e2 => k_is
    case z0 => k_is
    case z1 => k_is
    case z2 => k_is
    case z3 => k_is
    case z4 => k_is
    case z5 => k_is
    case z6 => k_is
    case z7 => k_is
    case z8 => k_is
    case z9 => k_is
    case z10 => k_is
    case z11 => k_is
    case d19 => (refine' My.defT_mk ?a ?l ?c ?k; (case a => k_is); (case l => k_is); (case c => k_is); (case k => k_is))
    all_goals (refine' L2.def_mk ?a ?l ?c ?k; (case a => k_is); (case l => k_is); (case c => k_is); (case k => k_is))
#print axioms PySem.Challenge.cw_slipseen_k12_whole_two_schemes_together_holds
