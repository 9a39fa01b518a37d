import PyProof.Rows.All
import Wide.All
import OpenK.AllK
import Wide.FinOn
import Lean
import PyProof.EqAt
import PyProof.EqKinds
import PyProof.TupleCall
import PySem.Challenge.RW_slipseen_k16_schemes_refused
set_option Elab.async false
noncomputable section
set_option maxHeartbeats 8000000
set_option linter.all false
set_option maxRecDepth 100000
namespace L2
open PySem PySem.Spec PyProof.Rows
abbrev Key:=Sum Int Str
def keyIs:Key→Value→Bool
 | .inl k,v=>Value.isInt k v
 | .inr x,v=>Value.isStrOf x v
def keyH (w:World):Key→Int
 | .inl k=>hashInt k
 | .inr x=>hashStr w x
theorem keyIs_shape:∀ {k:Key}{v:Value},keyIs k v=true→(∃ i t,k=Sum.inl i∧v=Value.int i t)∨(∃ x t,k=Sum.inr x∧v=Value.str x t)
 | .inl i,v,h=>by
  obtain ⟨t,e⟩:=Value.isInt_shape (k:=i) (v:=v) h
  exact .inl ⟨i,t,rfl,e⟩
 | .inr x,v,h=>by
  obtain ⟨t,e⟩:=Value.isStrOf_shape (x:=x) (v:=v) h
  exact .inr ⟨x,t,rfl,e⟩
theorem key_ll (a b:Int):decide ((Sum.inl a:Key)=Sum.inl b)=(a == b):=by
 by_cases e:a=b
 ·subst e;simp
 ·have h:¬(Sum.inl a:Key)=Sum.inl b:=fun q=>e (Sum.inl.inj q)
  rw [decide_eq_false h]
  exact (beq_eq_false_iff_ne.mpr e).symm
theorem key_rr (a b:Str):decide ((Sum.inr a:Key)=Sum.inr b)=decide (a=b):=by
 by_cases e:a=b
 ·subst e;simp
 ·have h:¬(Sum.inr a:Key)=Sum.inr b:=fun q=>e (Sum.inr.inj q)
  rw [decide_eq_false h,decide_eq_false e]
theorem key_lr (a:Int) (b:Str):decide ((Sum.inl a:Key)=Sum.inr b)=false:=decide_eq_false (fun q=>nomatch q)
theorem key_rl (a:Str) (b:Int):decide ((Sum.inr a:Key)=Sum.inl b)=false:=decide_eq_false (fun q=>nomatch q)
def mixKind (prog:Program) (w:World):PySem.KeyKind prog w Key where
 is:=keyIs
 hash:=keyH w
 inj:=fun v a b ha hb=>by
  rcases keyIs_shape ha with ⟨i,t,rfl,rfl⟩ | ⟨x,t,rfl,rfl⟩
  ·rcases keyIs_shape hb with ⟨j,u,rfl,e⟩ | ⟨y,u,rfl,e⟩
   ·injection e with e1 _;rw [e1]
   ·exact nomatch e
  ·rcases keyIs_shape hb with ⟨j,u,rfl,e⟩ | ⟨y,u,rfl,e⟩
   ·exact nomatch e
   ·injection e with e1 _;rw [e1]
 byValue:=fun k v h=>by
  rcases keyIs_shape h with ⟨i,t,rfl,rfl⟩ | ⟨x,t,rfl,rfl⟩<;>rfl
 pyHash:=fun hv h=>by
  rcases keyIs_shape hv with ⟨i,t,rfl,rfl⟩ | ⟨x,t,rfl,rfl⟩
  ·exact wpAny_pyHash_int h
  ·exact wpAny_pyHash_str h
 eqBool:=fun hu hv h=>by
  rcases keyIs_shape hu with ⟨i,t,rfl,rfl⟩ | ⟨x,t,rfl,rfl⟩
  ·rcases keyIs_shape hv with ⟨j,u,rfl,rfl⟩ | ⟨y,u,rfl,rfl⟩
   ·rw [key_ll] at h;exact wpAny_eqBool_int h
   ·rw [key_lr] at h;exact SeqAt.EqAt.int_str i t y u _ _ _ _ h
  ·rcases keyIs_shape hv with ⟨j,u,rfl,rfl⟩ | ⟨y,u,rfl,rfl⟩
   ·rw [key_rl] at h;exact SeqAt.EqAt.str_int x t j u _ _ _ _ h
   ·rw [key_rr] at h;exact wpAny_eqBool_str h
 «strs»:=fun k x t v h=>by
  rcases keyIs_shape h with ⟨i,u,rfl,e⟩ | ⟨y,u,rfl,e⟩
  ·exact nomatch e
  ·injection e with e1 _
   subst e1
   cases v<;>rfl
end L2
namespace L2
open PySem PySem.Spec PyProof.Rows
inductive V where
 | non | bl (b:Bool) | int (i:Int) | str (x:Str) | byt (b:Array UInt8) | flt (b:UInt64) | ref (a:Addr) | ty (n:String)
 deriving DecidableEq
def RelV:V→Value→Prop
 | .non,u=>u=Value.none
 | .bl b,u=>u=Value.bool b
 | .int i,u=>∃ t,u=Value.int i t
 | .str x,u=>∃ t,u=Value.str x t
 | .byt b,u=>∃ t,u=Value.bytes b t
 | .flt b,u=>∃ t,u=Value.float b t
 | .ref a,u=>u=Value.ref a
 | .ty n,u=>u=Value.type n
abbrev Vals:List V→List Value→Prop:=Paired RelV
theorem Vals.length {xs:List V}{us:List Value} (r:Vals xs us):xs.length=us.length:=Paired.length r
theorem Vals.get:∀ {xs:List V}{us:List Value}{i:Nat}{x:V},Vals xs us→xs[i]? = some x→∃ u,us[i]? = some u∧RelV x u
 | _,_,_,_,.nil,e=>by simp at e
 | _,_,0,_,.cons r _,e=>by simp at e;subst e;exact ⟨_,rfl,r⟩
 | _,_,i+1,x,.cons _ t,e=>by
  obtain ⟨u,h1,h2⟩:=Vals.get (i:=i) (x:=x) t (by simpa using e)
  exact ⟨u,by simpa using h1,h2⟩
theorem Vals.set {x:V}{u:Value} (r:RelV x u):∀ {xs:List V}{us:List Value} (i:Nat),Vals xs us→Vals (xs.set i x) (us.set i u)
 | _,_,_,.nil=>.nil
 | _,_,0,.cons _ t=>.cons r t
 | _,_,i+1,.cons q t=>.cons q (Vals.set r i t)
theorem Vals.append:∀ {xs ys:List V}{us ws:List Value},Vals xs us→Vals ys ws→Vals (xs++ys) (us++ws)
 | _,_,_,_,.nil,s=>s
 | _,_,_,_,.cons r t,s=>.cons r (Vals.append t s)
theorem Vals.take:∀ {xs:List V}{us:List Value} (n:Nat),Vals xs us→Vals (xs.take n) (us.take n)
 | _,_,0,_=>.nil
 | _,_,_+1,.nil=>.nil
 | _,_,n+1,.cons r t=>.cons r (Vals.take n t)
theorem Vals.drop:∀ {xs:List V}{us:List Value} (n:Nat),Vals xs us→Vals (xs.drop n) (us.drop n)
 | _,_,0,r=>r
 | _,_,_+1,.nil=>.nil
 | _,_,n+1,.cons _ t=>Vals.drop n t
def RelO:Option V→Option Value→Prop
 | some v,some u=>RelV v u
 | none,none=>True
 | _,_=>False
def KV {κ:Type}:List (κ×V)→List (κ×Value)→Prop:=Paired fun (p:κ×V) (q:κ×Value)=>p.1=q.1∧RelV p.2 q.2
def kV:Key→V
 | .inl i=>.int i
 | .inr x=>.str x
inductive HO where
 | lst (xs:List V)
 | tup (xs:List V)
 | dK (kvs:List (Key×V)) | dT (kvs:List (List Key×V))
 | set (S:Int→Bool) (n:Nat)
 | ins (C dx:Addr) (fs:List (Str×V))
 | own (x:Addr)
 | xd (fs:List (Str×V))
 | met (f x:Addr)
 | rng (lo hi:Int)
 | frz (o:Obj) (u:HO)
 | tbl (ps:Array Value)
 | ext (φ:Heap→Prop)
abbrev Hp:=Addr→Option HO
def upd (H:Hp) (a:Addr) (o:HO):Hp:=fun b=>if b=a then some o else H b
theorem upd_same {H:Hp}{a:Addr}{o:HO}:upd H a o a=some o:=by unfold upd;rw [if_pos rfl]
theorem upd_ne {H:Hp}{a b:Addr}{o:HO} (h:b≠a):upd H a o b=H b:=by unfold upd;rw [if_neg h]
theorem upd_upd {H:Hp}{a:Addr}{o u:HO}:upd (upd H a o) a u=upd H a u:=by
 funext b;unfold upd;split<;>rfl
theorem ne_of {H:Hp}{a b:Addr}{o u:HO} (h:H a=some o) (h':H b=some u) (d:o≠u):a≠b:=by
 intro e;subst e;rw [h] at h';exact d (Option.some.inj h')
theorem ne_of_none {H:Hp}{a b:Addr}{o:HO} (h:H a=some o) (h':H b=none):a≠b:=by
 intro e;subst e;rw [h] at h';cases h'
def TupP (h:Heap) (a:Addr) (its:Array Value):Prop:=∃ o,h.get? a=some o∧(o.cls=.type "tuple"∧∃ n,o.data=.seq its n)∧o.dict=none
theorem TupP.tup {h:Heap}{a:Addr}{its:Array Value} (p:TupP h a its):IsTup h a its:=let ⟨o,e,c,_⟩:=p;⟨o,e,c.1,c.2⟩
theorem TupP.new (h:Heap) (its:Array Value):TupP (h.push { cls:=.type "tuple",data:=.seq its }) h.objs.size its:=⟨_,Heap.get?_push_size _ rfl,⟨rfl,_,rfl⟩,rfl⟩
section
variable (P:Program) (w:World)
def ObjOk (H:Hp) (h:Heap) (a:Addr):HO→Prop
 | .lst xs=>xs.length≤sizeLine∧∃ (its:List Value) (n:Nat),Vals xs its∧h.get? a=some { cls:=.type "list",data:=.seq its.toArray n }
 | .tup xs=>xs.length≤sizeLine∧∃ its:List Value,Vals xs its∧TupP h a its.toArray
 | .dK kvs=>kvs.length≤sizeLine∧(a == sysModules)=false∧∃ vs,KV kvs vs∧h.DictOf (mixKind P w) a vs
 | .dT kvs=>kvs.length≤sizeLine∧(a == sysModules)=false∧∃ xs:List (List Key×Addr×Value),
   Paired (fun (p:List Key×V) (q:List Key×Addr×Value)=>p.1=q.1∧H q.2.1=some (.tup (p.1.map kV))∧RelV p.2 q.2.2) kvs xs ∧
   ∃ o es ep,h.get? a=some o∧o.ExactDict∧o.data=.dict es ep∧es.toList=xs.map (entryOfKey (tupleKind (mixKind P w)))∧(xs.map (·.1)).Nodup
 | .set S n=>h.SetOf (intKind P w) a S n
 | .ins C dx fs=>H dx=some (.own a)∧fs.length≤1000∧dx≠a∧h.get? a=some (PySem.W.instObj C dx) ∧
   ∃ mA,h.Ns1 dx mA∧(∀ f,RelO (fs.lookup f) (mA f))∧PySem.Within mA (fs.map (·.1))
 | .own _=>∃ o,h.get? a=some o
 | .xd fs=>∃ mA,h.Ns1 a mA∧∀ f,RelO (fs.lookup f) (mA f)
 | .rng lo hi=>∃ t u v,h.get? a=some { cls:=.type "range",data:=.fields #[.int lo t,.int hi u,.int 1 v] }
 | .frz o u=>h.get? a=some o∧ObjOk H h a u
 | .tbl ps=>h.get? a=some { cls:=.none,data:=.fields ps }
 | .met f x=>h.get? a=some (PySem.W.methodObj (.ref f) (.ref x))
 | .ext φ=>φ h∧(∃ o,h.get? a=some o)∧∀ h1 h2:Heap,φ h1→(∀ o,h1.get? a=some o→h2.get? a=some o)→φ h2
def HOk (H:Hp) (h:Heap):Prop:=∀ a o,H a=some o→ObjOk P w H h a o
end
section
variable {P:Program}{w:World}{H H':Hp}{h h':Heap}{a:Addr}{o:HO}
theorem ObjOk.lt (x:ObjOk P w H h a o):a < h.objs.size:=by
 cases o with
 | lst xs=>obtain ⟨_,_,_,_,e⟩:=x;exact Heap.lt_size e
 | tup xs=>obtain ⟨_,_,_,p⟩:=x;exact p.tup.lt
 | dK kvs=>obtain ⟨_,_,_,_,o,_,_,e,_⟩:=x;exact Heap.lt_size e
 | dT kvs=>obtain ⟨_,_,_,_,o,_,_,e,_⟩:=x;exact Heap.lt_size e
 | set S n=>obtain ⟨o,_,_,_,e,_⟩:=x;exact Heap.lt_size e
 | ins C dx fs=>obtain ⟨_,_,_,e,_⟩:=x;exact Heap.lt_size e
 | own y=>obtain ⟨_,e⟩:=x;exact Heap.lt_size e
 | xd fs=>obtain ⟨_,⟨_,_,_,e,_⟩,_⟩:=x;exact Heap.lt_size e
 | rng lo hi=>obtain ⟨_,_,_,e⟩:=x;exact Heap.lt_size e
 | frz ob u=>obtain ⟨e,_⟩:=x;exact Heap.lt_size e
 | tbl ps=>exact Heap.lt_size (show h.get? a=some _ from x)
 | met f y=>exact Heap.lt_size (show h.get? a=some _ from x)
 | ext φ=>obtain ⟨_,⟨_,e⟩,_⟩:=x;exact Heap.lt_size e
theorem Paired.mapP {α β:Type}{F G:α→β→Prop}:∀ {l₁:List α}{l₂:List β},Paired F l₁ l₂→(∀ a b,F a b→G a b)→Paired G l₁ l₂
 | _,_,.nil,_=>.nil
 | _,_,.cons r t,f=>.cons (f _ _ r) (Paired.mapP t f)
theorem ObjOk.stay (x:ObjOk P w H h a o) (k:∀ b u,(b=a∨H b=some (.own a))→h.get? b=some u→h'.get? b=some u)
  (ho:∀ b,H b=some (.own a)→H' b=some (.own a)) (ht:∀ b xs,H b=some (.tup xs)→H' b=some (.tup xs)):ObjOk P w H' h' a o:=by
 induction o with
 | lst xs=>obtain ⟨z,its,n,r,e⟩:=x;exact ⟨z,its,n,r,k _ _ (.inl rfl) e⟩
 | tup xs=>obtain ⟨z,its,r,ob,e,c⟩:=x;exact ⟨z,its,r,ob,k _ _ (.inl rfl) e,c⟩
 | dK kvs=>obtain ⟨z,y,vs,r,ob,es,ep,e,c⟩:=x;exact ⟨z,y,vs,r,ob,es,ep,k _ _ (.inl rfl) e,c⟩
 | dT kvs =>
  obtain ⟨z,y,xs,r,ob,es,ep,e,c⟩:=x
  exact ⟨z,y,xs,Paired.mapP r fun p q z=>⟨z.1,ht _ _ z.2.1,z.2.2⟩,ob,es,ep,k _ _ (.inl rfl) e,c⟩
 | set S n=>obtain ⟨ob,es,ep,t,e,c⟩:=x;exact ⟨ob,es,ep,t,k _ _ (.inl rfl) e,c⟩
 | ins C dx fs =>
  obtain ⟨d,z,ne,e,mA,⟨od,es,ep,e2,c⟩,r⟩:=x
  exact ⟨ho _ d,z,ne,k _ _ (.inl rfl) e,mA,⟨od,es,ep,k _ _ (.inr d) e2,c⟩,r⟩
 | own y=>obtain ⟨ob,e⟩:=x;exact ⟨ob,k _ _ (.inl rfl) e⟩
 | xd fs=>obtain ⟨mA,⟨od,es,ep,e,c⟩,r⟩:=x;exact ⟨mA,⟨od,es,ep,k _ _ (.inl rfl) e,c⟩,r⟩
 | rng lo hi=>obtain ⟨t,u,v,e⟩:=x;exact ⟨t,u,v,k _ _ (.inl rfl) e⟩
 | frz ob u ih=>obtain ⟨e,q⟩:=x;exact ⟨k _ _ (.inl rfl) e,ih q⟩
 | tbl ps =>
  have e:h.get? a=some { cls:=.none,data:=.fields ps }:=x
  show h'.get? a=some { cls:=.none,data:=.fields ps }
  exact k a _ (.inl rfl) e
 | met f y =>
  have e:h.get? a=some (PySem.W.methodObj (.ref f) (.ref y)):=x
  show h'.get? a=some (PySem.W.methodObj (.ref f) (.ref y))
  exact k a _ (.inl rfl) e
 | ext φ=>obtain ⟨p,⟨o,e⟩,st⟩:=x;exact ⟨st _ _ p fun o q=>k _ _ (.inl rfl) q,⟨o,k _ _ (.inl rfl) e⟩,st⟩
theorem HOk.lt (x:HOk P w H h) (e:H a=some o):a < h.objs.size:=(x a o e).lt
theorem HOk.fresh (x:HOk P w H h) (e:h.objs.size≤a):H a=none:=by
 cases q:H a with
 | none=>rfl
 | some u=>exact absurd (Nat.lt_of_lt_of_le (x.lt q) e) (Nat.lt_irrefl _)
theorem HOk.kept (x:HOk P w H h) (k:∀ b u,h.get? b=some u→h'.get? b=some u):HOk P w H h':=fun a o e =>
 (x a o e).stay (fun b u _ q=>k b u q) (fun _ q=>q) fun _ _ q=>q
theorem HOk.laid (x:HOk P w H h) (k:∀ b u,h.get? b=some u→h'.get? b=some u) (hp:h.objs.size≤a) (new:ObjOk P w (upd H a o) h' a o):HOk P w (upd H a o) h':=fun b u e=>by
 have hn:=x.fresh hp
 by_cases hb:b=a
 ·subst hb;rw [upd_same] at e;cases e;exact new
 ·rw [upd_ne hb] at e
  exact (x b u e).stay (fun c v _ q=>k c v q) (fun c q=>by rw [upd_ne (ne_of_none q hn)];exact q) fun c xs q=>by rw [upd_ne (ne_of_none q hn)];exact q
end
def Rd (H:Hp) (a:Addr) (u:HO):Prop:=H a=some u∨∃ o,H a=some (.frz o u)
theorem Rd.ok {P:Program}{w:World}{H:Hp}{h:Heap}{a:Addr}{u:HO} (r:Rd H a u) (x:HOk P w H h):ObjOk P w H h a u:=by
 rcases r with r | ⟨o,r⟩
 ·exact x a u r
 ·obtain ⟨_,q⟩:=x a _ r
  exact q
def Mut:Option HO→Prop
 | some (.lst _)=>True
 | some (.dK _)=>True
 | some (.dT _)=>True
 | some (.set _ _)=>True
 | some (.ins _ _ _)=>True
 | some (.ext _)=>True
 | _=>False
section
variable {P:Program}{w:World}{H:Hp}{h h':Heap}{x e:Addr}{o':HO}
theorem HOk.write (ok:HOk P w H h) (mu:Mut (H x)) (he:e=x∨H e=some (.own x)) (k:∀ b u,b≠e→h.get? b=some u→h'.get? b=some u) (heo:∃ u,h'.get? e=some u)
  (new:ObjOk P w (upd H x o') h' x o'):HOk P w (upd H x o') h':=fun b u q=>by
 have nown:∀ c y,H c=some (.own y)→c≠x:=fun c y r z=>by subst z;rw [r] at mu;exact mu
 have ntup:∀ c xs,H c=some (.tup xs)→c≠x:=fun c xs r z=>by subst z;rw [r] at mu;exact mu
 by_cases hb:b=x
 ·subst hb;rw [upd_same] at q;cases q;exact new
 ·rw [upd_ne hb] at q
  by_cases hbe:b=e
  ·have q':H b=some (.own x):=by
    rcases he with z | z
    ·exact absurd (hbe.trans z) hb
    ·rw [hbe];exact z
   rw [q] at q';cases q'
   obtain ⟨v,hv⟩:=heo
   exact ⟨v,by rw [hbe];exact hv⟩
  ·refine (ok b u q).stay (fun c v hc r=>k c v ?_ r) (fun c r=>by rw [upd_ne (nown c b r)];exact r) fun c xs r=>by rw [upd_ne (ntup c xs r)];exact r
   rcases hc with rfl | hc
   ·exact hbe
   ·rintro rfl
    rcases he with z | z
    ·exact nown c b hc z
    ·rw [hc] at z;cases z;exact hb rfl
end
structure Un (fs ex:List Addr) (H H':Hp) (h h':Heap):Prop where
 keep:∀ b o,h.get? b=some o→H b=none→b∉fs→b∉ex→h'.get? b=some o
 slot:∀ b o,h.get? b=some o→H b=none→b∈fs→b∉ex→∃ sl,h'.get? b=some { o with slots:=sl }
 free:∀ b o,h.get? b=some o→H b=none→b∉ex→H' b=none
 there:∀ b o,h.get? b=some o→b∉ex→∃ o',h'.get? b=some o'
 tups:∀ b xs,H b=some (.tup xs)→H' b=some (.tup xs)
 frzs:∀ b o u,H b=some (.frz o u)→H' b=some (.frz o u)
 tbls:∀ b ps,H b=some (.tbl ps)→∃ more,H' b=some (.tbl (ps++more))
section
variable {fs fs' ex ex':List Addr}{H H1 H2:Hp}{h h1 h2 h':Heap}{a x e:Addr}{o:HO}
theorem Un.any (u:Un fs ex H H1 h h1) {b:Addr}{ob:Obj} (q:h.get? b=some ob) (n:H b=none) (hx:b∉ex):∃ sl,h1.get? b=some { ob with slots:=sl }:=by
 by_cases hb:b∈fs
 ·exact u.slot b ob q n hb hx
 ·exact ⟨ob.slots,u.keep b ob q n hb hx⟩
theorem Un.kept (k:∀ b u,h.get? b=some u→h'.get? b=some u):Un fs ex H H h h' :=
 ⟨fun b ob q _ _ _=>k b ob q,fun b ob q _ _ _=>⟨ob.slots,k b ob q⟩,fun _ _ _ n _=>n,fun b ob q _=>⟨ob,k b ob q⟩,fun _ _ q=>q,fun _ _ _ q=>q,fun _ ps q=>⟨#[],by rw [q];simp⟩⟩
theorem Un.refl:Un fs ex H H h h:=Un.kept fun _ _ q=>q
theorem Un.laid (k:∀ b u,h.get? b=some u→h'.get? b=some u) (hp:h.objs.size≤a) (hn:H a=none):Un fs ex H (upd H a o) h h' where
 keep:=fun b u q _ _ _=>k b u q
 slot:=fun b u q _ _ _=>⟨u.slots,k b u q⟩
 free:=fun b u q n _=>by rw [upd_ne (Nat.ne_of_lt (Nat.lt_of_lt_of_le (Heap.lt_size q) hp))];exact n
 there:=fun b u q _=>⟨u,k b u q⟩
 tups:=fun b xs q=>by rw [upd_ne (ne_of_none q hn)];exact q
 frzs:=fun b u xs q=>by rw [upd_ne (ne_of_none q hn)];exact q
 tbls:=fun b ps q=>⟨#[],by rw [upd_ne (ne_of_none q hn),q];simp⟩
theorem Un.write (mu:Mut (H x)) (he:e=x∨H e=some (.own x)) (k:∀ b u,b≠e→h.get? b=some u→h'.get? b=some u) (heo:∃ u,h'.get? e=some u):Un fs ex H (upd H x o) h h':=by
 have hx:∀ b,H b=none→b≠x:=fun b n z=>by subst z;rw [n] at mu;exact mu
 have hb:∀ b,H b=none→b≠e:=fun b n z=>by
  subst z
  rcases he with r | r
  ·exact hx b n r
  ·rw [n] at r;cases r
 have hm:∀ b u,H b=some u→¬Mut (some u)→b≠x:=fun b u q nm z=>by subst z;rw [q] at mu;exact nm mu
 refine ⟨fun b u q n _ _=>k b u (hb b n) q,fun b u q n _ _=>⟨u.slots,k b u (hb b n) q⟩,fun b u q n _=>by rw [upd_ne (hx b n)];exact n,fun b u q _=>?_,
  fun b xs q=>by rw [upd_ne (hm b _ q fun z=>z)];exact q,fun b u xs q=>by rw [upd_ne (hm b _ q fun z=>z)];exact q,fun b ps q=>⟨#[],by rw [upd_ne (hm b _ q fun z=>z),q];simp⟩⟩
 by_cases hbe:b=e
 ·subst hbe;exact heo
 ·exact ⟨u,k b u hbe q⟩
end
def trk (h:Heap) (H:Hp):List Addr:=(List.range h.objs.size).filter fun a=>(H a).isSome
def hidT (h:Heap) (H:Hp):Heap:=PySem.W.hideAll h (trk h H)
theorem hidT_size (h:Heap) (H:Hp):(hidT h H).objs.size=h.objs.size:=PySem.W.hideAll_size _ _
theorem hidT_get {h:Heap}{H:Hp}{b:Addr}{o:Obj} (e:h.get? b=some o) (n:H b=none):(hidT h H).get? b=some o :=
 PySem.W.hideAll_get _ e fun hm=>by
  have q:(H b).isSome=true:=(List.mem_filter.mp hm).2
  rw [n] at q;simp at q
theorem of_hidT {h:Heap}{H:Hp}{b:Addr}{o:Obj} (e:(hidT h H).get? b=some o):h.get? b=some o∧H b=none:=by
 have e':h.get? b=some o:=PySem.W.of_hideAll (trk h H) e
 refine ⟨e',?_⟩
 cases q:H b with
 | none=>rfl
 | some x =>
  have hm:b∈trk h H:=List.mem_filter.mpr ⟨List.mem_range.mpr (Heap.lt_size e'),by simp [q]⟩
  have z:(hidT h H).get? b=none:=PySem.W.hideAll_none (trk h H) hm
  rw [z] at e;cases e
def allNews (g h:Heap) (L:Addr):List (Addr×Obj):=(List.range h.objs.size).filterMap fun a=>if a=L∨(g.get? a).isSome=true then none else (h.get? a).map fun o=>(a,o)
def rest (g h:Heap) (L d:Addr):List (Addr×Obj):=(allNews g h L).filter fun p=>decide (p.1≠d)
end L2
namespace L2
open PySem PySem.Spec PyProof.Rows
structure Mod (K:PySem.W.Frag) (mg:Str→Option Value) (base:Heap):Prop where
 kin:K.In base
 glob:base.Ns mainGlobals mg
 blt:∃ mb,base.Ns builtinsNs mb∧∀ x:Str,x≠"__name__"→mb x=bootBuiltins x
 nolimit:base.NoLimit
structure Cx where
 prog:Program
 w:World
 K:PySem.W.Frag
 mg:Str→Option Value
 base:Heap
 A:Around
 N:List Str
 s₀:Shared
 H₀:Hp
 env:Env
 outer:List Env
 stack:List Env
 ex:List Addr
 fn:Str→Bool
 calm:Bool
 pn:List (Addr×Obj)
 xe:Value→Shared→Prop
def frs (l:List Env):List Addr:=l.filterMap (·.frame)
abbrev Cx.fs (X:Cx):List Addr:=frs X.outer
def Vis (sc:Scope) (x:Str):Prop:=sc.names.lookup x=some .local∨sc.names.lookup x=some .cell∨sc.names.lookup x=some .free
def Loc (sc:Scope) (x:Str):Prop:=sc.names.lookup x=some .local∨sc.names.lookup x=some .cell
def Look (env:Env) (h:Heap) (m:Str→Option Value) (x:Str) (u:Value):Prop :=
 (env.kindOf x=some .local∧m x=some u)∨((env.kindOf x=some .cell∨env.kindOf x=some .free)∧∃ c,env.cells.lookup x=some c∧h.IsCell c (some u))
structure Cx.Ok (X:Cx):Prop where
 mod:Mod X.K X.mg X.base
 kind:X.env.scope.kind=.function
 glob:X.env.globals=mainGlobals
 blt:X.env.builtins=builtinsNs
 above:X.s₀.heap.objs.size≤X.env.locals
 inj:∀ x y c,X.env.cells.lookup x=some c→X.env.cells.lookup y=some c→x=y
 has:∀ x,(X.env.kindOf x=some .cell∨X.env.kindOf x=some .free)→∃ c,X.env.cells.lookup x=some c
 cab:∀ x c,X.fn x=true→X.env.cells.lookup x=some c→X.s₀.heap.objs.size≤c
 hd:X.calm=true→X.A.handled=none
 frames:X.A.frames=some X.stack
 stk:X.stack=X.outer∨(X.stack=X.env :: X.outer∧X.env.frame=some X.env.locals)
 exf:∀ b∈X.ex,b≠X.env.locals∧∀ x c,X.env.cells.lookup x=some c→c≠b
 bs:∀ b o,X.base.get? b=some o→X.s₀.heap.get? b=some o∧X.H₀ b=none
 bsz:X.base.objs.size≤X.s₀.heap.objs.size
 noex:∀ b o,X.base.get? b=some o→b∉X.ex
 exfs:∀ b∈X.ex,b∉X.fs
 funs:X.s₀.heap.FunFrames X.base X.outer
 frf:∀ b∈X.fs,X.H₀ b=none
structure Inv (X:Cx) (pins:List (Addr×Obj)) (σ:List (Option V)) (H:Hp) (s:Shared):Prop where
 ok:X.Ok
 os:s.os=X.s₀.os
 bare:AllBare s.gens
 base:Un X.fs X.ex X.H₀ H X.s₀.heap s.heap
 loc:∃ m,s.heap.Ns X.env.locals m∧∀ (i:Nat) (x:Str) (v:V),X.N[i]? = some x→σ[i]? = some (some v)→Vis X.env.scope x→∃ u,RelV v u∧Look X.env s.heap m x u
 cell:∀ x c,X.env.cells.lookup x=some c→∃ v,s.heap.IsCell c v
 free:H X.env.locals=none
 freeC:∀ x c,X.env.cells.lookup x=some c→H c=none
 pin:∀ p∈X.pn++pins,s.heap.get? p.1=some p.2∧H p.1=none∧p.1≠X.env.locals∧p.1∉X.fs∧∀ v,p.2.data≠.cell v
 hok:HOk X.prog X.w H s.heap
 len:σ.length=X.N.length
section
variable {X:Cx}{pins:List (Addr×Obj)}{σ:List (Option V)}{H H':Hp}{s:Shared}{h':Heap}
theorem Cx.Ok.nofr (ok:X.Ok) {b:Addr}{o:Obj} (e:X.base.get? b=some o):b∉X.fs:=fun hb=>by
 have:=(ok.funs.mem hb).1
 rw [e] at this;cases this
theorem Inv.bs (I:Inv X pins σ H s):∀ b o,X.base.get? b=some o→s.heap.get? b=some o∧H b=none:=fun b o e =>
 ⟨I.base.keep b o (I.ok.bs b o e).1 (I.ok.bs b o e).2 (I.ok.nofr e) (I.ok.noex b o e),I.base.free b o (I.ok.bs b o e).1 (I.ok.bs b o e).2 (I.ok.noex b o e)⟩
theorem Inv.bk (I:Inv X pins σ H s):∀ b o,X.base.get? b=some o→s.heap.get? b=some o:=fun b o e=>(I.bs b o e).1
theorem Inv.mod (I:Inv X pins σ H s):Mod X.K X.mg X.base:=I.ok.mod
theorem Inv.kIn (I:Inv X pins σ H s):X.K.In s.heap:=I.ok.mod.kin.keeps I.bk
theorem Inv.lt (I:Inv X pins σ H s):X.env.locals < s.heap.objs.size:=let ⟨_,hn,_⟩:=I.loc;hn.lt
theorem Inv.sz (I:Inv X pins σ H s):X.s₀.heap.objs.size≤s.heap.objs.size:=Nat.le_trans I.ok.above (Nat.le_of_lt I.lt)
theorem Inv.nofs (I:Inv X pins σ H s) {a:Addr} (h:s.heap.objs.size≤a):a∉X.fs:=fun hb=>by
 obtain ⟨_,o,ho,_⟩:=I.ok.funs.mem hb
 exact absurd (Nat.lt_of_lt_of_le (Heap.lt_size ho) (Nat.le_trans I.sz h)) (Nat.lt_irrefl _)
theorem Inv.cne (I:Inv X pins σ H s):∀ x c,X.env.cells.lookup x=some c→c≠X.env.locals:=fun x c e z=>by
 obtain ⟨v,o,ho,hd⟩:=I.cell x c e
 obtain ⟨m,⟨o',es,ep,ho',hd',_⟩,_⟩:=I.loc
 rw [z,ho'] at ho;cases ho;rw [hd'] at hd;cases hd
theorem Inv.funs (I:Inv X pins σ H s):s.heap.FunFrames X.base X.outer:=by
 have all:∀ (l:List Env),(∀ b∈frs l,b∈X.fs)→X.s₀.heap.FunFrames X.base l→s.heap.FunFrames X.base l:=by
  intro l
  induction l with
  | nil=>intro _ _;trivial
  | cons env r ih =>
   intro hs hl
   obtain ⟨hk,⟨L,o,hf,hn,ho,hd⟩,hr⟩:=hl
   have hL:L∈X.fs:=hs L (by unfold frs;rw [List.filterMap_cons,hf];exact List.mem_cons_self)
   obtain ⟨sl,e⟩:=I.base.slot L o ho (I.ok.frf L hL) hL fun z=>I.ok.exfs L z hL
   exact ⟨hk,⟨L,_,hf,hn,e,hd⟩,ih (fun b hb=>hs b (by unfold frs;rw [List.filterMap_cons,hf];exact List.mem_cons_of_mem _ hb)) hr⟩
 exact all X.outer (fun _ hb=>hb) I.ok.funs
theorem Inv.stack (I:Inv X pins σ H s):s.heap.FunFrames X.base X.stack:=by
 rcases I.ok.stk with e | ⟨e,hf⟩
 ·rw [e];exact I.funs
 ·rw [e]
  obtain ⟨m,hn,_⟩:=I.loc
  refine .cons (by rw [I.ok.kind];decide) hf hn ?_ I.funs
  exact Heap.get?_none_of_le (Nat.le_trans I.ok.bsz I.ok.above)
theorem Inv.stkSub (I:Inv X pins σ H s):∀ b∈frs X.stack,b∈X.env.locals :: X.fs:=fun b hb=>by
 rcases I.ok.stk with e | ⟨e,hf⟩
 ·rw [e] at hb;exact List.mem_cons_of_mem _ hb
 ·rw [e] at hb
  unfold frs at hb
  rw [List.filterMap_cons,hf] at hb
  exact hb
theorem Inv.stkFree (I:Inv X pins σ H s):∀ b∈frs X.stack,H b=none:=fun b hb=>by
 rcases List.mem_cons.mp (I.stkSub b hb) with e | hb
 ·rw [e];exact I.free
 ·obtain ⟨_,o,ho,_⟩:=I.ok.funs.mem hb
  exact I.base.free b o ho (I.ok.frf b hb) fun z=>I.ok.exfs b z hb
theorem Inv.step {g':Array GenState}{t':Nat}{d':Drawn}{ch:List Addr} (I:Inv X pins σ H s)
  (hch:∀ b∈ch,(b∈X.ex∨X.s₀.heap.objs.size≤b)∧b≠X.env.locals∧(∀ x c,X.env.cells.lookup x=some c→c≠b)∧∀ p∈X.pn++pins,p.1≠b)
  (keep:∀ b o,b≠X.env.locals→b∉X.fs→b∉ch→s.heap.get? b=some o→H b=none→h'.get? b=some o)
  (slot:∀ b o,b≠X.env.locals→b∈X.fs→b∉ch→s.heap.get? b=some o→H b=none→∃ sl,h'.get? b=some { o with slots:=sl }) (free:∀ b o,b∉ch→s.heap.get? b=some o→H b=none→H' b=none)
  (there:∀ b o,b∉ch→s.heap.get? b=some o→∃ o',h'.get? b=some o')
  (tups:∀ b xs,H b=some (.tup xs)→H' b=some (.tup xs)) (frzs:∀ b o u,H b=some (.frz o u)→H' b=some (.frz o u)) (tbls:∀ b ps,H b=some (.tbl ps)→∃ more,H' b=some (.tbl (ps++more)))
  (ns:∀ m,s.heap.Ns X.env.locals m→h'.Ns X.env.locals m) (hok:HOk X.prog X.w H' h') (hg:AllBare g') :
  Inv X pins σ H' { s with heap:=h',gens:=g',drawn:=d',toks:=t' }:=by
 have neL:∀ b o,X.s₀.heap.get? b=some o→b≠X.env.locals:=fun b o e=>Nat.ne_of_lt (Nat.lt_of_lt_of_le (Heap.lt_size e) I.ok.above)
 have neC:∀ b o,X.s₀.heap.get? b=some o→b∉X.ex→b∉ch:=fun b o e hx hb=>by
  rcases (hch b hb).1 with z | z
  ·exact hx z
  ·exact absurd (Nat.lt_of_lt_of_le (Heap.lt_size e) z) (Nat.lt_irrefl _)
 have cellK:∀ x c,X.env.cells.lookup x=some c→∀ v,s.heap.IsCell c v→h'.IsCell c v:=fun x c e v ⟨o,ho,hd⟩=>by
  have nch:c∉ch:=fun z=>(hch c z).2.2.1 x c e rfl
  by_cases hc:c∈X.fs
  ·obtain ⟨sl,q⟩:=slot c o (I.cne x c e) hc nch ho (I.freeC x c e)
   exact ⟨_,q,hd⟩
  ·exact ⟨o,keep c o (I.cne x c e) hc nch ho (I.freeC x c e),hd⟩
 refine ⟨I.ok,I.os,hg,⟨fun b o e n hb hx=>?_,fun b o e n hb hx=>?_,fun b o e n hx=>?_,fun b o e hx=>?_,fun b xs e=>tups b xs (I.base.tups b xs e),fun b o xs e=>frzs b o xs (I.base.frzs b o xs e),fun b ps e=>?_⟩,?_,fun x c e=>?_,?_,fun x c e=>?_,fun p hp=>?_,hok,I.len⟩
 ·exact keep b o (neL b o e) hb (neC b o e hx) (I.base.keep b o e n hb hx) (I.base.free b o e n hx)
 ·obtain ⟨sl,e1⟩:=I.base.slot b o e n hb hx
  obtain ⟨sl',e2⟩:=slot b _ (neL b o e) hb (neC b o e hx) e1 (I.base.free b o e n hx)
  exact ⟨sl',e2⟩
 ·obtain ⟨o',e1⟩:=I.base.there b o e hx
  exact free b o' (neC b o e hx) e1 (I.base.free b o e n hx)
 ·obtain ⟨o',e1⟩:=I.base.there b o e hx
  exact there b o' (neC b o e hx) e1
 ·obtain ⟨m1,e1⟩:=I.base.tbls b ps e
  obtain ⟨m2,e2⟩:=tbls b _ e1
  exact ⟨m1++m2,by rw [e2,Array.append_assoc]⟩
 ·obtain ⟨m,hn,hl⟩:=I.loc
  refine ⟨m,ns m hn,fun i x v e1 e2 e3=>?_⟩
  obtain ⟨u,r,l⟩:=hl i x v e1 e2 e3
  refine ⟨u,r,?_⟩
  rcases l with l | ⟨k,c,e,z⟩
  ·exact .inl l
  ·exact .inr ⟨k,c,e,cellK x c e _ z⟩
 ·obtain ⟨v,z⟩:=I.cell x c e
  exact ⟨v,cellK x c e v z⟩
 ·obtain ⟨m,⟨o,_,_,ho,_⟩,_⟩:=I.loc
  exact free _ o (fun z=>(hch _ z).2.1 rfl) ho I.free
 ·obtain ⟨v,o,ho,hd⟩:=I.cell x c e
  exact free c o (fun z=>(hch c z).2.2.1 x c e rfl) ho (I.freeC x c e)
 ·obtain ⟨e,n,ne,nf,d⟩:=I.pin p hp
  have nch:p.1∉ch:=fun z=>(hch p.1 z).2.2.2 p hp rfl
  exact ⟨keep p.1 p.2 ne nf nch e n,free p.1 p.2 nch e n,ne,nf,d⟩
theorem Inv.un {t':Nat} (I:Inv X pins σ H s) (u:Un X.fs [] H H' s.heap h') (hok:HOk X.prog X.w H' h'):Inv X pins σ H' { s with heap:=h',toks:=t' }:=by
 obtain ⟨m,⟨o,es,ep,ho,r⟩,_⟩:=id I.loc
 obtain ⟨sl,hL⟩:=u.any ho I.free (by simp)
 exact I.step (g':=s.gens) (d':=s.drawn) (ch:=[]) (fun _ z=>nomatch z) (fun b o _ hb _ e n=>u.keep b o e n hb (by simp)) (fun b o _ hb _ e n=>u.slot b o e n hb (by simp)) (fun b o _ e n=>u.free b o e n (by simp)) (fun b o _ e=>u.there b o e (by simp)) u.tups u.frzs u.tbls (fun m' hm=>by
  obtain ⟨o',es',ep',ho',r'⟩:=hm
  rw [ho] at ho';cases ho'
  exact ⟨_,es',ep',hL,r'⟩) hok I.bare
theorem Inv.call {g':Array GenState}{t':Nat}{d':Drawn}{ch:List Addr} (I:Inv X pins σ H s) (u:Un (frs X.stack) ch H H' s.heap h') (hok:HOk X.prog X.w H' h') (hg:AllBare g')
  (hch:∀ b∈ch,(b∈X.ex∨X.s₀.heap.objs.size≤b)∧b≠X.env.locals∧(∀ x c,X.env.cells.lookup x=some c→c≠b)∧∀ p∈X.pn++pins,p.1≠b) :
  Inv X pins σ H' { s with heap:=h',gens:=g',drawn:=d',toks:=t' }:=by
 obtain ⟨m,⟨o,es,ep,ho,r⟩,_⟩:=id I.loc
 obtain ⟨sl,hL⟩:=u.any ho I.free fun z=>(hch _ z).2.1 rfl
 exact I.step (ch:=ch) hch (fun b o hL hb hc e n=>u.keep b o e n (fun z=>(List.mem_cons.mp (I.stkSub b z)).elim hL hb) hc) (fun b o _ _ hc e n=>u.any e n hc) (fun b o hc e n=>u.free b o e n hc) (fun b o hc e=>u.there b o e hc) u.tups u.frzs u.tbls (fun m' hm=>by
  obtain ⟨o',es',ep',ho',r'⟩:=hm
  rw [ho] at ho';cases ho'
  exact ⟨_,es',ep',hL,r'⟩) hok hg
theorem Inv.turned {t':Nat}{it:Addr} (I:Inv X pins σ H s) (k:∀ b o,b≠it→s.heap.get? b=some o→h'.get? b=some o) (hn:H it=none) (hL:it≠X.env.locals)
  (h1:it∈X.ex∨X.s₀.heap.objs.size≤it) (h2:∀ x c,X.env.cells.lookup x=some c→c≠it) (h3:∀ p∈X.pn++pins,p.1≠it):Inv X pins σ H { s with heap:=h',toks:=t' }:=by
 have nit:∀ b u,H b=some u→b≠it:=fun b u e z=>by rw [z,hn] at e;cases e
 refine I.step (g':=s.gens) (d':=s.drawn) (ch:=[it]) (fun b hb=>?_) (fun b o _ _ hc e _=>k b o (fun z=>hc (by simp [z])) e) (fun b o _ _ hc e _=>⟨o.slots,k b o (fun z=>hc (by simp [z])) e⟩) (fun _ _ _ _ n=>n)
  (fun b o hc e=>⟨o,k b o (fun z=>hc (by simp [z])) e⟩) (fun _ _ e=>e) (fun _ _ _ e=>e) (fun b ps e=>⟨#[],by rw [e];simp⟩) (fun m hm=>?_) (fun b u e=>?_) I.bare
 ·have e:b=it:=by simpa using hb
  subst e
  exact ⟨h1,hL,h2,h3⟩
 ·obtain ⟨o,es,ep,ho,r⟩:=hm
  exact ⟨o,es,ep,k _ o (Ne.symm hL) ho,r⟩
 ·refine (I.hok b u e).stay (fun c v hc q=>k c v ?_ q) (fun _ q=>q) fun _ _ q=>q
  rcases hc with z | z
  ·rw [z];exact nit b u e
  ·exact nit c _ z
theorem Inv.tok (I:Inv X pins σ H s) (t:Nat):Inv X pins σ H { s with toks:=t }:=I.un (h':=s.heap) (t':=t) Un.refl I.hok
theorem Inv.kept {t':Nat} (I:Inv X pins σ H s) (k:∀ b u,s.heap.get? b=some u→h'.get? b=some u):Inv X pins σ H { s with heap:=h',toks:=t' }:=I.un (Un.kept k) (I.hok.kept k)
theorem Inv.laid {a:Addr}{o:HO}{t':Nat} (I:Inv X pins σ H s) (k:∀ b u,s.heap.get? b=some u→h'.get? b=some u) (hp:s.heap.objs.size≤a) (new:ObjOk X.prog X.w (upd H a o) h' a o) :
  Inv X pins σ (upd H a o) { s with heap:=h',toks:=t' }:=I.un (Un.laid k hp (I.hok.fresh hp)) (I.hok.laid k hp new)
theorem Inv.write {x e:Addr}{o:HO}{t':Nat} (I:Inv X pins σ H s) (mu:Mut (H x)) (he:e=x∨H e=some (.own x)) (k:∀ b u,b≠e→s.heap.get? b=some u→h'.get? b=some u) (heo:∃ u,h'.get? e=some u)
  (new:ObjOk X.prog X.w (upd H x o) h' x o):Inv X pins σ (upd H x o) { s with heap:=h',toks:=t' }:=I.un (Un.write mu he k heo) (I.hok.write mu he k heo new)
theorem Inv.weak {σ':List (Option V)} (I:Inv X pins σ H s) (hl:σ'.length=σ.length) (w:∀ (i:Nat) v,σ'[i]? = some (some v)→σ[i]? = some (some v)):Inv X pins σ' H s :=
 ⟨I.ok,I.os,I.bare,I.base,let ⟨m,hn,hl'⟩:=I.loc;⟨m,hn,fun i x v e1 e2 e3=>hl' i x v e1 (w i v e2) e3⟩,I.cell,I.free,I.freeC,I.pin,I.hok,hl.trans I.len⟩
theorem Inv.pins_of {pins':List (Addr×Obj)} (I:Inv X pins σ H s) (h:∀ p∈pins',s.heap.get? p.1=some p.2∧H p.1=none∧p.1≠X.env.locals∧p.1∉X.fs∧∀ v,p.2.data≠.cell v):Inv X pins' σ H s :=
 ⟨I.ok,I.os,I.bare,I.base,I.loc,I.cell,I.free,I.freeC,fun p hp=>(List.mem_append.mp hp).elim (fun z=>I.pin p (List.mem_append_left _ z)) (h p),I.hok,I.len⟩
theorem nodup_ix {N:List Str} (hN:N.Nodup) {i j:Nat}{x:Str} (a:N[i]? = some x) (b:N[j]? = some x):i=j:=by
 obtain ⟨h1,e1⟩:=List.getElem?_eq_some_iff.mp a
 obtain ⟨h2,e2⟩:=List.getElem?_eq_some_iff.mp b
 exact (List.getElem_inj hN).mp (e1.trans e2.symm)
theorem store_ok2 {M:Model}{A:Around}{E:Value→Shared→Prop}{i:Nat}{x:Str}{v:V}{u:Value}{Q:Unit→Shared→Prop} (I:Inv X pins σ H s) (hN:X.N.Nodup) (hi:X.N[i]? = some x) (hx:Loc X.env.scope x) (r:RelV v u)
  (h:∀ s',Inv X pins (σ.set i (some v)) H s'→(∃ a,Heap.SameBut a s.heap s'.heap∧(a=X.env.locals∨X.env.cells.lookup x=some a))→Q () s') (hf:X.fn x=true∨X.env.scope.names.lookup x=some .local:=by first | exact .inl rfl | exact .inr rfl | assumption):wpAny M A (storeName X.env x u) Q E s:=by
 obtain ⟨m,hn,hl⟩:=id I.loc
 have hcls:(X.env.scope.kind == .class||(X.env.scope.kind == .module&&X.env.locals != X.env.globals))=false:=by rw [I.ok.kind];rfl
 have hiσ:i < σ.length:=by rw [I.len];exact (List.getElem?_eq_some_iff.mp hi).1
 have cne:=I.cne
 have tracked:∀ {a:Addr}{h':Heap},(∃ o,s.heap.get? a=some o∧H a=none)→Heap.SameBut a s.heap h'→HOk X.prog X.w H h':=fun {a h'} ha hs b ob e=>by
  obtain ⟨_,_,hfree⟩:=ha
  refine (I.hok b ob e).stay (fun c w' hc q=>(hs.2 c ?_).trans q) (fun _ q=>q) fun _ _ q=>q
  rintro rfl
  rcases hc with rfl | hc
  ·rw [hfree] at e;cases e
  ·rw [hfree] at hc;cases hc
 rcases hx with hk | hk
 ·refine wpAny_storeName_local hk hn (fun h' hn' hs=>?_) hcls
  obtain ⟨oL,_,_,hoL,_⟩:=id hn
  refine h _ ⟨I.ok,I.os,I.bare,⟨fun b o e n hb hx=>?_,fun b o e n hb hx=>?_,I.base.free,fun b o e hx=>?_,I.base.tups,I.base.frzs,I.base.tbls⟩,⟨_,hn',fun j y v' e1 e2 e3=>?_⟩,fun y c e=>?_,I.free,I.freeC,fun p hp=>?_,tracked ⟨oL,hoL,I.free⟩ hs,by simpa using I.len⟩ ⟨_,hs,.inl rfl⟩
  ·exact (hs.2 b (Nat.ne_of_lt (Nat.lt_of_lt_of_le (Heap.lt_size e) I.ok.above))).trans (I.base.keep b o e n hb hx)
  ·obtain ⟨sl,e1⟩:=I.base.slot b o e n hb hx
   exact ⟨sl,(hs.2 b (Nat.ne_of_lt (Nat.lt_of_lt_of_le (Heap.lt_size e) I.ok.above))).trans e1⟩
  ·obtain ⟨o',e1⟩:=I.base.there b o e hx
   exact ⟨o',(hs.2 b (Nat.ne_of_lt (Nat.lt_of_lt_of_le (Heap.lt_size e) I.ok.above))).trans e1⟩
  ·by_cases hj:j=i
   ·subst hj
    rw [hi] at e1;cases e1
    rw [List.getElem?_set_self hiσ] at e2
    cases e2
    exact ⟨u,r,.inl ⟨hk,by simp⟩⟩
   ·rw [List.getElem?_set_ne (Ne.symm hj)] at e2
    obtain ⟨u',r',q⟩:=hl j y v' e1 e2 e3
    refine ⟨u',r',?_⟩
    rcases q with ⟨k,e⟩ | ⟨k,c,e,z⟩
    ·refine .inl ⟨k,?_⟩
     have:y≠x:=fun e=>hj (nodup_ix hN e1 (e ▸ hi))
     simp [this,e]
    ·exact .inr ⟨k,c,e,z.sameBut hs (cne y c e)⟩
  ·obtain ⟨w',z⟩:=I.cell y c e
   exact ⟨w',z.sameBut hs (cne y c e)⟩
  ·obtain ⟨e,n,ne,nf,d⟩:=I.pin p hp
   exact ⟨(hs.2 p.1 ne).trans e,n,ne,nf,d⟩
 ·have hfn:X.fn x=true:=by
   rcases hf with z | z
   ·exact z
   ·rw [z] at hk;cases hk
  obtain ⟨c,hc⟩:=I.ok.has x (.inl hk)
  obtain ⟨w',z⟩:=I.cell x c hc
  refine wpAny_storeName_cell I.ok.kind hk hc z (fun h' hc' hs=>?_)
  obtain ⟨oc,hoc,hocd⟩:=id z
  refine h { s with heap:=h' } ⟨I.ok,I.os,I.bare,⟨fun b o e n hb hx=>?_,fun b o e n hb hx=>?_,I.base.free,fun b o e hx=>?_,I.base.tups,I.base.frzs,I.base.tbls⟩,⟨m,hn.sameBut hs (Ne.symm (cne x c hc)),fun j y v' e1 e2 e3=>?_⟩,fun y c' e=>?_,I.free,I.freeC,fun p hp=>?_,tracked ⟨oc,hoc,I.freeC x c hc⟩ hs,by simpa using I.len⟩ ⟨c,hs,.inr hc⟩
  ·exact (hs.2 b (Nat.ne_of_lt (Nat.lt_of_lt_of_le (Heap.lt_size e) (I.ok.cab x c hfn hc)))).trans (I.base.keep b o e n hb hx)
  ·obtain ⟨sl,e1⟩:=I.base.slot b o e n hb hx
   exact ⟨sl,(hs.2 b (Nat.ne_of_lt (Nat.lt_of_lt_of_le (Heap.lt_size e) (I.ok.cab x c hfn hc)))).trans e1⟩
  ·obtain ⟨o',e1⟩:=I.base.there b o e hx
   exact ⟨o',(hs.2 b (Nat.ne_of_lt (Nat.lt_of_lt_of_le (Heap.lt_size e) (I.ok.cab x c hfn hc)))).trans e1⟩
  ·by_cases hj:j=i
   ·subst hj
    rw [hi] at e1;cases e1
    rw [List.getElem?_set_self hiσ] at e2
    cases e2
    exact ⟨u,r,.inr ⟨.inl hk,c,hc,hc'⟩⟩
   ·rw [List.getElem?_set_ne (Ne.symm hj)] at e2
    obtain ⟨u',r',q⟩:=hl j y v' e1 e2 e3
    refine ⟨u',r',?_⟩
    rcases q with q | ⟨k,c',e,z'⟩
    ·exact .inl q
    ·refine .inr ⟨k,c',e,z'.sameBut hs ?_⟩
     rintro rfl
     exact hj (nodup_ix hN e1 (I.ok.inj _ _ _ e hc ▸ hi))
  ·by_cases hcc:c'=c
   ·subst hcc;exact ⟨_,hc'⟩
   ·obtain ⟨w2,z2⟩:=I.cell y c' e
    exact ⟨w2,z2.sameBut hs hcc⟩
  ·obtain ⟨e,n,ne,nf,d⟩:=I.pin p hp
   refine ⟨(hs.2 p.1 ?_).trans e,n,ne,nf,d⟩
   intro q
   rw [q,hoc] at e
   have q':oc=p.2:=Option.some.inj e
   exact d w' (by rw [← q'];exact hocd)
theorem store_ok {M:Model}{A:Around}{E:Value→Shared→Prop}{i:Nat}{x:Str}{v:V}{u:Value}{Q:Unit→Shared→Prop} (I:Inv X pins σ H s) (hN:X.N.Nodup) (hi:X.N[i]? = some x) (hx:Loc X.env.scope x) (r:RelV v u)
  (h:∀ s',Inv X pins (σ.set i (some v)) H s'→Q () s') (hf:X.fn x=true∨X.env.scope.names.lookup x=some .local:=by first | exact .inl rfl | exact .inr rfl | assumption):wpAny M A (storeName X.env x u) Q E s :=
 store_ok2 I hN hi hx r (fun s' I' _=>h s' I') hf
theorem Inv.call' {s':Shared}{ch:List Addr} (I:Inv X pins σ H s) (ho:s'.os=s.os) (u:Un (frs X.stack) ch H H' s.heap s'.heap) (hok:HOk X.prog X.w H' s'.heap) (hg:AllBare s'.gens)
  (hch:∀ b∈ch,(b∈X.ex∨X.s₀.heap.objs.size≤b)∧b≠X.env.locals∧(∀ x c,X.env.cells.lookup x=some c→c≠b)∧∀ p∈X.pn++pins,p.1≠b):Inv X pins σ H' s':=by
 obtain ⟨h',g',d',t',o'⟩:=s'
 have e:o'=s.os:=ho
 subst e
 exact I.call (g':=g') (t':=t') (d':=d') u hok hg hch
end
abbrev XK:=Value→Option Addr→Hp→Prop
abbrev St:=List (Option V)
abbrev VK:=V→Hp→Prop
abbrev TE:=St→Hp→VK→Prop
abbrev TT:=St→Hp→(Bool→Hp→Prop)→Prop
abbrev TA:=St→Hp→(List V→Hp→Prop)→Prop
structure Ends where
 nx:St→Hp→Prop
 rt:VK
 bk:St→Hp→Prop:=fun _ _=>False
 ct:St→Hp→Prop:=fun _ _=>False
abbrev TS:=Ends→St→Hp→Prop
def EP (X:Cx) (pins:List (Addr×Obj)) (σ:St) (Q:VK) (u:Value) (s':Shared):Prop:=∃ v H',Inv X pins σ H' s'∧RelV v u∧Q v H'
def TP (X:Cx) (pins:List (Addr×Obj)) (σ:St) (Q:Bool→Hp→Prop) (b:Bool) (s':Shared):Prop:=∃ H',Inv X pins σ H' s'∧Q b H'
def AP (X:Cx) (pins:List (Addr×Obj)) (σ:St) (Q:List V→Hp→Prop) (us:List Value) (s':Shared):Prop:=∃ vs H',Inv X pins σ H' s'∧Vals vs us∧Q vs H'
def SP (X:Cx) (pins:List (Addr×Obj)) (D:Ends) (f:Flow) (s':Shared):Prop :=
 match f with
 | .next=>∃ σ' H',Inv X pins σ' H' s'∧D.nx σ' H'
 | .brk=>∃ σ' H',Inv X pins σ' H' s'∧D.bk σ' H'
 | .cont=>∃ σ' H',Inv X pins σ' H' s'∧D.ct σ' H'
 | .ret u=>∃ v σ' H',Inv X pins σ' H' s'∧RelV v u∧D.rt v H'
def PE (X:Cx) (e:Expr) (t:TE):Prop :=
 ∀ (pins:List (Addr×Obj)) (s:Shared) (σ:St) (H:Hp) (Q:VK),Inv X pins σ H s→t σ H Q→wpAny (model X.prog X.w) X.A (eval e X.env) (EP X pins σ Q) X.xe s
def PT (X:Cx) (e:Expr) (t:TT):Prop :=
 ∀ (pins:List (Addr×Obj)) (s:Shared) (σ:St) (H:Hp) (Q:Bool→Hp→Prop),Inv X pins σ H s→t σ H Q→wpAny (model X.prog X.w) X.A (isTrue e X.env (eval e X.env)) (TP X pins σ Q) X.xe s
def PW (X:Cx) (e:Expr) (t:TT):Prop :=
 ∀ (whole:Sem Value) (pins:List (Addr×Obj)) (s:Shared) (σ:St) (H:Hp) (Q:Bool→Hp→Prop),Inv X pins σ H s→t σ H Q→wpAny (model X.prog X.w) X.A (isTrue e X.env whole) (TP X pins σ Q) X.xe s
theorem PW.pt {X:Cx}{e:Expr}{t:TT} (h:PW X e t):PT X e t:=h _
def PA (X:Cx) (es:List Expr) (t:TA):Prop :=
 ∀ (pos:Pos) (pins:List (Addr×Obj)) (s:Shared) (σ:St) (H:Hp) (Q:List V→Hp→Prop),Inv X pins σ H s→t σ H Q→wpAny (model X.prog X.w) X.A (spliced (backTo pos (starEach es X.env))) (AP X pins σ Q) X.xe s
def PS (X:Cx) (st:Stmt) (t:TS):Prop :=
 ∀ (pins:List (Addr×Obj)) (s:Shared) (σ:St) (H:Hp) (D:Ends),Inv X pins σ H s→t D σ H→wpAny (model X.prog X.w) X.A (exec st X.env) (SP X pins D) X.xe s
def PSs (X:Cx) (st:List Stmt) (t:TS):Prop :=
 ∀ (pins:List (Addr×Obj)) (s:Shared) (σ:St) (H:Hp) (D:Ends),Inv X pins σ H s→t D σ H→wpAny (model X.prog X.w) X.A (execs st X.env) (SP X pins D) X.xe s
theorem thn {α:Type}{t:Sem α}{Q Q':α→Shared→Prop}{M:Model}{A:Around}{E:Value→Shared→Prop}{s:Shared} (h:wpAny M A t Q E s) (hQ:∀ a s,Q a s→Q' a s):wpAny M A t Q' E s:=wpAny_mono h hQ fun _ _ x=>x
theorem thnE {X:Cx}{pins:List (Addr×Obj)}{σ:St}{Q:VK}{t:Sem Value}{Q':Value→Shared→Prop}{M:Model}{A:Around}{E:Value→Shared→Prop}{s:Shared} (h:wpAny M A t (EP X pins σ Q) E s) (hQ:∀ a s x H,Inv X pins σ H s→RelV x a→Q x H→Q' a s):wpAny M A t Q' E s:=thn h fun a s z=>z.elim fun x z=>z.elim fun H z=>hQ a s x H z.1 z.2.1 z.2.2
theorem thnA {X:Cx}{pins:List (Addr×Obj)}{σ:St}{Q:List V→Hp→Prop}{t:Sem (List Value)}{Q':List Value→Shared→Prop}{M:Model}{A:Around}{E:Value→Shared→Prop}{s:Shared} (h:wpAny M A t (AP X pins σ Q) E s) (hQ:∀ a s x H,Inv X pins σ H s→Vals x a→Q x H→Q' a s):wpAny M A t Q' E s:=thn h fun a s z=>z.elim fun x z=>z.elim fun H z=>hQ a s x H z.1 z.2.1 z.2.2
end L2
namespace L2
open PySem PySem.Spec PyProof.Rows
section
variable {X:Cx}
def tVar (i:Nat):TE:=fun σ H Q=>∃ v,σ[i]? = some (some v)∧Q v H
def tC (v:V):TE:=fun _ H Q=>Q v H
theorem pe_var {i:Nat}{x:Str}{pos:Pos} (hN:X.N[i]? = some x) (hv:Vis X.env.scope x) (hd:(x == ("__debug__" : Str))=false:=by decide) (hcd:(x == ("__classdict__" : Str))=false:=by decide):PE X (.Name x pos) (tVar i):=by
 intro pins s σ H Q I h
 obtain ⟨v,e,h⟩:=h
 obtain ⟨m,hn,hl⟩:=I.loc
 obtain ⟨u,r,l⟩:=hl i x v hN e hv
 have fin:EP X pins σ Q u s:=⟨v,H,I,r,h⟩
 rcases l with ⟨hk,hm⟩ | ⟨hk,c,hc,hcell⟩
 ·exact wpAny_Name (wpAny_loadName_local I.ok.kind hk hn hm fin) hd
 ·rcases hk with hk | hk
  ·exact wpAny_Name (wpAny_loadName_cell I.ok.kind hk hc hcell fin) hd
  ·exact wpAny_Name (wpAny_loadName_free I.ok.kind hk hc hcell fin hcd) hd
theorem pe_int {i j pos}:PE X (.Constant (.int i) j pos) (tC (.int i)):=fun _ _ _ H _ I h=>wpAny_Constant_int ⟨.int i,H,I.tok _,⟨_,rfl⟩,h⟩
theorem pe_bl {b j pos}:PE X (.Constant (.bool b) j pos) (tC (.bl b)):=fun _ _ _ H _ I h=>Constant_bool ⟨.bl b,H,I,rfl,h⟩
theorem pe_non {j pos}:PE X (.Constant .none j pos) (tC .non):=fun _ _ _ H _ I h=>Constant_none ⟨.non,H,I,rfl,h⟩
theorem pe_str {x j pos}:PE X (.Constant (.str x) j pos) (tC (.str x)):=fun _ _ _ H _ I h=>Calls.Constant_str ⟨.str x,H,I.tok _,⟨_,rfl⟩,h⟩
def Gl (X:Cx) (x:Str):Prop:=X.env.kindOf x=some .globalImplicit
theorem ld_glob {E:Value→Shared→Prop}{pins:List (Addr×Obj)}{s:Shared}{σ:St}{H:Hp}{x:Str}{u:Value}{pos:Pos}{Q:Value→Shared→Prop} (I:Inv X pins σ H s) (hg:Gl X x) (hm:X.mg x=some u) (h:Q u s)
  (hd:(x == ("__debug__" : Str))=false:=by decide):wpAny (model X.prog X.w) X.A (eval (.Name x pos) X.env) Q E s :=
 Calls.Name_function_global I.ok.kind hg (Calls.loadGlobal_global (by rw [I.ok.glob];exact I.mod.glob.keeps I.bk) hm h) hd
theorem ld_blt {E:Value→Shared→Prop}{pins:List (Addr×Obj)}{s:Shared}{σ:St}{H:Hp}{x:Str}{u:Value}{pos:Pos}{Q:Value→Shared→Prop} (I:Inv X pins σ H s) (hg:Gl X x) (hm:X.mg x=none) (hv:bootBuiltins x=some u) (h:Q u s)
  (hn:x≠"__name__":=by decide) (hd:(x == ("__debug__" : Str))=false:=by decide):wpAny (model X.prog X.w) X.A (eval (.Name x pos) X.env) Q E s:=by
 obtain ⟨mb,h1,h2⟩:=I.mod.blt
 exact Calls.Name_function_global I.ok.kind hg (Calls.loadGlobal_builtin (by rw [I.ok.glob];exact I.mod.glob.keeps I.bk) hm (by rw [I.ok.blt];exact h1.keeps I.bk) ((h2 x hn).trans hv) h) hd
theorem pe_glob {x:Str}{v:V}{u:Value}{pos:Pos} (hg:Gl X x) (hm:X.mg x=some u) (r:RelV v u) (hd:(x == ("__debug__" : Str))=false:=by decide):PE X (.Name x pos) (tC v) :=
 fun _ _ _ H _ I h=>ld_glob I hg hm ⟨v,H,I,r,h⟩ hd
theorem pe_bltn {x:Str}{v:V}{u:Value}{pos:Pos} (hg:Gl X x) (hm:X.mg x=none) (hv:bootBuiltins x=some u) (r:RelV v u) (hn:x≠"__name__":=by decide) (hd:(x == ("__debug__" : Str))=false:=by decide):PE X (.Name x pos) (tC v) :=
 fun _ _ _ H _ I h=>ld_blt I hg hm hv ⟨v,H,I,r,h⟩ hn hd
variable {a b:Expr}{ta tb:TE}{pos:Pos}
def tB (t:TE):TT:=fun σ H Q=>t σ H fun x H1=>∃ c,x=.bl c∧Q c H1
theorem pt_val {e:Expr}{t:TE} (h:PE X e t) (he:∀ whole,isTrue e X.env whole=(do let v ← whole;standAt e.pos;holding [v] (truthy v)):=by intro _;rfl):PT X e (tB t):=by
 intro pins s σ H Q I hw
 refine isTrue_plain (thnE (h pins s σ H _ I hw) fun v s1 x H1 I1 r1 q1=>?_) (he _)
 obtain ⟨d,rfl,q⟩:=q1
 cases r1
 exact wpAny_truthy_bool ⟨H1,I1,q⟩
variable {tA tB':TT}{rest:List Expr}
def tAnd (t u:TT):TT:=fun σ H Q=>t σ H fun c H1=>if c=true then u σ H1 Q else Q false H1
def tOr (t u:TT):TT:=fun σ H Q=>t σ H fun c H1=>if c=true then Q true H1 else u σ H1 Q
def tNot (t:TT):TT:=fun σ H Q=>t σ H fun c H1=>Q (!c) H1
theorem pw_and1 (ha:PT X a tA):PW X (.BoolOp .And [a] pos) tA:=by
 intro wh pins s σ H Q I h
 refine isTrue_and (thn (ha pins s σ H Q I h) fun c s1 e=>?_)
 cases c with
 | true=>exact isTrue_and_nil e
 | false=>exact e
theorem pw_or1 (ha:PT X a tA):PW X (.BoolOp .Or [a] pos) tA:=by
 intro wh pins s σ H Q I h
 refine isTrue_or (thn (ha pins s σ H Q I h) fun c s1 e=>?_)
 cases c with
 | false=>exact isTrue_or_nil e
 | true=>exact e
theorem pw_and (ha:PT X a tA) (hb:PW X (.BoolOp .And (b :: rest) pos) tB'):PW X (.BoolOp .And (a :: b :: rest) pos) (tAnd tA tB'):=by
 intro wh pins s σ H Q I h
 refine isTrue_and (thn (ha pins s σ H _ I h) fun c s1 ⟨H1,I1,q1⟩=>?_)
 cases c with
 | true=>exact hb wh pins s1 σ H1 Q I1 q1
 | false=>exact ⟨H1,I1,q1⟩
theorem pw_or (ha:PT X a tA) (hb:PW X (.BoolOp .Or (b :: rest) pos) tB'):PW X (.BoolOp .Or (a :: b :: rest) pos) (tOr tA tB'):=by
 intro wh pins s σ H Q I h
 refine isTrue_or (thn (ha pins s σ H _ I h) fun c s1 ⟨H1,I1,q1⟩=>?_)
 cases c with
 | true=>exact ⟨H1,I1,q1⟩
 | false=>exact hb wh pins s1 σ H1 Q I1 q1
theorem pt_not (ha:PT X a tA):PT X (.UnaryOp .Not a pos) (tNot tA):=by
 intro pins s σ H Q I h
 exact isTrue_not (ha pins s σ H (fun c H1=>Q (!c) H1) I h)
def tAndV (ta tb:TE):TE:=fun σ H Q=>ta σ H fun x H1=>∃ c,x=.bl c∧if c=true then tb σ H1 Q else Q (.bl false) H1
theorem pe_one {op}{t:TE} (h:PE X a t):PE X (.BoolOp op [a] pos) t:=fun pins s σ H Q I hw=>BoolOp_one (h pins s σ H Q I hw)
theorem pe_and (ha:PE X a ta) (hb:PE X (.BoolOp .And (b :: rest) pos) tb):PE X (.BoolOp .And (a :: b :: rest) pos) (tAndV ta tb):=by
 intro pins s σ H Q I h
 refine BoolOp_and (thnE (ha pins s σ H _ I h) fun v s1 x H1 I1 r1 q1=>?_)
 obtain ⟨c,rfl,q1⟩:=q1
 cases r1
 refine wpAny_truthy_bool ?_
 cases c with
 | true=>exact hb pins s1 σ H1 Q I1 q1
 | false=>exact ⟨.bl false,H1,I1,rfl,q1⟩
end
end L2
namespace L2
open PySem PySem.Spec PyProof.Rows
def SqL (K:PySem.W.Frag) (H:Hp) (a:Addr) (xs:List V):Prop :=
 Rd H a (.lst xs) ∨
  ∃ (o:Obj) (its:Array Value) (n:Nat),K.lookup a=some o∧o.cls=.type "list"∧o.dict=none∧o.data=.seq its n∧its.size≤sizeLine∧Vals xs its.toList
def SqT (K:PySem.W.Frag) (H:Hp) (a:Addr) (xs:List V):Prop :=
 Rd H a (.tup xs) ∨
  ∃ (o:Obj) (its:Array Value) (n:Nat),K.lookup a=some o∧o.cls=.type "tuple"∧o.data=.seq its n∧its.size≤sizeLine∧Vals xs its.toList
def absV:Value→Option V
 | .none=>some .non
 | .bool b=>some (.bl b)
 | .int i _=>some (.int i)
 | .str x _=>some (.str x)
 | .bytes b _=>some (.byt b)
 | .float b _=>some (.flt b)
 | .ref a=>some (.ref a)
 | .type n=>some (.ty n)
 | _=>none
theorem RelV.abs {x:V}{u:Value} (r:RelV x u):absV u=some x:=by
 cases x with
 | non=>cases r;rfl
 | bl _=>cases r;rfl
 | int _=>obtain ⟨t,rfl⟩:=r;rfl
 | str _=>obtain ⟨t,rfl⟩:=r;rfl
 | byt _=>obtain ⟨t,rfl⟩:=r;rfl
 | flt _=>obtain ⟨t,rfl⟩:=r;rfl
 | ref _=>cases r;rfl
 | ty _=>cases r;rfl
theorem RelV.inj {x y:V}{u:Value} (r:RelV x u) (q:RelV y u):x=y:=Option.some.inj (r.abs.symm.trans q.abs)
theorem Vals.inj:∀ {xs ys:List V}{us:List Value},Vals xs us→Vals ys us→xs=ys
 | _,_,_,.nil,.nil=>rfl
 | _,_,_,.cons r t,.cons r' t'=>by rw [r.inj r',Vals.inj t t']
section
variable {X:Cx}{pins:List (Addr×Obj)}{σ:St}{H:Hp}{s:Shared}{a:Addr}{xs ys:List V}
theorem SqL.of {K:PySem.W.Frag} (h:H a=some (.lst xs)):SqL K H a xs:=.inl (.inl h)
theorem SqT.of {K:PySem.W.Frag} (h:H a=some (.tup xs)):SqT K H a xs:=.inl (.inl h)
theorem Inv.list (I:Inv X pins σ H s) (h:SqL X.K H a xs):∃ its:List Value,Vals xs its∧PlainL s.heap a its.toArray∧xs.length≤sizeLine:=by
 rcases h with h | ⟨o,its,n,hk,hc,hd,hs,hz,r⟩
 ·obtain ⟨z,its,n,r,e⟩:=h.ok I.hok
  exact ⟨its,r,⟨_,n,e,rfl,rfl,rfl⟩,z⟩
 ·refine ⟨its.toList,r,⟨o,n,I.kIn a o hk,hc,hd,by simpa using hs⟩,?_⟩
  have e:=r.length
  simp only [Array.length_toList] at e
  omega
theorem Inv.tuple (I:Inv X pins σ H s) (h:SqT X.K H a xs):∃ its:List Value,Vals xs its∧IsTup s.heap a its.toArray∧xs.length≤sizeLine:=by
 rcases h with h | ⟨o,its,n,hk,hc,hs,hz,r⟩
 ·obtain ⟨z,its,r,p⟩:=h.ok I.hok
  exact ⟨its,r,p.tup,z⟩
 ·refine ⟨its.toList,r,⟨o,I.kIn a o hk,hc,n,by simpa using hs⟩,?_⟩
  have e:=r.length
  simp only [Array.length_toList] at e
  omega
theorem Inv.list_inj (I:Inv X pins σ H s) (h:SqL X.K H a xs) (h':SqL X.K H a ys):xs=ys:=by
 obtain ⟨its,r,⟨o,n,e,_,_,d⟩,_⟩:=I.list h
 obtain ⟨its',r',⟨o',n',e',_,_,d'⟩,_⟩:=I.list h'
 rw [e] at e';cases e'
 rw [d] at d'
 injection d' with d1 _
 have:its=its':=by simpa using congrArg Array.toList d1
 subst this
 exact r.inj r'
theorem Inv.tuple_inj (I:Inv X pins σ H s) (h:SqT X.K H a xs) (h':SqT X.K H a ys):xs=ys:=by
 obtain ⟨its,r,⟨o,e,_,n,d⟩,_⟩:=I.tuple h
 obtain ⟨its',r',⟨o',e',_,n',d'⟩,_⟩:=I.tuple h'
 rw [e] at e';cases e'
 rw [d] at d'
 injection d' with d1 _
 have:its=its':=by simpa using congrArg Array.toList d1
 subst this
 exact r.inj r'
end
abbrev Cx.wish (X:Cx) (E:Value→Shared→Prop):Cx:={ X with xe:=E }
abbrev Cx.nox (X:Cx):Cx:=X.wish fun _ _=>False
theorem Cx.Ok.wish {X:Cx} (ok:X.Ok) (E:Value→Shared→Prop):(X.wish E).Ok :=
 ⟨ok.mod,ok.kind,ok.glob,ok.blt,ok.above,ok.inj,ok.has,ok.cab,ok.hd,ok.frames,ok.stk,ok.exf,ok.bs,ok.bsz,ok.noex,ok.exfs,ok.funs,ok.frf⟩
theorem Cx.Ok.unwish {X:Cx}{E:Value→Shared→Prop} (ok:(X.wish E).Ok):X.Ok :=
 ⟨ok.mod,ok.kind,ok.glob,ok.blt,ok.above,ok.inj,ok.has,ok.cab,ok.hd,ok.frames,ok.stk,ok.exf,ok.bs,ok.bsz,ok.noex,ok.exfs,ok.funs,ok.frf⟩
section
variable {X:Cx}{pins:List (Addr×Obj)}{σ:St}{H:Hp}{s:Shared}{E:Value→Shared→Prop}
theorem Inv.wish (I:Inv X pins σ H s) (E:Value→Shared→Prop):Inv (X.wish E) pins σ H s:=⟨I.ok.wish E,I.os,I.bare,I.base,I.loc,I.cell,I.free,I.freeC,I.pin,I.hok,I.len⟩
theorem Inv.unwish (I:Inv (X.wish E) pins σ H s):Inv X pins σ H s:=⟨I.ok.unwish,I.os,I.bare,I.base,I.loc,I.cell,I.free,I.freeC,I.pin,I.hok,I.len⟩
theorem SP.unwish {D:Ends}{f:Flow}{s':Shared} (h:SP (X.wish E) pins D f s'):SP X pins D f s':=by
 cases f with
 | next=>obtain ⟨σ',H',I,q⟩:=h;exact ⟨σ',H',I.unwish,q⟩
 | brk=>obtain ⟨σ',H',I,q⟩:=h;exact ⟨σ',H',I.unwish,q⟩
 | cont=>obtain ⟨σ',H',I,q⟩:=h;exact ⟨σ',H',I.unwish,q⟩
 | ret u=>obtain ⟨v,σ',H',I,r,q⟩:=h;exact ⟨v,σ',H',I.unwish,r,q⟩
theorem PSs.nox {st:List Stmt}{t:TS} (h:PSs X.nox st t):PSs X st t:=fun pins s σ H D I hw =>
 wpAny_mono (h pins s σ H D (I.wish _) hw) (fun _ _ q=>q.unwish) fun _ _ z=>False.elim z
end
section
variable {X:Cx}{st:Stmt}{rest:List Stmt}{t u:TS}{e:Expr}{te:TE}{pos:Pos}
def tNext:TS:=fun D σ H=>D.nx σ H
def tSeq (t u:TS):TS:=fun D σ H=>t { D with nx:=u D } σ H
theorem pss_nil:PSs X [] tNext:=fun _ _ σ H _ I h=>wpAny_execs_nil ⟨σ,H,I,h⟩
theorem pss_cons (h1:PS X st t) (h2:PSs X rest u):PSs X (st :: rest) (tSeq t u):=by
 intro pins s σ H D I h
 refine wpAny_execs_cons (thn (h1 pins s σ H { D with nx:=u D } I h) fun f s1 q=>?_)
 cases f with
 | next =>
  obtain ⟨σ',H',I',q⟩:=q
  exact h2 pins s1 σ' H' D I' q
 | ret v=>exact q
 | brk=>exact q
 | cont=>exact q
theorem pss_one (h1:PS X st t):PSs X [st] t:=by
 intro pins s σ H D I h
 refine wpAny_execs_cons (thn (h1 pins s σ H D I h) fun f s1 q=>?_)
 cases f with
 | next=>exact wpAny_execs_nil q
 | ret v=>exact q
 | brk=>exact q
 | cont=>exact q
theorem Inv.quiet {pins:List (Addr×Obj)}{σ:St}{H:Hp}{s:Shared} (I:Inv X pins σ H s):interactive X.env=false:=by simp [interactive,I.ok.kind]
def tDrop (te:TE):TS:=fun D σ H=>te σ H fun _ H1=>D.nx σ H1
theorem ps_expr (he:PE X e te) (hs:swapsWith e none pos.line X.env=pure false:=by rfl):PS X (.Expr e pos) (tDrop te):=by
 intro pins s σ H D I h
 exact wpAny_Expr_any (thnE (he pins s σ H _ I h) fun v s1 x H1 I1 r1 q1=>⟨σ,H1,I1,q1⟩) I.quiet hs
def tRet (te:TE):TS:=fun D σ H=>te σ H D.rt
theorem ps_ret (he:PE X e te):PS X (.Return (some e) pos) (tRet te):=by
 intro pins s σ H D I h
 exact wpAny_Return_some (thnE (he pins s σ H _ I h) fun v s1 x H1 I1 r1 q1=>⟨x,σ,H1,I1,r1,q1⟩)
def tIfS (c:TT) (t u:TS):TS:=fun D σ H=>c σ H fun b H1=>if b=true then t D σ H1 else u D σ H1
theorem ps_if {c:Expr}{a b:List Stmt}{tc:TT} (hc:PT X c tc) (ha:PSs X a t) (hb:PSs X b u):PS X (.If c a b pos) (tIfS tc t u):=by
 intro pins s σ H D I h
 refine wpAny_If (thn (hc pins s σ H _ I h) fun d s1 ⟨H1,I1,q1⟩=>?_)
 cases d with
 | true=>exact ha pins s1 σ H1 D I1 q1
 | false=>exact hb pins s1 σ H1 D I1 q1
def tNever:TS:=fun _ _ _=>False
theorem ps_never:PS X st tNever:=fun _ _ _ _ _ _ h=>h.elim
end
abbrev TG:=V→St→Hp→(St→Hp→Prop)→Prop
abbrev TGs:=List V→St→Hp→(St→Hp→Prop)→Prop
def PG (X:Cx) (target:Expr) (t:TG):Prop :=
 ∀ (pins:List (Addr×Obj)) (s:Shared) (σ:St) (H:Hp) (v:V) (u:Value) (Q:St→Hp→Prop),Inv X pins σ H s→RelV v u→t v σ H Q →
  wpAny (model X.prog X.w) X.A (assign target X.env u) (fun _ s'=>∃ σ' H',Inv X pins σ' H' s'∧Q σ' H') X.xe s
def PGs (X:Cx) (ts:List Expr) (t:TGs):Prop :=
 ∀ (pins:List (Addr×Obj)) (s:Shared) (σ:St) (H:Hp) (vs:List V) (us:List Value) (Q:St→Hp→Prop),Inv X pins σ H s→Vals vs us→t vs σ H Q →
  wpAny (model X.prog X.w) X.A (assignInOrder ((assignEach ts X.env).map (·.2)) us) (fun _ s'=>∃ σ' H',Inv X pins σ' H' s'∧Q σ' H') X.xe s
abbrev TSet:=V→V→V→Hp→(Hp→Prop)→Prop
def PSet (X:Cx) (t:TSet):Prop :=
 ∀ (pins:List (Addr×Obj)) (s:Shared) (σ:St) (H:Hp) (o i v:V) (ov iv u:Value) (Q:Hp→Prop),Inv X pins σ H s→RelV o ov→RelV i iv→RelV v u→t o i v H Q →
  wpAny (model X.prog X.w) X.A (setItem ov iv u) (fun _ s'=>∃ H',Inv X pins σ H' s'∧Q H') X.xe s
section
variable {X:Cx}{pos:Pos}
def gName (i:Nat):TG:=fun v σ H Q=>Q (σ.set i (some v)) H
theorem pg_name {i:Nat}{x:Str} (hN:X.N.Nodup) (hi:X.N[i]? = some x) (hx:Loc X.env.scope x) (hf:X.fn x=true∨X.env.scope.names.lookup x=some .local:=by first | exact .inl rfl | exact .inr rfl | assumption):PG X (.Name x pos) (gName i):=by
 intro pins s σ H v u Q I r h
 exact wpAny_assign_Name (store_ok I hN hi hx r (fun s' I'=>⟨_,H,I',h⟩) hf)
def gNil:TGs:=fun vs σ H Q=>vs=[]∧Q σ H
def gCons (t:TG) (u:TGs):TGs:=fun vs σ H Q=>∃ v r,vs=v :: r∧t v σ H fun σ' H'=>u r σ' H' Q
theorem pgs_nil:PGs X [] gNil:=by
 intro pins s σ H vs us Q I r h
 obtain ⟨e,h⟩:=h
 subst e
 cases r
 exact assignInOrder_nil ⟨σ,H,I,h⟩
theorem pgs_cons {e:Expr}{es:List Expr}{t:TG}{u:TGs} (h1:PG X e t) (h2:PGs X es u)
  (hs:(assignEach (e :: es) X.env).map (·.2)=assign e X.env :: (assignEach es X.env).map (·.2):=by rfl):PGs X (e :: es) (gCons t u):=by
 intro pins s σ H vs us Q I r h
 obtain ⟨v,vr,e1,h⟩:=h
 subst e1
 cases r with
 | cons r rr =>
  rw [hs]
  refine assignInOrder_cons (thn (h1 pins s σ H _ _ _ I r h) fun _ s1 ⟨σ1,H1,I1,q1⟩=>?_)
  exact h2 pins s1 σ1 H1 _ _ Q I1 rr q1
def gTup (K:PySem.W.Frag) (n:Nat) (t:TGs):TG:=fun v σ H Q=>∃ a xs,v=.ref a∧SqT K H a xs∧xs.length=n∧t xs σ H Q
theorem pg_tup {es:List Expr}{k:Nat}{t:TGs}{n:Nat} (hc:X.calm=true) (h:PGs X es t)
  (hn:(assignEach es X.env).length=n:=by rfl) (hst:(assignEach es X.env).findIdx? (·.1)=none:=by rfl):PG X (.Tuple es k pos) (gTup X.K n t):=by
 intro pins s σ H v u Q I r hw
 obtain ⟨a,xs,e1,hq,hl,hw⟩:=hw
 subst e1
 cases r
 obtain ⟨its,rv,ht,hz⟩:=I.tuple hq
 refine assign_Tuple_tuple (I.ok.hd hc) ht (by simp [hn,← hl,rv.length]) hst fun h' hx=>?_
 have I1:Inv X pins σ H { s with heap:=h' }:=I.kept (t':=s.toks) fun b o e=>hx b o (Nat.ne_of_lt (Heap.lt_size e)) e
 exact h pins _ σ H xs _ Q I1 (by simpa using rv) hw
def gSub (to ti:TE) (t:TSet):TG:=fun v σ H Q=>to σ H fun o H1=>ti σ H1 fun i H2=>t o i v H2 fun H3=>Q σ H3
theorem pg_sub {o i:Expr}{to ti:TE}{t:TSet} (ho:PE X o to) (hi:PE X i ti) (hs:PSet X t)
  (ha:∀ v,assign (.Subscript o i pos) X.env v=(do
   let ov ← holding [v] (eval o X.env)
   let iv ← holding [v,ov] (eval i X.env)
   standAt pos
   holding [v,ov,iv] (setItem ov iv v)
   release [v,ov,iv] []):=by intro _;rfl):PG X (.Subscript o i pos) (gSub to ti t):=by
 intro pins s σ H v u Q I r h
 rw [ha]
 refine wpAny_bind (wpAny_holding (thnE (ho pins s σ H _ I h) fun ov s1 x H1 I1 r1 q1=>?_))
 refine wpAny_bind (wpAny_holding (thnE (hi pins s1 σ H1 _ I1 q1) fun iv s2 y H2 I2 r2 q2=>?_))
 refine wpAny_bind (wpAny_standAt (wpAny_bind (wpAny_holding (thn (hs pins s2 σ H2 x y v ov iv u _ I2 r1 r2 r q2) fun _ s3 ⟨H3,I3,q3⟩=>?_))))
 exact wpAny_release ⟨σ,H3,I3,q3⟩
def tAsg (te:TE) (g:TG):TS:=fun D σ H=>te σ H fun x H1=>g x σ H1 D.nx
theorem ps_asg {tg e:Expr}{te:TE}{g:TG} (he:PE X e te) (hg:PG X tg g) (hs:swapsWithSole [tg] e pos.line X.env=pure false:=by rfl) (hw:swappedStores [tg] e X.env=pure none:=by rfl)
  (h1:(assignEach [tg] X.env).map (·.2)=[assign tg X.env]:=by rfl):PS X (.Assign [tg] e pos) (tAsg te g):=by
 intro pins s σ H D I h
 refine wpAny_Assign_stores (thnE (he pins s σ H _ I h) fun v s1 x H1 I1 r1 q1=>?_) hs hw
 rw [h1]
 exact thn (hg pins s1 σ H1 x v _ I1 r1 q1) fun _ s2 q=>q
theorem ps_set {i:Nat}{x:Str}{e:Expr}{te:TE}{pos':Pos} (hN:X.N.Nodup) (hi:X.N[i]? = some x) (hx:Loc X.env.scope x) (he:PE X e te) (hs:swapsWith e (some (.Name x pos')) pos.line X.env=pure false:=by rfl) (hf:X.fn x=true∨X.env.scope.names.lookup x=some .local:=by first | exact .inl rfl | exact .inr rfl | assumption) :
  PS X (.Assign [.Name x pos'] e pos) (tAsg te (gName i)):=by
 intro pins s σ H D I h
 refine wpAny_Assign_Name (thnE (he pins s σ H _ I h) fun v s1 y H1 I1 r1 q1=>?_) hs
 exact store_ok I1 hN hi hx r1 (fun s2 I2=>⟨_,H1,I2,q1⟩) hf
end
section
variable {X:Cx}{pos:Pos}
def tWhile (c:TT) (tb:TS):TS:=fun D σ H=>∃ W:Nat→St→Hp→Prop,(∃ m,W m σ H)∧∀ m σ H,W m σ H →
 c σ H fun b H1=>if b=true then ∃ N:St→Hp→Prop,(∀ σ' H',N σ' H'→∃ m',m' < m∧W m' σ' H')∧tb { D with nx:=N,ct:=N,bk:=D.nx } σ H1 else D.nx σ H1
theorem ps_while {c:Expr}{body:List Stmt}{tc:TT}{tb:TS} (hp:PassesOwn (model X.prog X.w) X.A X.env X.xe) (hc:PT X c tc) (hb:PSs X body tb):PS X (.While c body [] pos) (tWhile tc tb):=by
 intro pins s σ H D I h
 obtain ⟨W,⟨m0,w0⟩,turn⟩:=h
 refine wpAny_While (codeAny_whileLoop (fun n s'=>∃ σ' H',Inv X pins σ' H' s'∧W n σ' H') ?_ m0 ⟨σ,H,I,w0⟩)
 rintro n s1 ⟨σ1,H1,I1,w1⟩
 refine wpAny_passesOwn hp (thn (hc pins s1 σ1 H1 _ I1 (turn n σ1 H1 w1)) fun b s2 ⟨H2,I2,q2⟩=>?_)
 cases b with
 | true =>
  obtain ⟨N,hN,q2⟩:=q2
  rw [if_pos rfl]
  refine wpAny_passesOwn hp (thn (hb pins s2 σ1 H2 _ I2 q2) fun f s3 q3=>?_)
  cases f with
  | next =>
   obtain ⟨σ3,H3,I3,n3⟩:=q3
   obtain ⟨m',hm,w3⟩:=hN σ3 H3 n3
   exact ⟨m',hm,σ3,H3,I3,w3⟩
  | cont =>
   obtain ⟨σ3,H3,I3,n3⟩:=q3
   obtain ⟨m',hm,w3⟩:=hN σ3 H3 n3
   exact ⟨m',hm,σ3,H3,I3,w3⟩
  | brk=>exact q3
  | ret v=>exact q3
 | false =>
  rw [if_neg Bool.false_ne_true]
  exact wpAny_execs_nil ⟨σ1,H2,I2,q2⟩
end
structure It where
 go:Nat→Hp→Prop
 yld:Nat→Hp→V→Hp→Prop
 stop:Nat→Hp→Prop
def FpOk (X:Cx) (pins:List (Addr×Obj)) (H:Hp) (b:Addr):Prop :=
 H b=none∧b≠X.env.locals∧b∉X.fs∧(b∈X.ex∨X.s₀.heap.objs.size≤b)∧(∀ x c,X.env.cells.lookup x=some c→c≠b)∧∀ p∈X.pn++pins,p.1≠b
theorem Inv.fpOk {X:Cx}{pins:List (Addr×Obj)}{σ:St}{H H':Hp}{s:Shared}{b:Addr} (I:Inv X pins σ H s) (hb:s.heap.objs.size≤b) (hn:H' b=none):FpOk X pins H' b:=by
 refine ⟨hn,Nat.ne_of_gt (Nat.lt_of_lt_of_le I.lt hb),I.nofs hb,.inr (Nat.le_trans I.sz hb),fun x c e z=>?_,fun p hp z=>?_⟩
 ·obtain ⟨v,q⟩:=I.cell x c e
  exact absurd (Nat.lt_of_lt_of_le q.lt (by rw [z];exact hb)) (Nat.lt_irrefl _)
 ·exact absurd (Nat.lt_of_lt_of_le (Heap.lt_size (I.pin p hp).1) (by rw [z];exact hb)) (Nat.lt_irrefl _)
structure Turn (P:Program) (w:World) (K:PySem.W.Frag) (tg:Expr) (J:It) (fp:List Addr) (it:Addr) (tn:Nat→Heap→Prop):Prop where
 mem:it∈fp
 obj:∀ i h,tn i h→∀ b∈fp,∃ o,h.get? b=some o∧∀ v,o.data≠.cell v
 keep:∀ i h h',tn i h→(∀ b∈fp,∀ o,h.get? b=some o→h'.get? b=some o)→tn i h'
 item:∀ (X:Cx),X.prog=P→X.w=w→X.K=K→X.calm=true→∀ (i:Nat) (pins:List (Addr×Obj)) (s:Shared) (σ:St) (H:Hp) (E:Value→Shared→Prop),Inv X pins σ H s→(∀ b∈fp,FpOk X pins H b)→tn i s.heap→J.go i H →
  wpAny (model P w) X.A (pyNext (.ref it)) (fun r s1=>∃ u,r=some u ∧
   wpAny (model P w) X.A (letOwnedTupleGo tg (.ref it) u) (fun _ s2=>∃ x H',Inv X pins σ H' s2∧RelV x u∧J.yld i H x H'∧tn (i+1) s2.heap∧∀ b∈fp,H' b=none) E s1) E s
 done:∀ (X:Cx),X.prog=P→X.w=w→X.K=K→X.calm=true→∀ (i:Nat) (pins:List (Addr×Obj)) (s:Shared) (σ:St) (H:Hp) (E:Value→Shared→Prop),Inv X pins σ H s→(∀ b∈fp,FpOk X pins H b)→tn i s.heap→J.stop i H →
  wpAny (model P w) X.A (pyNext (.ref it)) (fun r s1=>r=none∧Inv X pins σ H s1) E s
 self:∀ (A:Around) (i:Nat) (s:Shared) (Q:Value→Shared→Prop) (E:Value→Shared→Prop),tn i s.heap→Q (.ref it) s→wpAny (model P w) A (pyIter (.ref it)) Q E s
abbrev TI:=St→Hp→(It→Hp→Prop)→Prop
def PIE (X:Cx) (pins:List (Addr×Obj)) (σ:St) (tg:Expr) (R:It→Hp→Prop) (itv:Value) (s2:Shared):Prop :=
 ∃ (it:Addr) (fp:List Addr) (tn:Nat→Heap→Prop) (J:It) (H':Hp),itv=.ref it∧Inv X pins σ H' s2∧Turn X.prog X.w X.K tg J fp it tn∧tn 0 s2.heap∧(∀ b∈fp,FpOk X pins H' b)∧R J H'
def PI (X:Cx) (tg iter:Expr) (wi:TI):Prop :=
 ∀ (pins:List (Addr×Obj)) (s:Shared) (σ:St) (H:Hp) (R:It→Hp→Prop),Inv X pins σ H s→wi σ H R →
  wpAny (model X.prog X.w) X.A (eval iter X.env) (fun v s1=>wpAny (model X.prog X.w) X.A (pyIter v) (PIE X pins σ tg R) X.xe s1) X.xe s
theorem go_of {M:Model}{A:Around}{E:Value→Shared→Prop}{s:Shared}{tg:Expr}{it:Addr}{u:Value}{o:Obj}{n:String}{vs:Array Value}{Q:Unit→Shared→Prop} (ho:s.heap.get? it=some o) (hc:o.cls=.type n) (hd:o.data=.fields vs)
  (hn:["enumerate","zip","dict_itemiterator","dict_reverseitemiterator","odict_iterator","itertools.zip_longest","itertools.pairwise"].contains n=false) (hQ:Q () s):wpAny M A (letOwnedTupleGo tg (.ref it) u) Q E s:=by
 unfold letOwnedTupleGo
 cases tg<;>first
  | exact wpAny_pure hQ
  | (cases u<;>first
    | exact wpAny_pure hQ
    | (refine wpAny_bind (wpAny_load ho ?_)
       rw [hc,hd]
       show wpAny M A (if (["enumerate","zip","dict_itemiterator","dict_reverseitemiterator","odict_iterator","itertools.zip_longest","itertools.pairwise"].contains n&&vs[0]? == some (rawInt _))=true then _ else _) Q E s
       rw [if_neg (by intro h;rw [hn,Bool.false_and] at h;cases h)]
       exact wpAny_pure hQ))
def Itl (K:PySem.W.Frag) (a:Addr):It :=
 ⟨fun i H=>∃ xs x,SqL K H a xs∧xs[i]? = some x,fun i H x H'=>H'=H∧∀ xs,SqL K H a xs→xs[i]? = some x,fun i H=>∃ xs,SqL K H a xs∧xs.length≤i⟩
def Itt (K:PySem.W.Frag) (a:Addr):It :=
 ⟨fun i H=>∃ xs x,SqT K H a xs∧xs[i]? = some x,fun i H x H'=>H'=H∧∀ xs,SqT K H a xs→xs[i]? = some x,fun i H=>∃ xs,SqT K H a xs∧xs.length≤i⟩
def Itr (lo:Int) (n:Nat):It:=⟨fun i _=>i < n,fun i H x H'=>H'=H∧x=.int (lo+i),fun i _=>n≤i⟩
theorem turn_list {P:Program}{w:World}{K:PySem.W.Frag}{tg:Expr} (a it:Addr):Turn P w K tg (Itl K a) [it] it (fun i h=>h.IsListIter it a i) where
 mem:=by simp
 obj:=fun i h st b hb=>by
  have e:b=it:=by simpa using hb
  subst e
  obtain ⟨o,e,c,d⟩:=st
  exact ⟨o,e,fun v z=>by rw [d] at z;cases z⟩
 keep:=fun i h h' st k=>st.at fun o e=>k it (by simp) o e
 item:=by
  intro X hP hw hK hc i pins s σ H E I hf st hg
  subst hP hw hK
  obtain ⟨xs,x,hq,hx⟩:=hg
  obtain ⟨its,rv,p,hz⟩:=I.list hq
  obtain ⟨u,hu,ru⟩:=rv.get hx
  obtain ⟨f0,f1,f2,f3,f4,f5⟩:=hf it (by simp)
  refine wpAny_pyNext_list_item st p.isList (x:=u) (by simpa using hu) fun h' st' sb=>?_
  have I1:Inv X pins σ H { s with heap:=h' }:=I.turned (t':=s.toks) (fun b o hb e=>(sb.2 b hb).trans e) f0 f1 f3 f4 f5
  obtain ⟨o,e,c,d⟩:=id st'
  exact ⟨u,rfl,go_of (s:={ s with heap:=h' }) e c d (by decide) ⟨x,H,I1,ru,⟨rfl,fun ys hy=>by rw [I.list_inj hy hq];exact hx⟩,st',fun b hb=>(hf b hb).1⟩⟩
 done:=by
  intro X hP hw hK hc i pins s σ H E I hf st hg
  subst hP hw hK
  obtain ⟨xs,hq,hx⟩:=hg
  obtain ⟨its,rv,p,hz⟩:=I.list hq
  obtain ⟨f0,f1,f2,f3,f4,f5⟩:=hf it (by simp)
  have hl:=rv.length
  exact wpAny_pyNext_list_end (I.ok.hd hc) st p.isList (by simp;omega) fun h' eb=>⟨rfl,I.turned (t':=s.toks) (fun b o hb e=>eb b o hb e) f0 f1 f3 f4 f5⟩
 self:=fun _ _ _ _ _ st h=>wpAny_pyIter_listiter st h
theorem turn_tuple {P:Program}{w:World}{K:PySem.W.Frag}{tg:Expr} (a it:Addr):Turn P w K tg (Itt K a) [it] it (fun i h=>h.IsTupleIter it a i) where
 mem:=by simp
 obj:=fun i h st b hb=>by
  have e:b=it:=by simpa using hb
  subst e
  obtain ⟨o,e,c,d⟩:=st
  exact ⟨o,e,fun v z=>by rw [d] at z;cases z⟩
 keep:=fun i h h' st k=>st.at fun o e=>k it (by simp) o e
 item:=by
  intro X hP hw hK hc i pins s σ H E I hf st hg
  subst hP hw hK
  obtain ⟨xs,x,hq,hx⟩:=hg
  obtain ⟨its,rv,p,hz⟩:=I.tuple hq
  obtain ⟨u,hu,ru⟩:=rv.get hx
  obtain ⟨f0,f1,f2,f3,f4,f5⟩:=hf it (by simp)
  refine wpAny_pyNext_tuple_item st (show s.heap.IsTuple a its.toArray from p) (x:=u) (by simpa using hu) fun h' st' sb=>?_
  have I1:Inv X pins σ H { s with heap:=h' }:=I.turned (t':=s.toks) (fun b o hb e=>(sb.2 b hb).trans e) f0 f1 f3 f4 f5
  obtain ⟨o,e,c,d⟩:=id st'
  exact ⟨u,rfl,go_of (s:={ s with heap:=h' }) e c d (by decide) ⟨x,H,I1,ru,⟨rfl,fun ys hy=>by rw [I.tuple_inj hy hq];exact hx⟩,st',fun b hb=>(hf b hb).1⟩⟩
 done:=by
  intro X hP hw hK hc i pins s σ H E I hf st hg
  subst hP hw hK
  obtain ⟨xs,hq,hx⟩:=hg
  obtain ⟨its,rv,p,hz⟩:=I.tuple hq
  obtain ⟨f0,f1,f2,f3,f4,f5⟩:=hf it (by simp)
  have hl:=rv.length
  exact wpAny_pyNext_tuple_end (I.ok.hd hc) st (show s.heap.IsTuple a its.toArray from p) (by simp;omega) fun h' eb=>⟨rfl,I.turned (t':=s.toks) (fun b o hb e=>eb b o hb e) f0 f1 f3 f4 f5⟩
 self:=fun _ _ _ _ _ st h=>wpAny_pyIter_tupleiter st h
theorem turn_range {P:Program}{w:World}{K:PySem.W.Frag}{tg:Expr} (it:Addr) (lo:Int) (n:Nat):Turn P w K tg (Itr lo n) [it] it (fun i h=>IsRangeIter h it (lo+(i:Nat) * 1) ((n:Int)-(i:Nat)) 1) where
 mem:=by simp
 obj:=fun i h st b hb=>by
  have e:b=it:=by simpa using hb
  subst e
  exact ⟨_,st,fun v z=>by
   have z':Data.fields _=Data.cell v:=z
   cases z'⟩
 keep:=fun i h h' st k=>k it (by simp) _ st
 item:=by
  intro X hP hw hK hc i pins s σ H E I hf st hg
  subst hP hw hK
  obtain ⟨f0,f1,f2,f3,f4,f5⟩:=hf it (by simp)
  have W:=Walks.range (prog:=X.prog) (w:=X.w) (I.ok.hd hc) it lo 1 n
  refine W.item i s _ _ hg st fun v h' tk hv st' kk=>?_
  obtain ⟨t,rfl⟩:=hv
  have I1:Inv X pins σ H { s with heap:=h',toks:=tk }:=I.turned (fun b o hb e=>kk b o (by simpa using hb) e) f0 f1 f3 f4 f5
  refine ⟨_,rfl,go_of (s:={ s with heap:=h',toks:=tk }) (n:="range_iterator") st' rfl rfl (by decide) ⟨.int (lo+i),H,I1,⟨t,?_⟩,⟨rfl,rfl⟩,st',fun b hb=>(hf b hb).1⟩⟩
  rw [Int.mul_one]
 done:=by
  intro X hP hw hK hc i pins s σ H E I hf st hg
  subst hP hw hK
  obtain ⟨f0,f1,f2,f3,f4,f5⟩:=hf it (by simp)
  exact wpAny_pyNext_range_end (I.ok.hd hc) st (by have:n≤i:=hg;omega) fun h' eb=>⟨rfl,I.turned (t':=s.toks) (fun b o hb e=>eb b o hb e) f0 f1 f3 f4 f5⟩
 self:=fun _ _ _ _ _ st h=>wpAny_pyIter_rangeiter st h
end L2
namespace L2
open PySem PySem.Spec PyProof.Rows
section
variable {X:Cx}{tg:Expr}
def iList (K:PySem.W.Frag) (tl:TE):TI:=fun σ H R=>tl σ H fun x H1=>∃ a,x=.ref a∧(∃ xs,SqL K H1 a xs)∧R (Itl K a) H1
def iTup (K:PySem.W.Frag) (tl:TE):TI:=fun σ H R=>tl σ H fun x H1=>∃ a,x=.ref a∧(∃ xs,SqT K H1 a xs)∧R (Itt K a) H1
theorem pi_list {l:Expr}{tl:TE} (hl:PE X l tl):PI X tg l (iList X.K tl):=by
 intro pins s σ H R I h
 refine thnE (hl pins s σ H _ I h) fun v s1 x H1 I1 r1 q1=>?_
 obtain ⟨a,e,⟨xs,hq⟩,q⟩:=q1
 subst e
 cases r1
 obtain ⟨its,rv,p,hz⟩:=I1.list hq
 refine wpAny_pyIter_list p.isList ?_
 refine ⟨s1.heap.objs.size,[s1.heap.objs.size],_,_,H1,rfl,I1.kept (t':=s1.toks) fun b o e=>Heap.get?_push_of_some _ e,turn_list a _,⟨_,Heap.get?_push_size _ rfl,rfl,rfl⟩,fun b hb=>?_,q⟩
 have e:b=s1.heap.objs.size:=by simpa using hb
 subst e
 exact I1.fpOk (Nat.le_refl _) (I1.hok.fresh (Nat.le_refl _))
theorem pi_tup {l:Expr}{tl:TE} (hl:PE X l tl):PI X tg l (iTup X.K tl):=by
 intro pins s σ H R I h
 refine thnE (hl pins s σ H _ I h) fun v s1 x H1 I1 r1 q1=>?_
 obtain ⟨a,e,⟨xs,hq⟩,q⟩:=q1
 subst e
 cases r1
 obtain ⟨its,rv,p,hz⟩:=I1.tuple hq
 refine wpAny_pyIter_tuple (show s1.heap.IsTuple a its.toArray from p) ?_
 refine ⟨s1.heap.objs.size,[s1.heap.objs.size],_,_,H1,rfl,I1.kept (t':=s1.toks) fun b o e=>Heap.get?_push_of_some _ e,turn_tuple a _,⟨_,Heap.get?_push_size _ rfl,rfl,rfl⟩,fun b hb=>?_,q⟩
 have e:b=s1.heap.objs.size:=by simpa using hb
 subst e
 exact I1.fpOk (Nat.le_refl _) (I1.hok.fresh (Nat.le_refl _))
theorem range_it {pins:List (Addr×Obj)}{σ:St}{H:Hp}{s:Shared}{R:It→Hp→Prop}{E:Value→Shared→Prop}{lo hi:Int}{t u v:Tok}{tk:Nat} (I:Inv X pins σ H s) (h1 : -(2 ^ 62)≤lo) (h2:lo < 2 ^ 62) (h3 : -(2 ^ 62)≤hi) (h4:hi < 2 ^ 62)
  (q:R (Itr lo (hi-lo).toNat) H):wpAny (model X.prog X.w) X.A (pyIter (.ref s.heap.objs.size)) (PIE X pins σ tg R) E { s with heap:=s.heap.push { cls:=.type "range",data:=.fields #[.int lo t,.int hi u,.int 1 v] },toks:=tk }:=by
 refine wpAny_pyIter_range (IsRange.new ..) (small_one h1 h2 h3 h4) ?_
 have I1:Inv X pins σ H { s with heap:=s.heap.push { cls:=.type "range",data:=.fields #[.int lo t,.int hi u,.int 1 v] },toks:=tk }:=I.kept fun b o e=>Heap.get?_push_of_some _ e
 refine ⟨(s.heap.push { cls:=.type "range",data:=.fields #[.int lo t,.int hi u,.int 1 v] }).objs.size,[(s.heap.push { cls:=.type "range",data:=.fields #[.int lo t,.int hi u,.int 1 v] }).objs.size],_,_,H,rfl,
  I1.kept (t':=tk) fun b o e=>Heap.get?_push_of_some _ e,turn_range _ lo (hi-lo).toNat,?_,fun b hb=>?_,q⟩
 ·have e1:lo+((0:Nat):Int) * 1=lo:=by simp
  have e2:(((hi-lo).toNat:Nat):Int)-((0:Nat):Int)=Builtin.Range.rangeSize lo hi 1:=by rw [rangeSize_one];split<;>omega
  show IsRangeIter _ _ (lo+((0:Nat):Int) * 1) ((((hi-lo).toNat:Nat):Int)-((0:Nat):Int)) 1
  rw [e1,e2]
  exact Heap.get?_push_size _ rfl
 ·have e:b=(s.heap.push { cls:=.type "range",data:=.fields #[.int lo t,.int hi u,.int 1 v] }).objs.size:=by simpa using hb
  subst e
  exact I1.fpOk (Nat.le_refl _) (I1.hok.fresh (Nat.le_refl _))
def iRng1 (ta:TA):TI:=fun σ H R=>ta σ H fun vs H1=>∃ j:Int,vs=[.int j]∧-(2 ^ 62)≤j∧j < 2 ^ 62∧R (Itr 0 j.toNat) H1
theorem pi_range1 {a:Expr}{ta:TA}{p pos:Pos} (hg:Gl X "range") (hm:X.mg "range"=none) (ha:PA X [a] ta) (hs:starEach [a] X.env=[(false,eval a X.env)]:=by rfl):PI X tg (.Call (.Name "range" p) [a] [] pos) (iRng1 ta):=by
 intro pins s σ H R I h
 refine Call_ (ld_blt I hg hm boot_range (PyProof.Rows.callWith_type1 (thnA (ha pos pins s σ H _ I h) fun us s1 vs H1 I1 r1 q1=>?_) hs rfl))
 obtain ⟨j,e,q1,q2,q⟩:=q1
 subst e
 cases r1 with
 | cons r rr =>
  cases rr
  obtain ⟨t,rfl⟩:=r
  exact call_range_1 (range_it I1 (by omega) (by omega) q1 q2 (by simpa using q))
def tFor (wi:TI) (g:TG) (tb:TS):TS:=fun D σ H=>wi σ H fun J H1=>∃ W:Nat→Nat→St→Hp→Prop,(∃ m,W 0 m σ H1)∧∀ i m σ H,W i m σ H →
 (J.stop i H∧D.nx σ H)∨(J.go i H∧∃ N:St→Hp→Prop,(∀ σ' H',N σ' H'→∃ m',m' < m∧W (i+1) m' σ' H')∧∀ x H',J.yld i H x H'→g x σ H' fun σ2 H2=>tb { D with nx:=N,ct:=N,bk:=D.nx } σ2 H2)
def pinsAt (fp:List Addr) (h:Heap):List (Addr×Obj):=fp.filterMap fun b=>(h.get? b).map fun o=>(b,o)
theorem mem_pinsAt {fp:List Addr}{h:Heap}{b:Addr}{o:Obj} (hb:b∈fp) (e:h.get? b=some o):(b,o)∈pinsAt fp h:=List.mem_filterMap.mpr ⟨b,hb,by rw [e];rfl⟩
theorem of_pinsAt {fp:List Addr}{h:Heap}{p:Addr×Obj} (hp:p∈pinsAt fp h):p.1∈fp∧h.get? p.1=some p.2:=by
 obtain ⟨b,hb,e⟩:=List.mem_filterMap.mp hp
 cases q:h.get? b with
 | none=>rw [q] at e;cases e
 | some o =>
  rw [q] at e
  have e':(b,o)=p:=Option.some.inj e
  subst e'
  exact ⟨hb,q⟩
theorem Inv.pinned {pins:List (Addr×Obj)}{σ:St}{H:Hp}{s:Shared}{fp:List Addr} (I:Inv X pins σ H s) (hf:∀ b∈fp,FpOk X pins H b) (ho:∀ b∈fp,∃ o,s.heap.get? b=some o∧∀ v,o.data≠.cell v):Inv X (pins++pinsAt fp s.heap) σ H s :=
 I.pins_of fun p hp=>(List.mem_append.mp hp).elim (fun z=>I.pin p (List.mem_append_right _ z)) fun z=>by
  obtain ⟨hb,e⟩:=of_pinsAt z
  obtain ⟨f0,f1,f2,_⟩:=hf p.1 hb
  obtain ⟨o,e',d⟩:=ho p.1 hb
  rw [e] at e';cases e'
  exact ⟨e,f0,f1,f2,d⟩
theorem Inv.unpinned {pins pl:List (Addr×Obj)}{σ:St}{H:Hp}{s:Shared} (I:Inv X (pins++pl) σ H s):Inv X pins σ H s:=I.pins_of fun p hp=>I.pin p (List.mem_append_right _ (List.mem_append_left _ hp))
theorem ps_for {iter:Expr}{body:List Stmt}{wi:TI}{g:TG}{tb:TS}{pos:Pos} (hp:PassesOwn (model X.prog X.w) X.A X.env X.xe) (hc:X.calm=true) (hi:PI X tg iter wi) (hg:PG X tg g) (hb:PSs X body tb)
  (hs:∀ x,foldedSetIterable iter X.env x=pure x:=by intro _;rfl):PS X (.For tg iter body [] pos) (tFor wi g tb):=by
 intro pins s σ H D I h
 refine wpAny_For (thn (hi pins s σ H _ I h) fun v s1 h1=>thn h1 fun itv s2 h2=>?_) hs
 obtain ⟨it,fp,tn,J,H2,e,I2,T,st2,f2,W,⟨m0,w0⟩,turn⟩:=h2
 subst e
 -- what stays true of the iterator's objects through the loop
 have stat:∀ {H':Hp},(∀ b∈fp,H' b=none)→∀ b∈fp,FpOk X pins H' b:=fun hn b hb=>⟨hn b hb,(f2 b hb).2⟩
 refine codeAny_forLoop_any (fun n s'=>∃ i σ' H',Inv X pins σ' H' s'∧tn i s'.heap∧(∀ b∈fp,H' b=none)∧W i n σ' H') ?_ m0 ⟨0,σ,H2,I2,st2,fun b hb=>(f2 b hb).1,w0⟩
 rintro n s3 ⟨i,σ3,H3,I3,st3,fr3,w3⟩
 rcases turn i n σ3 H3 w3 with ⟨stop,qn⟩ | ⟨go,N,hN,step⟩
 ·refine wpAny_passesOwn hp (thn (T.done X rfl rfl rfl hc i pins s3 σ3 H3 X.xe I3 (stat fr3) st3 stop) fun r s4 ⟨hr,I4⟩=>?_)
  subst hr
  exact wpAny_execs_nil ⟨σ3,H3,I4,qn⟩
 ·refine wpAny_passesOwn hp (thn (T.item X rfl rfl rfl hc i pins s3 σ3 H3 X.xe I3 (stat fr3) st3 go) fun r s4 ⟨u,hr,h4⟩=>?_)
  subst hr
  refine wpAny_passesOwn hp (thn h4 fun _ s5 ⟨x,H5,I5,r5,y5,st5,fr5⟩=>?_)
  have I5':=I5.pinned (stat fr5) (T.obj _ _ st5)
  refine wpAny_passesOwn hp (thn (hg _ s5 σ3 H5 x u _ I5' r5 (step x H5 y5)) fun _ s6 ⟨σ6,H6,I6,q6⟩=>?_)
  refine wpAny_passesOwn hp (thn (hb _ s6 σ6 H6 _ I6 q6) fun f s7 q7=>?_)
  have again:∀ {σ7:St}{H7:Hp},Inv X (pins++pinsAt fp s5.heap) σ7 H7 s7→N σ7 H7→∃ m,m < n∧∃ i σ' H',Inv X pins σ' H' s7∧tn i s7.heap∧(∀ b∈fp,H' b=none)∧W i m σ' H':=fun {σ7 H7} I7 n7=>by
   obtain ⟨m',hm,w7⟩:=hN σ7 H7 n7
   refine ⟨m',hm,i+1,σ7,H7,I7.unpinned,T.keep _ _ _ st5 fun b hb o e=>(I7.pin (b,o) (List.mem_append_right _ (List.mem_append_right _ (mem_pinsAt hb e)))).1,fun b hb=>?_,w7⟩
   obtain ⟨o,e,d⟩:=T.obj _ _ st5 b hb
   exact (I7.pin (b,o) (List.mem_append_right _ (List.mem_append_right _ (mem_pinsAt hb e)))).2.1
  cases f with
  | next=>obtain ⟨σ7,H7,I7,n7⟩:=q7;exact again I7 n7
  | cont=>obtain ⟨σ7,H7,I7,n7⟩:=q7;exact again I7 n7
  | brk=>obtain ⟨σ7,H7,I7,q7⟩:=q7;exact ⟨σ7,H7,I7.unpinned,q7⟩
  | ret v=>obtain ⟨x7,σ7,H7,I7,r7,q7⟩:=q7;exact ⟨x7,σ7,H7,I7.unpinned,r7,q7⟩
end
theorem for_list {K:PySem.W.Frag}{a:Addr}{xs:List V}{g:TG}{tb:TS}{D:Ends}{σ:St}{H:Hp} (Pv:Nat→St→Hp→Prop) (h0:Pv 0 σ H) (hl:∀ i σ H,i≤xs.length→Pv i σ H→SqL K H a xs)
  (hs:∀ i x σ H,xs[i]? = some x→Pv i σ H→g x σ H fun σ2 H2=>tb { D with nx:=Pv (i+1),ct:=Pv (i+1),bk:=D.nx } σ2 H2) (hd:∀ σ H,Pv xs.length σ H→D.nx σ H) :
  ∃ W:Nat→Nat→St→Hp→Prop,(∃ m,W 0 m σ H)∧∀ i m σ H,W i m σ H →
   ((Itl K a).stop i H∧D.nx σ H)∨((Itl K a).go i H∧∃ N:St→Hp→Prop,(∀ σ' H',N σ' H'→∃ m',m' < m∧W (i+1) m' σ' H')∧∀ x H',(Itl K a).yld i H x H'→g x σ H' fun σ2 H2=>tb { D with nx:=N,ct:=N,bk:=D.nx } σ2 H2):=by
 refine ⟨fun i m σ H=>m=xs.length-i∧i≤xs.length∧Pv i σ H,⟨xs.length,by simp,Nat.zero_le _,h0⟩,?_⟩
 rintro i m σ H ⟨rfl,hi,p⟩
 have q:=hl i σ H hi p
 by_cases hlt:i < xs.length
 ·refine .inr ⟨⟨xs,xs[i],q,by simp [hlt]⟩,Pv (i+1),fun σ' H' p'=>⟨xs.length-(i+1),by omega,rfl,hlt,p'⟩,fun x H' y=>?_⟩
  obtain ⟨e,y⟩:=y
  subst e
  exact hs i x σ _ (y xs q) p
 ·have e:i=xs.length:=by omega
  subst e
  exact .inl ⟨⟨xs,q,Nat.le_refl _⟩,hd σ H p⟩
theorem for_tup {K:PySem.W.Frag}{a:Addr}{xs:List V}{g:TG}{tb:TS}{D:Ends}{σ:St}{H:Hp} (Pv:Nat→St→Hp→Prop) (h0:Pv 0 σ H) (hl:∀ i σ H,i≤xs.length→Pv i σ H→SqT K H a xs)
  (hs:∀ i x σ H,xs[i]? = some x→Pv i σ H→g x σ H fun σ2 H2=>tb { D with nx:=Pv (i+1),ct:=Pv (i+1),bk:=D.nx } σ2 H2) (hd:∀ σ H,Pv xs.length σ H→D.nx σ H) :
  ∃ W:Nat→Nat→St→Hp→Prop,(∃ m,W 0 m σ H)∧∀ i m σ H,W i m σ H →
   ((Itt K a).stop i H∧D.nx σ H)∨((Itt K a).go i H∧∃ N:St→Hp→Prop,(∀ σ' H',N σ' H'→∃ m',m' < m∧W (i+1) m' σ' H')∧∀ x H',(Itt K a).yld i H x H'→g x σ H' fun σ2 H2=>tb { D with nx:=N,ct:=N,bk:=D.nx } σ2 H2):=by
 refine ⟨fun i m σ H=>m=xs.length-i∧i≤xs.length∧Pv i σ H,⟨xs.length,by simp,Nat.zero_le _,h0⟩,?_⟩
 rintro i m σ H ⟨rfl,hi,p⟩
 have q:=hl i σ H hi p
 by_cases hlt:i < xs.length
 ·refine .inr ⟨⟨xs,xs[i],q,by simp [hlt]⟩,Pv (i+1),fun σ' H' p'=>⟨xs.length-(i+1),by omega,rfl,hlt,p'⟩,fun x H' y=>?_⟩
  obtain ⟨e,y⟩:=y
  subst e
  exact hs i x σ _ (y xs q) p
 ·have e:i=xs.length:=by omega
  subst e
  exact .inl ⟨⟨xs,q,Nat.le_refl _⟩,hd σ H p⟩
theorem for_range {lo:Int}{n:Nat}{g:TG}{tb:TS}{D:Ends}{σ:St}{H:Hp} (Pv:Nat→St→Hp→Prop) (h0:Pv 0 σ H)
  (hs:∀ i σ H,i < n→Pv i σ H→g (.int (lo+i)) σ H fun σ2 H2=>tb { D with nx:=Pv (i+1),ct:=Pv (i+1),bk:=D.nx } σ2 H2) (hd:∀ σ H,Pv n σ H→D.nx σ H) :
  ∃ W:Nat→Nat→St→Hp→Prop,(∃ m,W 0 m σ H)∧∀ i m σ H,W i m σ H →
   ((Itr lo n).stop i H∧D.nx σ H)∨((Itr lo n).go i H∧∃ N:St→Hp→Prop,(∀ σ' H',N σ' H'→∃ m',m' < m∧W (i+1) m' σ' H')∧∀ x H',(Itr lo n).yld i H x H'→g x σ H' fun σ2 H2=>tb { D with nx:=N,ct:=N,bk:=D.nx } σ2 H2):=by
 refine ⟨fun i m σ H=>m=n-i∧i≤n∧Pv i σ H,⟨n,by simp,Nat.zero_le _,h0⟩,?_⟩
 rintro i m σ H ⟨rfl,hi,p⟩
 by_cases hlt:i < n
 ·refine .inr ⟨hlt,Pv (i+1),fun σ' H' p'=>⟨n-(i+1),by omega,rfl,hlt,p'⟩,fun x H' y=>?_⟩
  obtain ⟨e,y⟩:=y
  subst e y
  exact hs i σ _ hlt p
 ·have e:i=n:=by omega
  subst e
  exact .inl ⟨Nat.le_refl _,hd σ H p⟩
end L2
namespace L2
open PySem PySem.Spec PyProof.Rows
abbrev R2:=V→V→Hp→VK→Prop
def OpR (X:Cx) (f:Value→Value→Sem Value) (r:R2):Prop :=
 ∀ (pins:List (Addr×Obj)) (s:Shared) (σ:St) (H:Hp) (x y:V) (v u:Value) (Q:VK),Inv X pins σ H s→RelV x v→RelV y u→r x y H Q →
  wpAny (model X.prog X.w) X.A (f v u) (EP X pins σ Q) X.xe s
def UnR (X:Cx) (f:Value→Sem Value) (r:V→Hp→VK→Prop):Prop :=
 ∀ (pins:List (Addr×Obj)) (s:Shared) (σ:St) (H:Hp) (x:V) (v:Value) (Q:VK),Inv X pins σ H s→RelV x v→r x H Q →
  wpAny (model X.prog X.w) X.A (f v) (EP X pins σ Q) X.xe s
def CallR (X:Cx) (f:Value) (r:List V→Hp→VK→Prop):Prop :=
 ∀ (pins:List (Addr×Obj)) (s:Shared) (σ:St) (H:Hp) (xs:List V) (us:List Value) (Q:VK),Inv X pins σ H s→Vals xs us→r xs H Q →
  wpAny (model X.prog X.w) X.A (call f us) (EP X pins σ Q) X.xe s
def tOp (r:R2) (ta tb:TE):TE:=fun σ H Q=>ta σ H fun x H1=>tb σ H1 fun y H2=>r x y H2 Q
def tUn (r:V→Hp→VK→Prop) (ta:TE):TE:=fun σ H Q=>ta σ H fun x H1=>r x H1 Q
def rI (C:Int→Int→Prop) (g:Int→Int→V):R2:=fun x y H Q=>∃ i j,x=.int i∧y=.int j∧C i j∧Q (g i j) H
def rI0 (g:Int→Int→V):R2:=fun x y H Q=>∃ i j,x=.int i∧y=.int j∧Q (g i j) H
def rU (g:Int→V):V→Hp→VK→Prop:=fun x H Q=>∃ i,x=.int i∧Q (g i) H
section
variable {X:Cx}{a b c:Expr}{ta tb tc:TE}{pos:Pos}
theorem binT (ha:PE X a ta) (hb:PE X b tb) {pins:List (Addr×Obj)}{s:Shared}{σ:St}{H:Hp}{R:V→V→Hp→Prop} (I:Inv X pins σ H s)
  (h:ta σ H fun x H1=>tb σ H1 fun y H2=>R x y H2) {Q:Value→Shared→Prop}{f:Value→Value→Sem Value}
  (hf:∀ v u s2 x y H2,Inv X pins σ H2 s2→RelV x v→RelV y u→R x y H2→wpAny (model X.prog X.w) X.A (f v u) Q X.xe s2) :
  wpAny (model X.prog X.w) X.A (eval a X.env) (fun v s₁=>wpAny (model X.prog X.w) X.A (eval b X.env) (fun u s₂=>wpAny (model X.prog X.w) X.A (f v u) Q X.xe s₂) X.xe s₁) X.xe s:=by
 refine thnE (ha pins s σ H _ I h) fun v s1 x H1 I1 r1 q1=>?_
 refine thnE (hb pins s1 σ H1 _ I1 q1) fun u s2 y H2 I2 r2 q2=>?_
 exact hf v u s2 x y H2 I2 r1 r2 q2
theorem pe_op {op:Operator}{r:R2} (ho:OpR X (binaryOp op) r) (ha:PE X a ta) (hb:PE X b tb):PE X (.BinOp a op b pos) (tOp r ta tb):=by
 intro pins s σ H Q I h
 exact wpAny_BinOp (binT ha hb I h fun v u s2 x y H2 I2 rx ry q=>ho pins s2 σ H2 x y v u Q I2 rx ry q)
theorem pe_un {op:UnaryOp}{r:V→Hp→VK→Prop} (ho:UnR X (unaryOp op) r) (ha:PE X a ta):PE X (.UnaryOp op a pos) (tUn r ta):=by
 intro pins s σ H Q I h
 exact UnaryOp_ (thnE (ha pins s σ H _ I h) fun v s1 x H1 I1 r1 q1=>ho pins s1 σ H1 x v Q I1 r1 q1)
theorem opI {f:Value→Value→Sem Value}{C:Int→Int→Prop}{g:Int→Int→Int}
  (rule:∀ (i j:Int) (t u:Tok) (s:Shared) (Q:Value→Shared→Prop) (E:Value→Shared→Prop),C i j→Q (.int (g i j) s.toks) { s with toks:=s.toks+1 }→wpAny (model X.prog X.w) X.A (f (.int i t) (.int j u)) Q E s) :
  OpR X f (rI C fun i j=>.int (g i j)):=by
 intro pins s σ H x y v u Q I rx ry h
 obtain ⟨i,j,rfl,rfl,hc,q⟩:=h
 obtain ⟨t,rfl⟩:=rx
 obtain ⟨t',rfl⟩:=ry
 exact rule i j t t' s _ _ hc ⟨.int (g i j),H,I.tok _,⟨_,rfl⟩,q⟩
theorem opI0 {f:Value→Value→Sem Value}{g:Int→Int→Int}
  (rule:∀ (i j:Int) (t u:Tok) (s:Shared) (Q:Value→Shared→Prop) (E:Value→Shared→Prop),Q (.int (g i j) s.toks) { s with toks:=s.toks+1 }→wpAny (model X.prog X.w) X.A (f (.int i t) (.int j u)) Q E s) :
  OpR X f (rI0 fun i j=>.int (g i j)):=by
 intro pins s σ H x y v u Q I rx ry h
 obtain ⟨i,j,rfl,rfl,q⟩:=h
 obtain ⟨t,rfl⟩:=rx
 obtain ⟨t',rfl⟩:=ry
 exact rule i j t t' s _ _ ⟨.int (g i j),H,I.tok _,⟨_,rfl⟩,q⟩
theorem opB0 {f:Value→Value→Sem Value}{g:Int→Int→Bool}
  (rule:∀ (i j:Int) (t u:Tok) (s:Shared) (Q:Value→Shared→Prop) (E:Value→Shared→Prop),Q (.bool (g i j)) s→wpAny (model X.prog X.w) X.A (f (.int i t) (.int j u)) Q E s) :
  OpR X f (rI0 fun i j=>.bl (g i j)):=by
 intro pins s σ H x y v u Q I rx ry h
 obtain ⟨i,j,rfl,rfl,q⟩:=h
 obtain ⟨t,rfl⟩:=rx
 obtain ⟨t',rfl⟩:=ry
 exact rule i j t t' s _ _ ⟨.bl (g i j),H,I,rfl,q⟩
def CDiv (i j:Int):Prop:=0 < j∧j < 1073741824
def CPow (i j:Int):Prop:=0≤j∧j≤1000000∧i.natAbs < 2 ^ 64
def CMul (i j:Int):Prop:=(-(2 ^ 64) < i∧i < 2 ^ 64)∨(-(2 ^ 64) < j∧j < 2 ^ 64)
theorem CMul.ok {i j:Int} (h:CMul i j):IntMulOk i j:=by
 rcases h with ⟨h1,h2⟩ | ⟨h1,h2⟩
 ·exact .of_left (intBits_le_64 h1 h2)
 ·exact .of_right (intBits_le_64 h1 h2)
theorem op_add:OpR X (binaryOp .Add) (rI0 fun i j=>.int (i+j)):=opI0 fun _ _ _ _ _ _ _ q=>add_int q
theorem op_sub:OpR X (binaryOp .Sub) (rI0 fun i j=>.int (i-j)):=opI0 fun _ _ _ _ _ _ _ q=>sub_int q
theorem op_mul:OpR X (binaryOp .Mult) (rI CMul fun i j=>.int (i * j)):=opI fun _ _ _ _ _ _ _ hc q=>mul_int q hc.ok
theorem op_fdiv:OpR X (binaryOp .FloorDiv) (rI CDiv fun i j=>.int (i / j)):=opI fun i j _ _ _ _ _ hc q=>by
 have h1:(0:Int) < j:=hc.1
 have h2:j < 1073741824:=hc.2
 exact floordiv_int (by omega) (by rw [Int.fdiv_eq_ediv_of_nonneg i (by omega)];exact q) (.inl (PyProof.noPylong_small (by omega)))
theorem op_mod:OpR X (binaryOp .Mod) (rI (fun _ j=>0 < j) fun i j=>.int (i % j)):=opI fun i j _ _ _ _ _ hc q=>by
 have h1:(0:Int) < j:=hc
 exact mod_int' (by omega) (by rw [Int.fmod_eq_emod_of_nonneg i (by omega)];exact q)
theorem op_pow:OpR X (binaryOp .Pow) (rI CPow fun i j=>.int (i ^ j.toNat)):=opI fun _ _ _ _ _ _ _ hc q=>pow_int_small hc.1 hc.2.1 hc.2.2 q
theorem unI {f:Value→Sem Value}{g:Int→Int}
  (rule:∀ (i:Int) (t:Tok) (s:Shared) (Q:Value→Shared→Prop) (E:Value→Shared→Prop),Q (.int (g i) s.toks) { s with toks:=s.toks+1 }→wpAny (model X.prog X.w) X.A (f (.int i t)) Q E s) :
  UnR X f (rU fun i=>.int (g i)):=by
 intro pins s σ H x v Q I rx h
 obtain ⟨i,rfl,q⟩:=h
 obtain ⟨t,rfl⟩:=rx
 exact rule i t s _ _ ⟨.int (g i),H,I.tok _,⟨_,rfl⟩,q⟩
theorem un_neg:UnR X (unaryOp .USub) (rU fun i=>.int (-i)):=unI fun _ _ _ _ _ q=>neg_int q
end
def scal:V→V→Bool
 | .non,.non=>true | .non,.int _=>true | .int _,.non=>true | .non,.bl _=>true | .bl _,.non=>true | .non,.str _=>true | .str _,.non=>true
 | .int _,.int _=>true | .bl _,.bl _=>true | .str _,.str _=>true | .byt _,.byt _=>true
 | .int _,.str _=>true | .str _,.int _=>true | .bl _,.str _=>true | .str _,.bl _=>true
 | _,_=>false
def rEq:R2:=fun x y H Q=>scal x y=true∧Q (.bl (decide (x=y))) H
def rNe:R2:=fun x y H Q=>scal x y=true∧Q (.bl (!decide (x=y))) H
theorem dec_int {i j:Int}:decide (V.int i=V.int j)=(i == j):=by
 rw [Bool.eq_iff_iff]
 simp
theorem dec_bl {i j:Bool}:decide (V.bl i=V.bl j)=(i == j):=by
 rw [Bool.eq_iff_iff]
 simp
theorem dec_str {i j:Str}:decide (V.str i=V.str j)=(i == j):=by
 rw [Bool.eq_iff_iff]
 simp
theorem dec_byt {i j:Array UInt8}:decide (V.byt i=V.byt j)=(i.toList == j.toList):=by
 rw [Bool.eq_iff_iff]
 cases i
 cases j
 simp
section
variable {X:Cx}{a b c:Expr}{ta tb tc:TE}{pos:Pos}
theorem fin_bl {pins:List (Addr×Obj)}{σ:St}{H:Hp}{s:Shared}{Q:VK}{k k':Bool} (I:Inv X pins σ H s) (q:Q (.bl k) H) (e:k=k'):EP X pins σ Q (.bool k') s:=by
 subst e
 exact ⟨.bl k,H,I,rfl,q⟩
theorem op_eq:OpR X (compareOp .Eq) rEq:=by
 intro pins s σ H x y v u Q I rx ry h
 obtain ⟨hs,q⟩:=h
 cases x with
 | non =>
  cases rx
  cases y with
  | non=>cases ry;exact PySem.EqNone.eq_none_none (fin_bl I q (by simp))
  | bl j=>cases ry;exact PySem.EqNone.eq_none_bool (fin_bl I q (by simp))
  | int j=>obtain ⟨t',rfl⟩:=ry;exact PySem.EqNone.eq_none_int (fin_bl I q (by simp))
  | str j=>obtain ⟨t',rfl⟩:=ry;exact PySem.EqNone.eq_none_str (fin_bl I q (by simp))
  | _=>exact absurd (show false=true from hs) Bool.false_ne_true
 | bl i =>
  cases rx
  cases y with
  | non=>cases ry;exact PySem.EqNone.eq_bool_none (fin_bl I q (by simp))
  | bl j=>cases ry;exact eq_bool (fin_bl I q dec_bl)
  | str j=>obtain ⟨t',rfl⟩:=ry;exact PySem.EqMixed.eq_bool_str (fin_bl I q (by simp))
  | _=>exact absurd (show false=true from hs) Bool.false_ne_true
 | int i =>
  obtain ⟨t,rfl⟩:=rx
  cases y with
  | non=>cases ry;exact PySem.EqNone.eq_int_none (fin_bl I q (by simp))
  | int j=>obtain ⟨t',rfl⟩:=ry;exact eq_int (fin_bl I q dec_int)
  | str j=>obtain ⟨t',rfl⟩:=ry;exact PySem.EqMixed.eq_int_str (fin_bl I q (by simp))
  | _=>exact absurd (show false=true from hs) Bool.false_ne_true
 | str i =>
  obtain ⟨t,rfl⟩:=rx
  cases y with
  | non=>cases ry;exact PySem.EqNone.eq_str_none (fin_bl I q (by simp))
  | bl j=>cases ry;exact PySem.EqMixed.eq_str_bool (fin_bl I q (by simp))
  | int j=>obtain ⟨t',rfl⟩:=ry;exact PySem.EqMixed.eq_str_int (fin_bl I q (by simp))
  | str j=>obtain ⟨t',rfl⟩:=ry;exact eq_str (fin_bl I q dec_str)
  | _=>exact absurd (show false=true from hs) Bool.false_ne_true
 | byt i =>
  obtain ⟨t,rfl⟩:=rx
  cases y with
  | byt j=>obtain ⟨t',rfl⟩:=ry;exact PySem.W.eq_bytes (fin_bl I q dec_byt)
  | _=>exact absurd (show false=true from hs) Bool.false_ne_true
 | _=>cases y<;>exact absurd (show false=true from hs) Bool.false_ne_true
theorem op_ne:OpR X (compareOp .NotEq) rNe:=by
 intro pins s σ H x y v u Q I rx ry h
 obtain ⟨hs,q⟩:=h
 cases x with
 | non =>
  cases rx
  cases y with
  | non=>cases ry;exact PySem.EqNone.ne_none_none (fin_bl I q (by simp))
  | bl j=>cases ry;exact PySem.EqNone.ne_none_bool (fin_bl I q (by simp))
  | int j=>obtain ⟨t',rfl⟩:=ry;exact PySem.EqNone.ne_none_int (fin_bl I q (by simp))
  | str j=>obtain ⟨t',rfl⟩:=ry;exact PySem.EqNone.ne_none_str (fin_bl I q (by simp))
  | _=>exact absurd (show false=true from hs) Bool.false_ne_true
 | bl i =>
  cases rx
  cases y with
  | non=>cases ry;exact PySem.EqNone.ne_bool_none (fin_bl I q (by simp))
  | bl j=>cases ry;exact ne_bool (fin_bl I q (congrArg not dec_bl))
  | str j=>obtain ⟨t',rfl⟩:=ry;exact PySem.EqMixed.ne_bool_str (fin_bl I q (by simp))
  | _=>exact absurd (show false=true from hs) Bool.false_ne_true
 | int i =>
  obtain ⟨t,rfl⟩:=rx
  cases y with
  | non=>cases ry;exact PySem.EqNone.ne_int_none (fin_bl I q (by simp))
  | int j=>obtain ⟨t',rfl⟩:=ry;exact ne_int (fin_bl I q (congrArg not dec_int))
  | str j=>obtain ⟨t',rfl⟩:=ry;exact PySem.EqMixed.ne_int_str (fin_bl I q (by simp))
  | _=>exact absurd (show false=true from hs) Bool.false_ne_true
 | str i =>
  obtain ⟨t,rfl⟩:=rx
  cases y with
  | non=>cases ry;exact PySem.EqNone.ne_str_none (fin_bl I q (by simp))
  | bl j=>cases ry;exact PySem.EqMixed.ne_str_bool (fin_bl I q (by simp))
  | int j=>obtain ⟨t',rfl⟩:=ry;exact PySem.EqMixed.ne_str_int (fin_bl I q (by simp))
  | str j=>obtain ⟨t',rfl⟩:=ry;exact ne_str (fin_bl I q (congrArg not dec_str))
  | _=>exact absurd (show false=true from hs) Bool.false_ne_true
 | byt i =>
  obtain ⟨t,rfl⟩:=rx
  cases y with
  | byt j=>obtain ⟨t',rfl⟩:=ry;exact PySem.W.ne_bytes (fin_bl I q (congrArg not dec_byt))
  | _=>exact absurd (show false=true from hs) Bool.false_ne_true
 | _=>cases y<;>exact absurd (show false=true from hs) Bool.false_ne_true
theorem op_lt:OpR X (compareOp .Lt) (rI0 fun i j=>.bl (decide (i < j))):=opB0 fun _ _ _ _ _ _ _ q=>lt_int q
theorem op_le:OpR X (compareOp .LtE) (rI0 fun i j=>.bl (decide (i≤j))):=opB0 fun _ _ _ _ _ _ _ q=>le_int q
theorem op_gt:OpR X (compareOp .Gt) (rI0 fun i j=>.bl (decide (j < i))):=opB0 fun _ _ _ _ _ _ _ q=>gt_int q
theorem op_isN:OpR X (compareOp .Is) (fun x y H Q=>y=.non∧Q (.bl (decide (x=.non))) H):=by
 intro pins s σ H x y v u Q I rx ry h
 obtain ⟨rfl,q⟩:=h
 cases ry
 refine is_none_gen (fin_bl I q ?_)
 cases x<;>first
  | (cases rx;rfl)
  | (obtain ⟨t,rfl⟩:=rx;rfl)
theorem op_notN:OpR X (compareOp .IsNot) (fun x y H Q=>y=.non∧Q (.bl (!decide (x=.non))) H):=by
 intro pins s σ H x y v u Q I rx ry h
 obtain ⟨rfl,q⟩:=h
 cases ry
 refine isnot_none_gen (fin_bl I q ?_)
 cases x<;>first
  | (cases rx;rfl)
  | (obtain ⟨t,rfl⟩:=rx;rfl)
theorem nomark (b:Expr) {op:CmpOp} (h:op≠.In:=by decide) (h2:op≠.NotIn:=by decide):behindInMarks op b=false:=by
 have e1:(op == CmpOp.In)=false:=by cases op<;>first | rfl | exact absurd rfl h
 have e2:(op == CmpOp.NotIn)=false:=by cases op<;>first | rfl | exact absurd rfl h2
 cases b<;>simp [behindInMarks,e1,e2]
theorem pe_cmpR {op:CmpOp}{r:R2} (ho:OpR X (compareOp op) r) (ha:PE X a ta) (hb:PE X b tb) (hm:behindInMarks op b=false):PE X (.Compare a [op] [b] pos) (tOp r ta tb):=by
 intro pins s σ H Q I h
 exact wpAny_Compare1 (binT ha hb I h fun v u s2 x y H2 I2 rx ry q=>ho pins s2 σ H2 x y v u Q I2 rx ry q) hm
def tTest (t:TE):TT:=fun σ H Q=>t σ H fun x H'=>∃ k,x=.bl k∧Q k H'
theorem pt_cmpR {op:CmpOp}{r:R2} (ho:OpR X (compareOp op) r) (ha:PE X a ta) (hb:PE X b tb) (hm:behindInMarks op b=false):PT X (.Compare a [op] [b] pos) (tTest (tOp r ta tb)):=by
 intro pins s σ H Q I h
 refine wpAny_isTrue_Compare1 (thnE (ha pins s σ H _ I h) fun v s1 x H1 I1 r1 q1=>thn (hb pins s1 σ H1 _ I1 q1) fun u s2 ⟨y,H2,I2,r2,q2⟩ =>
  thnE (ho pins s2 σ H2 x y v u _ I2 r1 r2 q2) fun c s3 z H3 I3 r3 zz0=>?_) hm
 obtain ⟨k,e,q3⟩:=zz0
 subst e
 cases r3
 exact wpAny_truthy_bool ⟨H3,I3,q3⟩
def tChain (r r':R2) (ta tb tc:TE):TE:=fun σ H Q=>ta σ H fun x H1=>tb σ H1 fun y H2=>r x y H2 fun z H3=>∃ k,z=.bl k ∧
 (if k=true then tc σ H3 fun w' H4=>r' y w' H4 Q else Q (.bl false) H3)
theorem pe_chain {op op':CmpOp}{r r':R2} (ho:OpR X (compareOp op) r) (ho':OpR X (compareOp op') r') (ha:PE X a ta) (hb:PE X b tb) (hc:PE X c tc)
  (hm:lastMarks [op,op'] [b,c]=false:=by with_unfolding_all rfl):PE X (.Compare a [op,op'] [b,c] pos) (tChain r r' ta tb tc):=by
 intro pins s σ H Q I h
 refine Compare_chain (thnE (ha pins s σ H _ I h) fun v s1 x H1 I1 r1 q1=>chain_link (thn (hb pins s1 σ H1 _ I1 q1) fun u s2 ⟨y,H2,I2,r2,q2⟩ =>
  thnE (ho pins s2 σ H2 x y v u _ I2 r1 r2 q2) fun d s3 z H3 I3 r3 zz1=>?_)) hm
 obtain ⟨k,e,q3⟩:=zz1
 subst e
 cases r3
 refine wpAny_truthy_bool ?_
 cases k with
 | false=>exact ite_ff ⟨.bl false,H3,I3,rfl,q3⟩
 | true=>exact ite_tt (chain_last (thn (hc pins s3 σ H3 _ I3 q3) fun w' s4 ⟨z',H4,I4,r4,q4⟩=>ho' pins s4 σ H4 y z' u w' Q I4 r2 r4 q4))
theorem pt_chain {op op':CmpOp}{r r':R2} (ho:OpR X (compareOp op) r) (ho':OpR X (compareOp op') r') (ha:PE X a ta) (hb:PE X b tb) (hc:PE X c tc)
  (hm:lastMarks [op,op'] [b,c]=false:=by with_unfolding_all rfl):PT X (.Compare a [op,op'] [b,c] pos) (tTest (tChain r r' ta tb tc)):=by
 intro pins s σ H Q I h
 refine isTrue_chain (thnE (ha pins s σ H _ I h) fun v s1 x H1 I1 r1 q1=>test_link (thn (hb pins s1 σ H1 _ I1 q1) fun u s2 ⟨y,H2,I2,r2,q2⟩ =>
  thnE (ho pins s2 σ H2 x y v u _ I2 r1 r2 q2) fun d s3 z H3 I3 r3 zz2=>?_)) hm
 obtain ⟨k,e,q3⟩:=zz2
 subst e
 cases r3
 refine wpAny_truthy_bool ?_
 cases k with
 | false =>
  obtain ⟨k',e',q'⟩:=q3
  cases e'
  exact ite_ff ⟨H3,I3,q'⟩
 | true =>
  refine ite_tt (test_last (thn (hc pins s3 σ H3 _ I3 q3) fun w' s4 ⟨z',H4,I4,r4,q4⟩=>thn (ho' pins s4 σ H4 y z' u w' _ I4 r2 r4 q4) fun d' s5 ⟨z2,H5,I5,r5,k2,e2,q5⟩=>?_))
  subst e2
  cases r5
  exact wpAny_truthy_bool ⟨H5,I5,q5⟩
theorem line63:(sizeLine:Nat) < 2 ^ 63:=by rw [sizeLine_eq];decide
theorem vals1 {x:V}{us:List Value} (r:Vals [x] us):∃ u,us=[u]∧RelV x u:=by
 cases r with
 | cons r1 r2=>cases r2;exact ⟨_,rfl,r1⟩
theorem vals2 {x y:V}{us:List Value} (r:Vals [x,y] us):∃ u w',us=[u,w']∧RelV x u∧RelV y w':=by
 cases r with
 | cons r1 r2 =>
  cases r2 with
  | cons r3 r4=>cases r4;exact ⟨_,_,rfl,r1,r3⟩
theorem call_str_int:CallR X (.type "str") (fun xs H Q=>∃ i,xs=[.int i]∧i.natAbs.log2 < 1920∧Q (.str (toString i)) H):=by
 intro pins s σ H xs us Q I r h
 obtain ⟨i,rfl,hz,q⟩:=h
 obtain ⟨u,rfl,t,rfl⟩:=vals1 r
 exact PySem.P.str_of_int hz ⟨.str _,H,I.tok _,⟨_,rfl⟩,q⟩
end
end L2
namespace L2
open PySem PySem.Spec PyProof.Rows
structure ObjM (h:Heap) (x dx C:Addr) (mA:Str→Option Value):Prop where
 obj:h.get? x=some (PySem.W.instObj C dx)
 ns:h.Ns1 dx mA
 ne:dx≠x
theorem lookIn_ns {h:Heap}{dx:Addr}{mA:Str→Option Value} (n:h.Ns1 dx mA):∃ od,h.get? dx=some od∧∀ name,PySem.W.lookIn name od=some (mA name):=by
 obtain ⟨o,es,ep,ho,hd,hk,_,hm⟩:=n
 refine ⟨o,ho,fun name=>?_⟩
 have e:=hm name
 unfold nsFind findBy at e
 rw [← Array.find?_toList] at e
 unfold PySem.W.lookIn
 rw [hd]
 dsimp only
 split
 ·rename_i y q
  rw [q] at e
  exact congrArg some e
 ·rename_i q
  rw [q] at e
  have a:es.toList.any (·.refKey)=false:=by
   rw [List.any_eq_false]
   intro y hy
   obtain ⟨z,t,hkey⟩:=hk y (Array.mem_toList_iff.mp hy)
   simp [DictEntry.refKey,hkey]
  have a':¬es.toList.any (·.refKey)=true:=by rw [a];exact Bool.false_ne_true
  rw [if_neg a']
  exact congrArg some e
theorem ObjM.look {h:Heap}{x dx C:Addr}{mA:Str→Option Value} (I:ObjM h x dx C mA):∃ od,PySem.W.InstAt h x (PySem.W.instObj C dx) C (some od)∧∀ name,PySem.W.lookIn name od=some (mA name) :=
 let ⟨od,ho,hl⟩:=lookIn_ns I.ns
 ⟨od,⟨I.obj,rfl,rfl,ho⟩,hl⟩
section
variable {prog:Program}{w:World}{A:Around}{E:Value→Shared→Prop}{s:Shared}{K:PySem.W.Frag}{x dx C f:Addr}{mA:Str→Option Value}{name:Str}{v:Value}
end
theorem RelO.some_of {v:V}{o:Option Value} (r:RelO (some v) o):∃ u,o=some u∧RelV v u:=by
 cases o with
 | none=>exact (show False from r).elim
 | some u=>exact ⟨u,rfl,r⟩
section
variable {P:Program}{w:World}{H H':Hp}{h h':Heap}{a C dx:Addr}{fs fs':List (Str×V)}
theorem ins_get (hok:HOk P w H h) (e:H a=some (.ins C dx fs)):∃ mA,ObjM h a dx C mA∧(∀ f,RelO (fs.lookup f) (mA f))∧PySem.Within mA (fs.map (·.1))∧fs.length≤1000∧H dx=some (.own a):=by
 obtain ⟨d,z,ne,ob,mA,n,r,q⟩:=(show ObjOk P w H h a (.ins C dx fs) from hok a _ e)
 exact ⟨mA,⟨ob,n,ne⟩,r,q,z,d⟩
end
structure Cls (K:PySem.W.Frag) (C:Addr):Prop where
 pg:PySem.W.plainGet K C Str.empty=true
 hd:PySem.W.hasDictIn K C=true
 po:PySem.W.plainOver K C=true
 sa:PySem.W.findIn K (.ref C) "__setattr__"=some (some (.builtin "object.__setattr__"))
theorem Cls.get {K:PySem.W.Frag}{C:Addr} (c:Cls K C) (f:Str):PySem.W.plainGet K C f=true:=c.pg
structure Con (K:PySem.W.Frag) (C:Addr) (f:Str) (v:V) (u:Value):Prop where
 at_:PySem.W.findIn K (.ref C) f=some (some u)
 rel:RelV v u
 get:PySem.W.specialIn K u "__get__"=some none
 cp:PySem.W.copiedNames.contains f=false
structure Meth (K:PySem.W.Frag) (C:Addr) (m:Str) (f:Addr):Prop where
 at_:PySem.W.findIn K (.ref C) m=some (some (.ref f))
 fn:PySem.W.isFn K (.ref f)=true
 kp:PySem.W.keepIn K (.ref f)=true
section
variable {X:Cx}{pins:List (Addr×Obj)}{σ:St}{H:Hp}{s:Shared}{a C dx:Addr}{fs:List (Str×V)}{f:Str}{v:V}{A:Around}{E:Value→Shared→Prop}
end
section
variable {X:Cx}{o e value:Expr}{f:Str}{pos pos' tpos:Pos}{ta tv:TE}
end
section
variable {X:Cx}{pins:List (Addr×Obj)}{σ:St}{H:Hp}{s:Shared}{A:Around}{E:Value→Shared→Prop}{Q:Value→Shared→Prop}{c:Value}{b:Bool}
inductive TyOf (K:PySem.W.Frag) (H:Hp):V→Value→Prop where
 | non:TyOf K H .non (.type "NoneType")
 | bl (x:Bool):TyOf K H (.bl x) (.type "bool")
 | int (i:Int):TyOf K H (.int i) (.type "int")
 | str (x:Str):TyOf K H (.str x) (.type "str")
 | flt (x:UInt64):TyOf K H (.flt x) (.type "float")
 | lst {a:Addr}{xs:List V} (e:H a=some (.lst xs)):TyOf K H (.ref a) (.type "list")
 | frz {a:Addr}{o:Obj}{xs:List V} (e:H a=some (.frz o (.lst xs))):TyOf K H (.ref a) (.type "list")
 | tup {a:Addr}{xs:List V} (e:H a=some (.tup xs)):TyOf K H (.ref a) (.type "tuple")
 | dK {a:Addr}{kvs:List (Key×V)} (e:H a=some (.dK kvs)):TyOf K H (.ref a) (.type "dict")
 | dT {a:Addr}{kvs:List (List Key×V)} (e:H a=some (.dT kvs)):TyOf K H (.ref a) (.type "dict")
 | ins {a C dx:Addr}{fs:List (Str×V)} (e:H a=some (.ins C dx fs)) (cl:Cls K C) (ha:PySem.W.findIn K (.ref C) "__class__"=some (some (.builtin "object.__class__")))
   (hn:PySem.W.specialIn K (.builtin "object.__class__") "__get__"=some (some (.builtin "getset_descriptor.__get__"))) (htk:PySem.W.takesIn K (.builtin "object.__class__")=some true)
   (hm:PySem.W.mroIn K C (.type "object")=some true):TyOf K H (.ref a) (.ref C)
theorem isinst_ok {x:V}{u t:Value} (I:Inv X pins σ H s) (rx:RelV x u) (ty:TyOf X.K H x t) (e:PySem.W.kitOne X.K t c=some b) (h:∀ tk,Q (.bool b) { s with toks:=tk }) :
  wpAny (model X.prog X.w) A (call (.builtin "isinstance") [u,c]) Q E s:=by
 cases ty with
 | non=>cases (show u=Value.none from rx);exact PySem.W.kia_one PySem.W.kitx_none I.kIn True.intro e (fun z=>nomatch z) h
 | bl y=>cases (show u=Value.bool y from rx);exact PySem.W.kia_one PySem.W.kitx_bool I.kIn True.intro e (fun z=>nomatch z) h
 | int i=>obtain ⟨t,q⟩:=(show ∃ t,u=Value.int i t from rx);cases q;exact PySem.W.kia_one PySem.W.kitx_int I.kIn True.intro e (fun z=>nomatch z) h
 | str y=>obtain ⟨t,q⟩:=(show ∃ t,u=Value.str y t from rx);cases q;exact PySem.W.kia_one PySem.W.kitx_str I.kIn True.intro e (fun z=>nomatch z) h
 | flt y=>obtain ⟨t,q⟩:=(show ∃ t,u=Value.float y t from rx);cases q;exact PySem.W.kia_one PySem.W.kitx_float I.kIn True.intro e (fun z=>nomatch z) h
 | @lst a xs ea =>
  cases (show u=Value.ref a from rx)
  obtain ⟨_,_,n,_,h1⟩:=(show ObjOk X.prog X.w H s.heap a (.lst xs) from I.hok a _ ea)
  exact PySem.W.kia_one PySem.W.kitx_list I.kIn ⟨_,h1,rfl⟩ e (fun z=>nomatch z) h
 | @frz a ob xs ea =>
  cases (show u=Value.ref a from rx)
  obtain ⟨_,_,_,n,_,h1⟩:=(show ObjOk X.prog X.w H s.heap a (.frz ob (.lst xs)) from I.hok a _ ea)
  exact PySem.W.kia_one PySem.W.kitx_list I.kIn ⟨_,h1,rfl⟩ e (fun z=>nomatch z) h
 | @tup a xs ea =>
  cases (show u=Value.ref a from rx)
  obtain ⟨_,_,_,p⟩:=(show ObjOk X.prog X.w H s.heap a (.tup xs) from I.hok a _ ea)
  obtain ⟨o,h1,⟨h2,_⟩,_⟩:=p
  exact PySem.W.kia_one PySem.W.kitx_tuple I.kIn ⟨o,h1,h2⟩ e (fun z=>nomatch z) h
 | @dK a kvs ea =>
  cases (show u=Value.ref a from rx)
  obtain ⟨_,_,vs,_,p⟩:=(show ObjOk X.prog X.w H s.heap a (.dK kvs) from I.hok a _ ea)
  obtain ⟨o,es,ep,h1,h2,_⟩:=p
  exact PySem.W.kia_one PySem.W.kitx_dict I.kIn ⟨o,h1,h2.1⟩ e (fun z=>nomatch z) h
 | @dT a kvs ea =>
  cases (show u=Value.ref a from rx)
  obtain ⟨_,_,xs,_,o,es,ep,h1,h2,_⟩:=(show ObjOk X.prog X.w H s.heap a (.dT kvs) from I.hok a _ ea)
  exact PySem.W.kia_one PySem.W.kitx_dict I.kIn ⟨o,h1,h2.1⟩ e (fun z=>nomatch z) h
 | @ins a C dx fs ea cl ha hn htk hm =>
  cases (show u=Value.ref a from rx)
  obtain ⟨mA,O,_⟩:=ins_get I.hok ea
  obtain ⟨od,J,_⟩:=O.look
  exact PySem.W.kia_one (PySem.W.kitx_own (cl.get _) cl.hd ha hn htk hm) I.kIn J e (fun z=>nomatch z) h
end
end L2
namespace L2
open PySem PySem.Spec PyProof.Rows
structure Room (k:Nat) (A:Around):Prop where
 hd:A.handled=none
 dp:A.depth+3 * k+5 < recursionLimit
 un:A.units+16 * k+200 < cLine
theorem Room.mono {j k:Nat}{A:Around} (r:Room k A) (h:j≤k):Room j A:=⟨r.hd,by have:=r.dp;omega,by have:=r.un;omega⟩
theorem Room.deeper {k:Nat}{A:Around} (r:Room (k+1) A) (env:Env):Room k (A.deeper env) :=
 ⟨r.hd,by have:=r.dp;show A.depth+1+3 * k+5 < _;omega,by have:=r.un;show A.units+3+16 * k+200 < _;omega⟩
theorem Room.depth {k:Nat}{A:Around} (r:Room k A):A.depth < recursionLimit:=by have:=r.dp;omega
theorem Room.units {k:Nat}{A:Around} (r:Room k A):A.units+64 < cLine:=by have:=r.un;omega
def tNil:TA:=fun _ H Q=>Q [] H
def tCons (ta:TE) (tr:TA):TA:=fun σ H Q=>ta σ H fun x H1=>tr σ H1 fun xs H2=>Q (x :: xs) H2
section
variable {X:Cx}{e:Expr}{es:List Expr}{te:TE}{t:TA}{pos:Pos}
theorem pa_nil:PA X [] tNil:=fun _ _ _ _ H Q I h=>Calls.spliced_nil ⟨[],H,I,.nil,h⟩
theorem pa_cons (ha:PE X e te) (hr:PA X es t) (hs:starEach (e :: es) X.env=(false,eval e X.env) :: starEach es X.env:=by rfl):PA X (e :: es) (tCons te t):=by
 intro pos pins s σ H Q I h
 rw [hs]
 show wpAny _ _ (spliced ((false,eval e X.env) :: backTo pos (starEach es X.env))) _ _ s
 refine Calls.spliced_cons (thnE (ha pins s σ H _ I h) fun u s1 x H1 I1 r1 q1=>?_)
 exact thnA (hr pos pins s1 σ H1 _ I1 q1) fun us s2 xs H2 I2 r2 q2=>⟨x :: xs,H2,I2,.cons r1 r2,q2⟩
def tTup (t:TA):TE:=fun σ H Q=>t σ H fun xs H1=>xs.length≤sizeLine∧∀ p,H1 p=none→Q (.ref p) (upd H1 p (.tup xs))
def tLst (t:TA):TE:=fun σ H Q=>t σ H fun xs H1=>xs.length≤sizeLine∧∀ p,H1 p=none→Q (.ref p) (upd H1 p (.lst xs))
theorem pe_tup {x1} (h:PA X es t):PE X (.Tuple es x1 pos) (tTup t):=by
 intro pins s σ H Q I hq
 refine wpAny_Tuple_spliced (thn (h pos pins s σ H _ I hq) fun us s1 ⟨xs,H1,I1,r,z,q⟩=>⟨by rw [← r.length];exact z,?_⟩)
 have hf:H1 s1.heap.objs.size=none:=I1.hok.fresh (Nat.le_refl _)
 refine ⟨.ref s1.heap.objs.size,upd H1 s1.heap.objs.size (.tup xs),I1.laid (t':=s1.toks) (fun b u e=>Heap.get?_push_of_some _ e) (Nat.le_refl _) ?_,rfl,q _ hf⟩
 exact ⟨z,us,r,⟨_,Heap.get?_push_size _ rfl,⟨rfl,_,rfl⟩,rfl⟩⟩
theorem pe_lst (h:PA X es t):PE X (.List es pos) (tLst t):=by
 intro pins s σ H Q I hq
 refine wpAny_List_spliced (thn (h pos pins s σ H _ I hq) fun us s1 ⟨xs,H1,I1,r,z,q⟩=>⟨by rw [← r.length];exact z,?_⟩)
 have hf:H1 s1.heap.objs.size=none:=I1.hok.fresh (Nat.le_refl _)
 refine ⟨.ref s1.heap.objs.size,upd H1 s1.heap.objs.size (.lst xs),I1.laid (t':=s1.toks) (fun b u e=>Heap.get?_push_of_some _ e) (Nat.le_refl _) ?_,rfl,q _ hf⟩
 exact ⟨z,us,0,r,Heap.get?_push_size _ rfl⟩
end
abbrev Sp:=List V→Hp→VK→XK→Prop
abbrev CXT:=List Env→Hp→Shared→XK→Value→Shared→Prop
structure Env0 (P:Program) (w:World) (K:PySem.W.Frag) (mg:Str→Option Value) (base:Heap) (A:Around) (outer:List Env) (s:Shared) (H:Hp):Prop where
 frames:A.frames=some outer
 mod:Mod K mg base
 bs:∀ b o,base.get? b=some o→s.heap.get? b=some o∧H b=none
 bsz:base.objs.size≤s.heap.objs.size
 funs:s.heap.FunFrames base outer
 frf:∀ b∈frs outer,H b=none
 hok:HOk P w H s.heap
 bare:AllBare s.gens
def CE (outer:List Env) (P:Program) (w:World) (H:Hp) (s:Shared) (Q:VK) (u:Value) (s':Shared):Prop :=
 ∃ v H',s'.os=s.os∧AllBare s'.gens∧Un (frs outer) [] H H' s.heap s'.heap∧HOk P w H' s'.heap∧RelV v u∧Q v H'
def CR (CX:CXT) (outer:List Env) (P:Program) (w:World) (H:Hp) (s:Shared) (Q:VK) (E:XK) (r:Result) (s':Shared):Prop :=
 match r with
 | .ok (.ret u)=>CE outer P w H s Q u s'
 | .ok _=>False
 | .error e=>CX outer H s E e s'
structure FnOk (P:Program) (w:World) (K:PySem.W.Frag) (mg:Str→Option Value) (base:Heap) (CX:CXT) (k:Nat) (f:Addr) (fd:FuncData) (ps:List Str) (sp:Sp):Prop where
 len:∀ vs H Q E,sp vs H Q E→vs.length=ps.length
 run:∀ (A:Around) (outer:List Env) (s:Shared) (H:Hp) (args:Args) (us:List Value) (vs:List V) (Q:VK) (E:XK),Room k A→Env0 P w K mg base A outer s H→BindsTo s fd args (ps.zip us)→Vals vs us→sp vs H Q E →
  codeAny (model P w) A (.call (.ref f) args) (CR CX outer P w H s Q E) s
theorem FnOk.imp {P:Program}{w:World}{K:PySem.W.Frag}{mg:Str→Option Value}{base:Heap}{CX:CXT}{k:Nat}{f:Addr}{fd:FuncData}{ps:List Str}{sp sp':Sp} (F:FnOk P w K mg base CX k f fd ps sp)
  (h:∀ vs H Q E,sp' vs H Q E→sp vs H Q E):FnOk P w K mg base CX k f fd ps sp' :=
 ⟨fun vs H Q E q=>F.len vs H Q E (h _ _ _ _ q),fun A outer s H args us vs Q E hr he hb hv hs=>F.run A outer s H args us vs Q E hr he hb hv (h _ _ _ _ hs)⟩
section
variable {X:Cx}{pins:List (Addr×Obj)}{σ:St}{H:Hp}{s s':Shared}
theorem Inv.env0 (I:Inv X pins σ H s):Env0 X.prog X.w X.K X.mg X.base X.A X.stack s H :=
 ⟨I.ok.frames,I.ok.mod,I.bs,Nat.le_trans I.ok.bsz I.sz,I.stack,I.stkFree,I.hok,I.bare⟩
theorem Inv.after {Q:VK}{u:Value} (I:Inv X pins σ H s) (h:CE X.stack X.prog X.w H s Q u s'):EP X pins σ Q u s':=by
 obtain ⟨v,H',os,bare,un,hok,r,q⟩:=h
 obtain ⟨hh,g,d,t,os'⟩:=s'
 obtain rfl:os'=s.os:=os
 exact ⟨v,H',I.call (h':=hh) (g':=g) (d':=d) (t':=t) (ch:=[]) un hok bare (fun b z=>absurd z (by simp)),r,q⟩
end
def tCall (sp:Sp) (dvs:List V) (E:XK) (t:TA):TE:=fun σ H Q=>t σ H fun vs H1=>sp (vs++dvs) H1 Q E
def Binds (K:PySem.W.Frag) (fd:FuncData) (ps:List Str) (ds:List Value):Prop :=
 ∀ (s:Shared) (us:List Value),K.In s.heap→(us++ds).length=ps.length→BindsTo s fd ⟨us,[]⟩ (ps.zip (us++ds))
theorem Binds.all {K:PySem.W.Frag}{fd:FuncData}{ps:List Str} (h:∀ us:List Value,us.length=ps.length→bindArgs fd ⟨us,[]⟩=pure (ps.zip us)):Binds K fd ps []:=fun s us _ hl=>by
 rw [List.append_nil] at hl ⊢
 exact .of_eq (h us hl)
def Passes (CX:CXT) (X:Cx) (E:XK):Prop:=∀ (pins:List (Addr×Obj)) (σ:St) (H:Hp) (s:Shared) (e:Value) (s':Shared),Inv X pins σ H s→CX X.stack H s E e s'→X.xe e s'
section
variable {X:Cx}{CX:CXT}{k:Nat}{f C:Addr}{fd:FuncData}{ps:List Str}{sp:Sp}{dvs:List V}{ds:List Value}{E:XK}{x m:Str}{p pos apos:Pos}{e o:Expr}{es:List Expr}{ta:TE}{t:TA}
theorem run_fn {pins:List (Addr×Obj)}{σ:St}{H:Hp}{s:Shared}{Q:VK}{us:List Value}{vs:List V} (F:FnOk X.prog X.w X.K X.mg X.base CX k f fd ps sp) (hr:Room k X.A) (hb:Binds X.K fd ps ds) (hd:Vals dvs ds) (hx:Passes CX X E)
  (I:Inv X pins σ H s) (r:Vals vs us) (h:sp (vs++dvs) H Q E):wpAny (model X.prog X.w) X.A (call (.ref f) us) (EP X pins σ Q) X.xe s:=by
 have r2:Vals (vs++dvs) (us++ds):=r.append hd
 have hl:(us++ds).length=ps.length:=by rw [← r2.length];exact F.len _ _ _ _ h
 refine wpAny_call (codeAny_mono (F.run X.A X.stack s H ⟨us,[]⟩ (us++ds) (vs++dvs) Q E hr I.env0 (hb s us I.kIn hl) r2 h) fun r s' hq=>?_)
 cases r with
 | error e=>exact hx pins σ H s e s' I hq
 | ok fl =>
  cases fl with
  | ret u=>exact I.after hq
  | next=>exact False.elim hq
  | brk=>exact False.elim hq
  | cont=>exact False.elim hq
theorem pe_call (F:FnOk X.prog X.w X.K X.mg X.base CX k f fd ps sp) (hr:Room k X.A) (hg:Gl X x) (hm:X.mg x=some (.ref f)) (hk:PySem.W.keepIn X.K (.ref f)=true) (hb:Binds X.K fd ps ds) (hd:Vals dvs ds) (hx:Passes CX X E)
  (ha:PA X (e :: es) t) (hdb:(x == ("__debug__" : Str))=false:=by decide) (he:starEach (e :: es) X.env=(false,eval e X.env) :: starEach es X.env:=by rfl) (hpl:(backTo pos (starEach es X.env)).any (·.1)=false:=by rfl) :
  PE X (.Call (.Name x p) (e :: es) [] pos) (tCall sp dvs E t):=by
 intro pins s σ H Q I h
 refine wpAny_Call_Name_kw (ld_glob I hg hm ?_ hdb)
 refine PySem.W.callWith_K (h₀:=X.base) I.ok.mod.kin hk (thnA (ha pos pins s σ H _ I h) fun us s1 vs H1 I1 r q=>⟨I1.kIn,?_⟩) he hpl
 exact run_fn F hr hb hd hx I1 r q
structure Mk (K:PySem.W.Frag) (C f:Addr):Prop where
 makes:PySem.W.makesIn K C=true
 init:PySem.W.findIn K (.ref C) "__init__"=some (some (.ref f))
 fn:PySem.W.isFn K (.ref f)=true
 kp:PySem.W.keepIn K (.ref C)=true
end
section
variable {X:Cx}{CX:CXT}{k:Nat}{f C:Addr}{fd:FuncData}{ps ks:List Str}{sp:Sp}{E:XK}{x m:Str}{p pos apos kpos:Pos}{e o:Expr}{es:List Expr}{kws:List Keyword}{te ta:TE}{t tk:TA}{nm:Option Str}
structure KBinds (K:PySem.W.Frag) (fd:FuncData) (ps ks:List Str) (g:List Value→List Value→List Value) (gV:List V→List V→List V):Prop where
 to:∀ (s:Shared) (us ws:List Value),K.In s.heap→(g us ws).length=ps.length→BindsTo s fd ⟨us,ks.zip ws⟩ (ps.zip (g us ws))
 rel:∀ {vs:List V}{us:List Value}{zs:List V}{ws:List Value},Vals vs us→Vals zs ws→Vals (gV vs zs) (g us ws)
variable {g:List Value→List Value→List Value}{gV:List V→List V→List V}
end
structure FnScope (N P:List Str) (sc:Scope):Prop where
 kind:sc.kind=.function
 co:sc.isCoroutine=false
 gen:sc.isGenerator=false
 nd:N.Nodup
 pre:N.take P.length=P
 par:∀ x∈P,sc.names.lookup x=some .local∨sc.names.lookup x=some .cell
 nofree:∀ y∈sc.names,y.2≠.free
theorem fS {N P:List Str}{sc:Scope} (a:sc.kind=.function:=by rfl) (b:sc.isCoroutine=false:=by rfl) (c:sc.isGenerator=false:=by rfl) (d:N.Nodup:=by decide +kernel) (e:N.take P.length=P:=by rfl) (f:∀ x∈P,sc.names.lookup x=some .local∨sc.names.lookup x=some .cell:=by decide +kernel) (g:∀ y∈sc.names,y.2≠.free:=by decide +kernel):FnScope N P sc:=⟨a,b,c,d,e,f,g⟩
theorem bindL_out {kindOf:Str→Option NameKind}{x:Str}:∀ {binds:List (Str×Value)}{m:Str→Option Value},(∀ v,(x,v)∉binds)→bindL kindOf binds m x=m x
 | [],_,_=>rfl
 | (n,v) :: r,m,h=>by
  unfold bindL
  rw [bindL_out fun w hw=>h w (List.mem_cons_of_mem _ hw)]
  split
  ·have:x≠n:=by rintro rfl;exact h v List.mem_cons_self
   simp [this]
  ·rfl
theorem bindC_out {kindOf:Str→Option NameKind}{x:Str}:∀ {binds:List (Str×Value)}{m:Str→Option Value},(∀ v,(x,v)∉binds)→bindC kindOf binds m x=m x
 | [],_,_=>rfl
 | (n,v) :: r,m,h=>by
  unfold bindC
  rw [bindC_out fun w hw=>h w (List.mem_cons_of_mem _ hw)]
  split
  ·rfl
  ·have:x≠n:=by rintro rfl;exact h v List.mem_cons_self
   simp [this]
theorem bindL_get {kindOf:Str→Option NameKind}{x:Str}{v:Value}:∀ {P:List Str}{vs:List Value}{i:Nat}{m:Str→Option Value},P.Nodup→P[i]? = some x→vs[i]? = some v→kindOf x=some .local →
  bindL kindOf (P.zip vs) m x=some v
 | [],_,_,_,_,h,_,_=>by simp at h
 | _ :: _,[],_,_,_,_,h,_=>by simp at h
 | p :: P,w :: vs,0,m,nd,h1,h2,hk=>by
  simp at h1 h2;subst h1;subst h2
  show bindL kindOf ((p,w) :: P.zip vs) m p=_
  unfold bindL
  rw [bindL_out fun v hv=>(List.nodup_cons.mp nd).1 (List.of_mem_zip hv).1,if_pos hk]
  simp
 | p :: P,w :: vs,i+1,m,nd,h1,h2,hk=>by
  show bindL kindOf ((p,w) :: P.zip vs) m x=_
  unfold bindL
  exact bindL_get (i:=i) (List.nodup_cons.mp nd).2 (by simpa using h1) (by simpa using h2) hk
theorem bindC_get {kindOf:Str→Option NameKind}{x:Str}{v:Value}:∀ {P:List Str}{vs:List Value}{i:Nat}{m:Str→Option Value},P.Nodup→P[i]? = some x→vs[i]? = some v→kindOf x≠some .local →
  bindC kindOf (P.zip vs) m x=some v
 | [],_,_,_,_,h,_,_=>by simp at h
 | _ :: _,[],_,_,_,_,h,_=>by simp at h
 | p :: P,w :: vs,0,m,nd,h1,h2,hk=>by
  simp at h1 h2;subst h1;subst h2
  show bindC kindOf ((p,w) :: P.zip vs) m p=_
  unfold bindC
  rw [bindC_out fun v hv=>(List.nodup_cons.mp nd).1 (List.of_mem_zip hv).1,if_neg hk]
  simp
 | p :: P,w :: vs,i+1,m,nd,h1,h2,hk=>by
  show bindC kindOf ((p,w) :: P.zip vs) m x=_
  unfold bindC
  exact bindC_get (i:=i) (List.nodup_cons.mp nd).2 (by simpa using h1) (by simpa using h2) hk
def start (N:List Str) (vs:List V):St:=vs.map some++List.replicate (N.length-vs.length) none
def cxOf (CX:CXT) (P:Program) (w:World) (K:PySem.W.Frag) (mg:Str→Option Value) (base:Heap) (N:List Str) (qual:Str) (scope:Scope) (f:Addr) (cd:Value) (A:Around) (outer:List Env) (s:Shared) (H:Hp) (E:XK):Cx where
 prog:=P
 w:=w
 K:=K
 mg:=mg
 base:=base
 A:=A.deeper (envOfC qual scope s.heap.objs.size f cd)
 N:=N
 s₀:=s
 H₀:=H
 env:=envOfC qual scope s.heap.objs.size f cd
 outer:=outer
 stack:=envOfC qual scope s.heap.objs.size f cd :: outer
 ex:=[]
 calm:=true
 fn:=fun _=>true
 pn:=[]
 xe:=fun e s'=>wpAny (model P w) (A.deeper (envOfC qual scope s.heap.objs.size f cd)) (leaving (envOfC qual scope s.heap.objs.size f cd) e) (fun _ s''=>CX outer H s E e s'') (fun e' s''=>CX outer H s E e' s'') s'
theorem cell_has {sc:Scope}{n:Nat}{x:Str} (h:sc.names.lookup x=some .cell):∃ c,(cellsFrom n sc.names []).lookup x=some c:=by
 have q:=PySem.W.cellsFrom_some sc.names n [] (.inl h)
 exact Option.isSome_iff_exists.mp q
theorem inv_start {CX:CXT}{P:Program}{w:World}{K:PySem.W.Frag}{mg:Str→Option Value}{base:Heap}{N ps:List Str}{qual:Str}{scope:Scope}{f:Addr}{cd:Value}{A:Around}{outer:List Env}{s s1:Shared}{H:Hp}{E:XK}{us:List Value}{vs:List V}
  (S:FnScope N ps scope) (hd:A.handled=none) (e0:Env0 P w K mg base A outer s H) (hl:vs.length=ps.length) (r:Vals vs us)
  (x:InCallC s s.heap.objs.size (bindL (envOfC qual scope s.heap.objs.size f cd).kindOf (ps.zip us) fun _=>none) (cellsFrom (s.heap.objs.size+1) scope.names []) (bindC (envOfC qual scope s.heap.objs.size f cd).kindOf (ps.zip us) fun _=>none) s1) :
  Inv (cxOf CX P w K mg base N qual scope f cd A outer s H E) [] (start N vs) H s1:=by
 have hpl:ps.length≤N.length:=by have:=congrArg List.length S.pre;rw [List.length_take] at this;omega
 obtain ⟨h1,tk,rfl,hk⟩:=x.done
 have noA:∀ b:Addr,b∉(cxOf CX P w K mg base N qual scope f cd A outer s H E).ex:=fun b z=>absurd (show b∈([]:List Addr) from z) (by simp)
 refine ⟨⟨e0.mod,S.kind,rfl,rfl,Nat.le_refl _,fun y z c h1 h2=>?_,fun y hy=>?_,fun y c _ h=>?_,fun _=>hd,Around.frames_deeper e0.frames,.inr ⟨rfl,rfl⟩,fun b z=>absurd z (noA b),e0.bs,e0.bsz,fun b _ _=>noA b,fun b z=>absurd z (noA b),e0.funs,e0.frf⟩,
  rfl,e0.bare,Un.kept hk,⟨_,x.toInCall.ns,fun i y v h1 h2 h3=>?_⟩,fun y c h=>⟨_,x.cell y c h⟩,e0.hok.fresh (Nat.le_refl _),fun y c h=>?_,fun p hp=>absurd (show p∈([]:List (Addr×Obj)) from hp) (by simp),e0.hok.kept hk,?_⟩
 ·exact name_of_addr x.apart (PySem.mem_of_lookup h1) (PySem.mem_of_lookup h2)
 ·have hy:scope.names.lookup y=some .cell∨scope.names.lookup y=some .free:=hy
  rcases hy with hy | hy
  ·exact cell_has hy
  ·exact absurd rfl (S.nofree _ (PySem.mem_of_lookup hy))
 ·exact Nat.le_of_lt (x.above y c (PySem.mem_of_lookup h))
 ·have hi:i < vs.length:=by
   unfold start at h2
   by_cases hi:i < vs.length
   ·exact hi
   ·rw [List.getElem?_append_right (by simpa using hi)] at h2
    rw [List.getElem?_replicate] at h2
    split at h2<;>cases h2
  have ha:vs[i]? = some v:=by
   unfold start at h2
   rw [List.getElem?_append_left (by simpa using hi),List.getElem?_map] at h2
   cases e:vs[i]? with
   | none=>rw [e] at h2;cases h2
   | some a=>rw [e] at h2;cases h2;rfl
  obtain ⟨u,hu,rv⟩:=r.get ha
  have hp:ps[i]? = some y:=by
   rw [← S.pre,List.getElem?_take_of_lt (by omega)];exact h1
  have ndP:ps.Nodup:=by rw [← S.pre];exact S.nd.sublist (List.take_sublist _ _)
  refine ⟨u,rv,?_⟩
  rcases S.par y (List.mem_of_getElem? hp) with k | k
  ·exact .inl ⟨k,bindL_get ndP hp hu k⟩
  ·obtain ⟨c,e⟩:=cell_has (n:=s.heap.objs.size+1) k
   refine .inr ⟨.inl k,c,e,?_⟩
   have q:=x.cell y c e
   rw [bindC_get ndP hp hu (by show scope.names.lookup y≠_;rw [k];decide)] at q
   exact q
 ·exact e0.hok.fresh (Nat.le_of_lt (x.above y c (PySem.mem_of_lookup h)))
 ·unfold start
  show _=N.length
  rw [List.length_append,List.length_map,List.length_replicate]
  omega
theorem fn_of {CX:CXT}{P:Program}{w:World}{K:PySem.W.Frag}{mg:Str→Option Value}{base:Heap}{k:Nat}{f:Addr}{name qual:Str}{params:Arguments}{body:List Stmt}{scope:Scope}{dV kV doc pm cdv ct oc:Value}{an od:Option Addr}
  {osl:Array (Option Value)}{N ps:List Str}{sp:Sp} (lk:K.lookup f=some ⟨oc,od,.func (PySem.W.fnOf name qual params body scope dV kV doc pm an cdv ct),osl⟩) (hcd:PySem.W.codeIn K cdv qual=true) (S:FnScope N ps scope)
  (len:∀ vs H Q E,sp vs H Q E→vs.length=ps.length)
  (hbody:∀ (A:Around) (outer:List Env) (s:Shared) (H:Hp) (vs:List V) (Q:VK) (E:XK),Room k (A.deeper (envOfC qual scope s.heap.objs.size f cdv))→sp vs H Q E →
   ∃ t,PSs (cxOf CX P w K mg base N qual scope f cdv A outer s H E) body t∧t { nx:=fun _ H'=>Q .non H',rt:=Q } (start N vs) H) :
  FnOk P w K mg base CX (k+1) f (PySem.W.fnOf name qual params body scope dV kV doc pm an cdv ct) ps sp:=by
 refine ⟨len,fun A outer s H args us vs Q E hr e0 hb r hsp=>?_⟩
 have hl:=len _ _ _ _ hsp
 have KX:K.In s.heap:=e0.mod.kin.keeps fun b o e=>(e0.bs b o e).1
 have lim:s.heap.NoLimit:=e0.mod.nolimit.keeps fun b o e=>(e0.bs b o e).1
 have hkind:∀ y∈ps.zip us,scope.names.lookup y.1=some .local∨(scope.names.lookup y.1=some .cell∧((cellsFrom (s.heap.objs.size+1) scope.names []).lookup y.1).isSome=true):=fun ⟨n,v⟩ hy=>by
  rcases S.par n (List.of_mem_zip hy).1 with q | q
  ·exact .inl q
  ·exact .inr ⟨q,PySem.W.cellsFrom_some _ _ _ (.inl q)⟩
 refine codeAny_call_function hr.depth (KX _ _ lk) rfl S.co S.gen rfl (PySem.W.codeRec_of KX hcd) (hb _ _ _ _ ?_)
 refine wpAny_newFunctionEnv_cells S.kind hkind fun env he s1 x=>?_
 subst he
 refine ⟨lim.keeps x.toInCall.keep,codeAny_func ?_⟩
 obtain ⟨t,ht,hq⟩:=hbody A outer s H vs Q E (hr.deeper _) hsp
 have I:Inv (cxOf CX P w K mg base N qual scope f cdv A outer s H E) [] (start N vs) H s1:=inv_start S hr.hd e0 hl r x
 refine wpAny_mono (ht [] s1 (start N vs) H _ I hq) (fun fl s' hs=>?_) fun e s' hs=>hs
 have fin:∀ {σ':St}{H':Hp}{v:V}{u:Value},Inv (cxOf CX P w K mg base N qual scope f cdv A outer s H E) [] σ' H' s'→RelV v u→Q v H'→CE outer P w H s Q u s' :=
  fun {σ' H' v u} J rv q=>⟨v,H',J.os,J.bare,J.base,J.hok,rv,q⟩
 cases fl with
 | ret u =>
  obtain ⟨v,σ',H',J,rv,q⟩:=hs
  exact fin J rv q
 | next =>
  obtain ⟨σ',H',J,q⟩:=hs
  exact fin (v:=V.non) (u:=Value.none) J rfl q
 | brk =>
  obtain ⟨_,_,_,q⟩:=hs
  exact False.elim q
 | cont =>
  obtain ⟨_,_,_,q⟩:=hs
  exact False.elim q
end L2
namespace L2
open PySem PySem.Spec PyProof.Rows
section
variable {X:Cx}{x:Str}{p pos:Pos}{e:Expr}{es:List Expr}{t:TA}{id T:String}{r:List V→Hp→VK→Prop}
def tCB (r:List V→Hp→VK→Prop) (t:TA):TE:=fun σ H Q=>t σ H fun vs H1=>r vs H1 Q
theorem pe_callB (hc:CallR X (.builtin id) r) (hg:Gl X x) (hm:X.mg x=none) (hv:bootBuiltins x=some (.builtin id)) (ha:PA X (e :: es) t) (hn:x≠"__name__":=by decide) (hdb:(x == ("__debug__" : Str))=false:=by decide)
  (he:starEach (e :: es) X.env=(false,eval e X.env) :: starEach es X.env:=by rfl) (hpl:(backTo pos (starEach es X.env)).any (·.1)=false:=by rfl):PE X (.Call (.Name x p) (e :: es) [] pos) (tCB r t):=by
 intro pins s σ H Q I h
 refine wpAny_Call_Name_kw (ld_blt I hg hm hv ?_ hn hdb)
 exact PyProof.Rows.callWith_builtin1 (thnA (ha pos pins s σ H _ I h) fun us s1 vs H1 I1 r1 q1=>hc pins s1 σ H1 vs us Q I1 r1 q1) he hpl
theorem pe_callTy (hc:CallR X (.type T) r) (hg:Gl X x) (hm:X.mg x=none) (hv:bootBuiltins x=some (.type T)) (ha:PA X (e :: es) t) (hn:x≠"__name__":=by decide) (hdb:(x == ("__debug__" : Str))=false:=by decide)
  (he:starEach (e :: es) X.env=(false,eval e X.env) :: starEach es X.env:=by rfl) (hpl:(backTo pos (starEach es X.env)).any (·.1)=false:=by rfl):PE X (.Call (.Name x p) (e :: es) [] pos) (tCB r t):=by
 intro pins s σ H Q I h
 refine wpAny_Call_Name_kw (ld_blt I hg hm hv ?_ hn hdb)
 exact PyProof.Rows.callWith_type1 (thnA (ha pos pins s σ H _ I h) fun us s1 vs H1 I1 r1 q1=>hc pins s1 σ H1 vs us Q I1 r1 q1) he hpl
end
end L2
namespace HT
open PySem PyProof.Rows
section
open PySem.SeqAt
open PySem.AutoSeq1 (wpAny_loadPart')
open PySem.MeetsSeq PySem.MeetsSeq2 PySem.MeetsSeq3
end
section
variable {prog:Program}{w:World}{A:Around}{E:Value→Shared→Prop}{s:Shared}
theorem cat_tup {t b:Addr}{vs ws:List Value}{Q:Value→Shared→Prop} (ht:IsTup s.heap t vs.toArray) (hb:IsTup s.heap b ws.toArray) (hv:vs≠[])
  (h1:ws=[]→Q (.ref t) s) (h2:ws≠[]→Q (.ref s.heap.objs.size) { s with heap:=s.heap.push { cls:=.type "tuple",data:=.seq (vs++ws).toArray } })
  (hsz:vs.length+ws.length≤sizeLine):wpAny (model prog w) A (binaryOp .Add (.ref t) (.ref b)) Q E s:=by
 obtain ⟨⟨cls,dd,data,sl⟩,ho,hc,n,hd⟩:=id ht
 obtain ⟨⟨cls2,dd2,data2,sl2⟩,ho2,hc2,n2,hd2⟩:=id hb
 simp only at hc hd hc2 hd2
 subst hc hd hc2 hd2
 have e:vs.toArray++ws.toArray=(vs++ws).toArray:=by simp
 by_cases hw:ws=[]
 ·exact concat_meets ⟨_,ho,rfl⟩ ⟨_,ho2,rfl⟩ noFill_tuple_add seq_tuple_add PySem.F.slot_tuple_add PySem.F.entry_tuple_add (PySem.F.args_tuple_add_2 _ _)
   (tuple_addW1 t b vs.toArray ws.toArray n n2 dd dd2 sl sl2 (by simpa using hv) (by simp [hw])) ⟨ho,ho2,h1 hw⟩
 ·refine concat_meets ⟨_,ho,rfl⟩ ⟨_,ho2,rfl⟩ noFill_tuple_add seq_tuple_add PySem.F.slot_tuple_add PySem.F.entry_tuple_add (PySem.F.args_tuple_add_2 _ _)
   (tuple_addW2 t b vs.toArray ws.toArray n n2 dd dd2 sl sl2 (by simpa using hv) (by simpa using hw) (by rw [List.size_toArray,List.size_toArray];exact hsz)) ⟨ho,ho2,?_⟩
  rw [e]
  exact h2 hw
def sIx (n d:Nat):Option Int→Nat
 | none=>d
 | some v=>if v < 0 then (v+(n:Int)).toNat else min v.toNat n
theorem sIx_none (n d:Nat):sIx n d none=d:=rfl
theorem sIx_nat (n d k:Nat):sIx n d (some (k:Int))=min k n:=by
 show (if (k:Int) < 0 then ((k:Int)+(n:Int)).toNat else min (k:Int).toNat n)=min k n
 rw [if_neg (by omega),Int.toNat_natCast]
theorem sIx_le (n d:Nat) (hd:d≤n) (o:Option Int):sIx n d o≤n:=by
 cases o with
 | none=>exact hd
 | some v =>
  show (if v < 0 then (v+(n:Int)).toNat else min v.toNat n)≤n
  by_cases hv:v < 0
  ·rw [if_pos hv];omega
  ·rw [if_neg hv];exact Nat.min_le_right _ _
theorem clip_eq (v:Int) (n d:Nat):(if v < 0 then max (v+(n:Int)) 0 else min v (n:Int))=((sIx n d (some v):Nat):Int):=by
 show (if v < 0 then max (v+(n:Int)) 0 else min v (n:Int))=(((if v < 0 then (v+(n:Int)).toNat else min v.toNat n):Nat):Int)
 by_cases hv:v < 0
 ·simp only [if_pos hv];omega
 ·simp only [if_neg hv];omega
theorem adjust_gen (lo hi:Option Int) (n:Nat):Builtin.Slice.sliceAdjust lo hi 1 (n:Int)=(((sIx n 0 lo:Nat):Int),((sIx n n hi:Nat):Int)):=by
 have h1:¬((1:Int) < 0):=by omega
 unfold Builtin.Slice.sliceAdjust
 simp only [h1,if_false]
 refine Prod.ext ?_ ?_
 ·cases lo with
  | none=>rfl
  | some v=>exact clip_eq v n 0
 ·cases hi with
  | none=>rfl
  | some v=>exact clip_eq v n n
theorem places_gen (i j:Nat):Builtin.Slice.slicePlaces (i:Int) (j:Int) 1=j-i:=by
 unfold Builtin.Slice.slicePlaces
 have h1:(1:Int) > 0:=by omega
 simp only [h1,if_true,Int.ediv_one]
 split<;>omega
theorem slicePart_ {v:Value}{o:Option Int}{Q:Option Int→Shared→Prop} (p:IsPart v o) (h:Q o s):wpAny (model prog w) A (Builtin.Slice.slicePartIndex v) Q E s:=by
 cases p with
 | none=>exact slicePart_none h
 | int i t=>exact slicePart_int h
theorem sliceApplied_gen {sl:Addr}{vl vu:Value}{lo hi:Option Int}{n:Nat}{Q:Int×Int×Nat→Shared→Prop} (hs:s.heap.IsSliceOf sl vl vu .none) (pl:IsPart vl lo) (pu:IsPart vu hi)
  (h:Q (((sIx n 0 lo:Nat):Int),1,sIx n n hi-sIx n 0 lo) s):wpAny (model prog w) A (Builtin.Slice.sliceApplied (.ref sl) (pure (n:Int))) Q E s:=by
 obtain ⟨os,hos,hcs,hds⟩:=id hs
 unfold Builtin.Slice.sliceApplied Builtin.Slice.sliceFields
 refine wpAny_bind (wpAny_bind (wpAny_field hos hds (x:=vl) rfl (wpAny_bind (wpAny_field hos hds (x:=vu) rfl (wpAny_bind (wpAny_field hos hds (x:=.none) rfl (wpAny_pure ?_)))))))
 refine wpAny_bind (slicePart_none ?_)
 show wpAny _ _ (if ((1:Int) == 0)=true then _ else _) _ _ s
 rw [if_neg (by decide)]
 refine wpAny_bind (slicePart_ pl (wpAny_bind (slicePart_ pu (wpAny_bind (wpAny_pure ?_)))))
 show wpAny _ _ (match Builtin.Slice.sliceAdjust lo hi 1 (n:Int) with | (lo,hi)=>pure (lo,(1:Int),Builtin.Slice.slicePlaces lo hi 1)) _ _ s
 rw [adjust_gen lo hi n]
 show wpAny _ _ (pure (((sIx n 0 lo:Nat):Int),(1:Int),Builtin.Slice.slicePlaces ((sIx n 0 lo:Nat):Int) ((sIx n n hi:Nat):Int) 1)) _ _ s
 rw [places_gen]
 exact wpAny_pure h
theorem pick_gen (xs:Array Value) (i k:Nat):((List.range k).filterMap fun (m:Nat)=>xs[((i:Int)+(m:Int) * 1).toNat]?).toArray=((xs.toList.drop i).take k).toArray:=by
 have e:(fun (m:Nat)=>xs[((i:Int)+(m:Int) * 1).toNat]?)=fun m=>xs[i+m]?:=by
  funext m
  have:((i:Int)+(m:Int) * 1).toNat=i+m:=by omega
  rw [this]
 rw [e]
 have:=pick_run xs i k
 rw [List.filterMap_map] at this
 have e2:((fun x=>xs[x]?) ∘ fun x=>i+x)=fun m=>xs[i+m]?:=rfl
 rw [e2] at this
 rw [this]
theorem getItem_tuple_cut {t sl:Addr}{items:Array Value}{vl vu:Value}{lo hi:Option Int}{Q:Value→Shared→Prop} (ht:IsTup s.heap t items) (hs:s.heap.IsSliceOf sl vl vu .none) (pl:IsPart vl lo) (pu:IsPart vu hi)
  (hw:¬(sIx items.size 0 lo=0∧sIx items.size items.size hi=items.size))
  (h:Q (.ref s.heap.objs.size) { s with heap:=s.heap.push { cls:=.type "tuple",data:=.seq ((items.toList.drop (sIx items.size 0 lo)).take (sIx items.size items.size hi-sIx items.size 0 lo)).toArray } })
  (hsz:items.size≤sizeLine):wpAny (model prog w) A (getItem (.ref t) (.ref sl)) Q E s:=by
 have htake:sizeOk (.seq ((items.toList.drop (sIx items.size 0 lo)).take (sIx items.size items.size hi-sIx items.size 0 lo)).toArray):=by
  show ((items.toList.drop (sIx items.size 0 lo)).take (sIx items.size items.size hi-sIx items.size 0 lo)).toArray.size≤sizeLine
  rw [List.size_toArray,List.length_take,List.length_drop,Array.length_toList]
  omega
 have hj:sIx items.size items.size hi≤items.size:=sIx_le _ _ (Nat.le_refl _) hi
 obtain ⟨os,hos,hcs,hds⟩:=id hs
 have hTs:s.TypeIs (.ref sl) "slice":=⟨os,hos,hcs⟩
 unfold getItem
 try with_reducible refine wpAny_holding ?_
 first | refine wpAny_bind (wpAny_pure ?_) | skip
 refine wpAny_bind (wpAny_sequenceKey ht.typeIs (by decide) ?_)
 refine wpAny_bind (wpAny_callSpecial?_slot (name:=Str.ofString "__getitem__") ht.typeIs PyProof.Rows.slot_tuple_getitem
  (wpAny_call_entry PyProof.Rows.slot_tuple_getitem ht.typeIs entry_tuple_getitem ?_ (args_tuple_getitem _ _)))
 show wpAny _ _ (Builtin.Tuple.tupleItemsOf (.ref t) >>= _) _ _ s
 refine wpAny_bind (tupleItemsOf_ ht ?_)
 refine wpAny_bind (wpAny_typeOf hTs ?_)
 rw [if_pos (by decide)]
 refine wpAny_bind (sliceApplied_gen hs pl pu ?_)
 have hno:¬((((sIx items.size 0 lo:Nat):Int) == 0&&(1:Int) == 1&&(sIx items.size items.size hi-sIx items.size 0 lo) == items.size)=true):=by
  intro q
  rw [Bool.and_eq_true,Bool.and_eq_true] at q
  have q1:((sIx items.size 0 lo:Nat):Int)=0:=eq_of_beq q.1.1
  have q2:sIx items.size items.size hi-sIx items.size 0 lo=items.size:=eq_of_beq q.2
  exact hw ⟨by omega,by omega⟩
 show wpAny _ _ (if (((sIx items.size 0 lo:Nat):Int) == 0&&(1:Int) == 1&&(sIx items.size items.size hi-sIx items.size 0 lo) == items.size)=true then _ else _) _ _ s
 rw [if_neg hno,pick_gen]
 first
  | exact wpAny_bind (m:=Builtin.Tuple.tupleExact _) (wpAny_newObj_type (wpAny_pure ⟨_,rfl,wpAny_pure h⟩) htake)
  | exact wpAny_bind (m:=Builtin.Tuple.tupleExact _) (wpAny_newObj_type (wpAny_bind (wpAny_pure (wpAny_pure ⟨_,rfl,wpAny_pure h⟩))) htake)
  | exact wpAny_bind (wpAny_bind (m:=Builtin.Tuple.tupleExact _) (wpAny_newObj_type (wpAny_pure (wpAny_pure ⟨_,rfl,wpAny_pure h⟩)) htake))
  | exact wpAny_bind (wpAny_bind (m:=Builtin.Tuple.tupleExact _) (wpAny_newObj_type (wpAny_pure ⟨_,rfl,wpAny_pure h⟩) htake))
end
end HT
namespace L2
open PySem PySem.Spec PyProof.Rows
abbrev TO:=St→Hp→(Option Int→Hp→Prop)→Prop
def PO (X:Cx) (e:Option Expr) (t:TO):Prop :=
 ∀ (pins:List (Addr×Obj)) (s:Shared) (σ:St) (H:Hp) (Q:Option Int→Hp→Prop),Inv X pins σ H s→t σ H Q →
  wpAny (model X.prog X.w) X.A (evalPart e X.env) (fun u s'=>∃ o H',Inv X pins σ H' s'∧IsPart u o∧Q o H') X.xe s
def tNoPart:TO:=fun _ H Q=>Q none H
def tPart (t:TE):TO:=fun σ H Q=>t σ H fun x H1=>∃ i,x=.int i∧Q (some i) H1
theorem intsAre_of {ns:List Int}:∀ {us:List Value},Vals (ns.map V.int) us→IntsAre us ns:=by
 induction ns with
 | nil=>intro us r;rw [List.map_nil] at r;cases r;exact .nil
 | cons n ns ih =>
  intro us r
  rw [List.map_cons] at r
  cases r with
  | cons r1 r2 =>
   obtain ⟨t,e⟩:=r1
   subst e
   exact .cons n t (ih r2)
section
variable {X:Cx}{e:Expr}{te:TE}{lo hi:Option Expr}{tl th:TO}{pos p2:Pos}
theorem po_none:PO X none tNoPart:=by
 intro pins s σ H Q I h
 rw [evalPart_none]
 exact wpAny_pure ⟨none,H,I,.none,h⟩
theorem po_some (h:PE X e te):PO X (some e) (tPart te):=by
 intro pins s σ H Q I hw
 rw [evalPart_some]
 refine thnE (h pins s σ H _ I hw) fun u s1 x H1 I1 r1 q1=>?_
 obtain ⟨i,rfl,q⟩:=q1
 obtain ⟨t,rfl⟩:=r1
 exact ⟨some i,H1,I1,.int i t,q⟩
def SlR (X:Cx) (r:V→Option Int→Option Int→Hp→VK→Prop):Prop :=
 ∀ (pins:List (Addr×Obj)) (s:Shared) (σ:St) (H:Hp) (x:V) (v vl vu:Value) (lo hi:Option Int) (sl:Addr) (Q:VK),Inv X pins σ H s→RelV x v→s.heap.IsSliceOf sl vl vu .none→IsPart vl lo→IsPart vu hi→r x lo hi H Q →
  ∃ T id,typeLookup (.type T) "__getitem__"=pure (some (.builtin id))∧s.TypeIs v T∧wpAny (model X.prog X.w) X.A (getItem v (.ref sl)) (EP X pins σ Q) X.xe s
def tSl (r:V→Option Int→Option Int→Hp→VK→Prop) (te:TE) (tl th:TO):TE:=fun σ H Q=>te σ H fun x H1=>tl σ H1 fun l H2=>th σ H2 fun u H3=>r x l u H3 Q
theorem pe_slice {r:V→Option Int→Option Int→Hp→VK→Prop} (hr:SlR X r) (he:PE X e te) (hl:PO X lo tl) (hu:PO X hi th):PE X (.Subscript e (.Slice lo hi none p2) pos) (tSl r te tl th):=by
 intro pins s σ H Q I h
 refine Subscript_ (thnE (he pins s σ H _ I h) fun v s1 x H1 I1 r1 q1=>?_)
 refine wpAny_Slice (thn (hl pins s1 σ H1 _ I1 q1) fun vl s2 ⟨l,H2,I2,pl,q2⟩=>thn (hu pins s2 σ H2 _ I2 q2) fun vu s3 ⟨u,H3,I3,pu,q3⟩=>?_)
 rw [evalPart_none]
 refine wpAny_pure ?_
 have I4:Inv X pins σ H3 { s3 with heap:=s3.heap.push { cls:=.type "slice",data:=.fields #[vl,vu,.none] } }:=I3.kept (t':=s3.toks) fun b ob q=>Heap.get?_push_of_some _ q
 obtain ⟨T,id,hT,ht,hg⟩:=hr pins { s3 with heap:=s3.heap.push { cls:=.type "slice",data:=.fields #[vl,vu,.none] } } σ H3 x v vl vu l u s3.heap.objs.size Q I4 r1 (Heap.IsSliceOf.new ..) pl pu q3
 show wpAny (model X.prog X.w) X.A (subscriptTail e (.Slice lo hi none p2) v (.ref s3.heap.objs.size)) (EP X pins σ Q) X.xe { s3 with heap:=s3.heap.push { cls:=.type "slice",data:=.fields #[vl,vu,.none] } }
 exact tail_any (ops:=[.ref s3.heap.objs.size,v]) ht hT hg (by with_unfolding_all rfl)
def cutV (xs:List V) (lo hi:Option Int):List V:=(xs.drop (HT.sIx xs.length 0 lo)).take (HT.sIx xs.length xs.length hi-HT.sIx xs.length 0 lo)
theorem cutV_length (xs:List V) (lo hi:Option Int):(cutV xs lo hi).length≤xs.length:=by
 unfold cutV
 rw [List.length_take,List.length_drop]
 omega
def rSlT (K:PySem.W.Frag):V→Option Int→Option Int→Hp→VK→Prop:=fun x lo hi H Q=>∃ a xs,x=.ref a∧SqT K H a xs ∧
 ¬(HT.sIx xs.length 0 lo=0∧HT.sIx xs.length xs.length hi=xs.length)∧∀ p,H p=none→Q (.ref p) (upd H p (.tup (cutV xs lo hi)))
theorem sl_tup:SlR X (rSlT X.K):=by
 intro pins s σ H x v vl vu lo hi sl Q I rx hs pl pu h
 obtain ⟨a,xs,rfl,hx,hw,q⟩:=h
 cases rx
 obtain ⟨its,r,ht,hz⟩:=I.tuple hx
 have hlen:its.toArray.size=xs.length:=by rw [List.size_toArray];exact r.length.symm
 refine ⟨"tuple",_,PyProof.Rows.slot_tuple_getitem.lookup,ht.typeIs,?_⟩
 refine HT.getItem_tuple_cut ht hs pl pu (by rw [hlen];exact hw) ?_ (by rw [hlen];exact hz)
 rw [hlen]
 refine ⟨.ref s.heap.objs.size,_,I.laid (t':=s.toks) (o:=.tup (cutV xs lo hi)) (fun b ob q=>Heap.get?_push_of_some _ q) (Nat.le_refl _) ?_,rfl,q _ (I.hok.fresh (Nat.le_refl _))⟩
 exact ⟨Nat.le_trans (cutV_length xs lo hi) hz,_,(r.drop (HT.sIx xs.length 0 lo)).take (HT.sIx xs.length xs.length hi-HT.sIx xs.length 0 lo),TupP.new _ _⟩
def rCatT (K:PySem.W.Frag):R2:=fun x y H Q=>∃ a b xs ys,x=.ref a∧y=.ref b∧SqT K H a xs∧SqT K H b ys∧xs≠[]∧xs.length+ys.length≤sizeLine ∧
 (ys=[]→Q (.ref a) H)∧(ys≠[]→∀ p,H p=none→Q (.ref p) (upd H p (.tup (xs++ys))))
theorem Vals.nil_iff {xs:List V}{us:List Value} (r:Vals xs us):us=[]↔xs=[]:=by
 cases r with
 | nil=>simp
 | cons _ _=>simp
theorem op_catT:OpR X (binaryOp .Add) (rCatT X.K):=by
 intro pins s σ H x y v u Q I rx ry h
 obtain ⟨a,b,xs,ys,rfl,rfl,ha,hb,hx,hz,q1,q2⟩:=h
 cases rx
 cases ry
 obtain ⟨its,r1,p1,_⟩:=I.tuple ha
 obtain ⟨its2,r2,p2,_⟩:=I.tuple hb
 refine HT.cat_tup p1 p2 (fun z=>hx (r1.nil_iff.mp z)) (fun z=>⟨.ref a,H,I,rfl,q1 (r2.nil_iff.mp z)⟩) (fun z=>?_) (by rw [← r1.length,← r2.length];exact hz)
 refine ⟨.ref s.heap.objs.size,_,I.laid (t':=s.toks) (o:=.tup (xs++ys)) (fun b ob q=>Heap.get?_push_of_some _ q) (Nat.le_refl _) ?_,rfl,q2 (fun w=>z (r2.nil_iff.mpr w)) _ (I.hok.fresh (Nat.le_refl _))⟩
 exact ⟨by rw [List.length_append];exact hz,_,r1.append r2,TupP.new _ _⟩
end
end L2
namespace L2
open PySem PySem.Spec PyProof.Rows
def ixN (n:Nat) (i:Int):Option Nat:=if 0≤i then (if i < n then some i.toNat else none) else if -(n:Int)≤i then some (i+n).toNat else none
def atI {α:Type} (xs:List α) (i:Int):Option α:=(ixN xs.length i).bind fun j=>xs[j]?
theorem ixN_seq {n:Nat}{i:Int}{j:Nat} (h:ixN n i=some j):seqIndex? i n=some j∧j < n∧-(n:Int)≤i∧i < n:=by
 unfold ixN at h
 by_cases h0:0≤i
 ·rw [if_pos h0] at h
  by_cases h1:i < n
  ·rw [if_pos h1] at h
   have e:i.toNat=j:=Option.some.inj h
   exact ⟨by rw [seqIndex_of h0 h1,e],by omega,by omega,h1⟩
  ·rw [if_neg h1] at h;cases h
 ·rw [if_neg h0] at h
  by_cases h1 : -(n:Int)≤i
  ·rw [if_pos h1] at h
   have e:(i+n).toNat=j:=Option.some.inj h
   exact ⟨by rw [seqIndex_neg (by omega) h1,e],by omega,h1,by omega⟩
  ·rw [if_neg h1] at h;cases h
theorem atI_get {α:Type}{xs:List α}{i:Int}{v:α} (h:atI xs i=some v):∃ j,seqIndex? i xs.length=some j∧xs[j]? = some v∧j < xs.length∧-(xs.length:Int)≤i∧i < xs.length:=by
 unfold atI at h
 cases e:ixN xs.length i with
 | none=>rw [e] at h;cases h
 | some j =>
  rw [e] at h
  obtain ⟨h1,h2,h3,h4⟩:=ixN_seq e
  exact ⟨j,h1,h,h2,h3,h4⟩
theorem atI_nat {α:Type}{xs:List α}{j:Nat}{v:α} (h:xs[j]? = some v):atI xs (j:Int)=some v:=by
 have hj:j < xs.length:=(List.getElem?_eq_some_iff.mp h).1
 have e:ixN xs.length (j:Int)=some j:=by
  unfold ixN
  rw [if_pos (by omega),if_pos (by omega)];simp
 unfold atI;rw [e];exact h
theorem atI_last {α:Type} (xs:List α) (v:α):atI (xs++[v]) (-1)=some v:=by
 have hl:(xs++[v]).length=xs.length+1:=by simp
 have e:ixN (xs++[v]).length (-1)=some xs.length:=by
  unfold ixN
  rw [hl,if_neg (by decide),if_pos (by omega)]
  congr 1
  omega
 unfold atI
 rw [e]
 show (xs++[v])[xs.length]? = some v
 simp
def PlainIx (b:Expr):Prop:=∀ o i,subscripted b false o i=operate [o,i] (getItem o i)
def IxR (X:Cx) (r:R2):Prop :=
 ∀ (value slice:Expr) (pins:List (Addr×Obj)) (s:Shared) (σ:St) (H:Hp) (x y:V) (v u:Value) (Q:VK),Inv X pins σ H s→RelV x v→RelV y u→r x y H Q →
  subscripted slice false v u=operate [v,u] (getItem v u)→wpAny (model X.prog X.w) X.A (subscriptTail value slice v u) (EP X pins σ Q) X.xe s
def MtR (X:Cx) (id:String) (r:V→List V→Hp→VK→Prop):Prop :=
 ∀ (pins:List (Addr×Obj)) (s:Shared) (σ:St) (H:Hp) (x:V) (xs:List V) (v:Value) (us:List Value) (Q:VK),Inv X pins σ H s→RelV x v→Vals xs us→r x xs H Q →
  wpAny (model X.prog X.w) X.A (call (.builtin id) (v :: us)) (EP X pins σ Q) X.xe s
section
variable {X:Cx}{a b:Expr}{ta tb:TE}{pos:Pos}
theorem pe_ix {r:R2} (hr:IxR X r) (ha:PE X a ta) (hb:PE X b tb) (hs:PlainIx b):PE X (.Subscript a b pos) (tOp r ta tb):=by
 intro pins s σ H Q I h
 exact Subscript_ (binT ha hb I h fun v u s2 x y H2 I2 rx ry q=>hr a b pins s2 σ H2 x y v u Q I2 rx ry q (hs _ _))
def rIxL (K:PySem.W.Frag):R2:=fun x y H Q=>∃ p xs i v,x=.ref p∧y=.int i∧SqL K H p xs∧atI xs i=some v∧Q v H
def rIxT (K:PySem.W.Frag):R2:=fun x y H Q=>∃ p xs i v,x=.ref p∧y=.int i∧SqT K H p xs∧atI xs i=some v∧Q v H
theorem ix_list:IxR X (rIxL X.K):=by
 intro value slice pins s σ H x y v u Q I rx ry h hs
 obtain ⟨p,xs,i,z,rfl,rfl,hq,he,q⟩:=h
 cases rx
 obtain ⟨t,rfl⟩:=ry
 obtain ⟨its,r,pl,hz⟩:=I.list hq
 obtain ⟨j,h1,h2,h3,h4,h5⟩:=atI_get he
 obtain ⟨w,ew,rw'⟩:=r.get h2
 have hl:=r.length
 have hn:=line63
 have fin:EP X pins σ Q w s:=⟨z,H,I,rw',q⟩
 by_cases h0:0≤i
 ·have hj:i.toNat=j:=by
   rw [seqIndex_of h0 h5] at h1
   exact Option.some.inj h1
  exact item_listR pl.isList h0 (by omega) (by rw [hj];simpa using ew) fin hs
 ·have hj:(i+(its.toArray.size:Int)).toNat=j:=by
   rw [seqIndex_neg (by omega) h4] at h1
   rw [List.size_toArray,← hl]
   exact Option.some.inj h1
  exact subscriptTail_builtinR (x:=w) pl.isList.typeIs slot_list_getitem.lookup
   (wpAny_getItem_list_neg (Q:=fun r s'=>r=w∧EP X pins σ Q r s') pl.isList (by omega) (by rw [List.size_toArray]<;>omega) (by omega) (by rw [hj];simpa using ew) ⟨rfl,fin⟩) hs
theorem ix_tup:IxR X (rIxT X.K):=by
 intro value slice pins s σ H x y v u Q I rx ry h hs
 obtain ⟨p,xs,i,z,rfl,rfl,hq,he,q⟩:=h
 cases rx
 obtain ⟨t,rfl⟩:=ry
 obtain ⟨its,r,pl,hz⟩:=I.tuple hq
 obtain ⟨j,h1,h2,h3,h4,h5⟩:=atI_get he
 obtain ⟨w,ew,rw'⟩:=r.get h2
 have hl:=r.length
 have hn:=line63
 have fin:EP X pins σ Q w s:=⟨z,H,I,rw',q⟩
 exact subscriptTail_builtinR (x:=w) pl.typeIs slot_tuple_getitem.lookup
  (getItem_tuple (j:=j) (Q:=fun r s'=>r=w∧EP X pins σ Q r s') pl (by omega) (by omega) (by rw [List.size_toArray,← hl];exact h1) (by simpa using ew) ⟨rfl,fin⟩) hs
theorem mapSeq_set (its:List Value) (n j:Nat) (u:Value):Obj.mapSeq (·.setIfInBounds j u) { cls:=.type "list",data:=.seq its.toArray n }={ cls:=.type "list",data:=.seq (its.set j u).toArray n }:=by
 simp [Obj.mapSeq]
theorem Inv.lst {pins:List (Addr×Obj)}{σ:St}{H:Hp}{s:Shared}{p:Addr}{xs:List V} (I:Inv X pins σ H s) (h:H p=some (.lst xs)) :
  ∃ (its:List Value) (n:Nat),Vals xs its∧s.heap.get? p=some { cls:=.type "list",data:=.seq its.toArray n }∧xs.length≤sizeLine:=by
 obtain ⟨z,its,n,r,e⟩:=I.hok p _ h
 exact ⟨its,n,r,e,z⟩
theorem Inv.lstUpd {pins:List (Addr×Obj)}{σ:St}{H:Hp}{s:Shared}{p:Addr}{xs ys:List V}{its its':List Value}{n n':Nat}{f:Obj→Obj} (I:Inv X pins σ H s) (h:H p=some (.lst xs))
  (ho:s.heap.get? p=some { cls:=.type "list",data:=.seq its.toArray n }) (hf:f { cls:=.type "list",data:=.seq its.toArray n }={ cls:=.type "list",data:=.seq its'.toArray n' }) (r:Vals ys its') (hz:ys.length≤sizeLine) (t:Nat) :
  Inv X pins σ (upd H p (.lst ys)) { s with heap:=s.heap.update p f,toks:=t }:=by
 have e:(s.heap.update p f).get? p=some { cls:=.type "list",data:=.seq its'.toArray n' }:=by
  rw [Heap.get?_update_self f ho (by rw [hf]<;>rfl),hf]
 refine I.write (x:=p) (e:=p) (by rw [h];trivial) (.inl rfl) (fun b u hb q=>(Heap.get?_update_other _ _ (Ne.symm hb)).trans q) ⟨_,e⟩ ?_
 exact ⟨hz,its',n',r,e⟩
def rSetL:V→V→V→Hp→(Hp→Prop)→Prop:=fun o i v H Q=>∃ p xs k j,o=.ref p∧i=.int k∧H p=some (.lst xs)∧ixN xs.length k=some j∧Q (upd H p (.lst (xs.set j v)))
theorem set_list:PSet X rSetL:=by
 intro pins s σ H o i v ov iv u Q I ro ri rv h
 obtain ⟨p,xs,k,j,rfl,rfl,hp,hj,q⟩:=h
 cases ro
 obtain ⟨t,rfl⟩:=ri
 obtain ⟨its,n,r,ho,hz⟩:=I.lst hp
 obtain ⟨h1,h2,h3,h4⟩:=ixN_seq hj
 have hl:=r.length
 have hn:=line63
 have I':Inv X pins σ (upd H p (.lst (xs.set j v))) { s with heap:=s.heap.update p (Obj.mapSeq (·.setIfInBounds j u)) } :=
  I.lstUpd hp ho (mapSeq_set its n j u) (r.set rv j) (by rw [List.length_set];exact hz) s.toks
 by_cases h0:0≤k
 ·have hk:k.toNat=j:=by
   rw [seqIndex_of h0 h4] at h1
   exact Option.some.inj h1
  exact PySem.W.ki_setAt ho h0 (by omega) (by rw [List.size_toArray,← hl];exact h4) (by rw [hk];exact ⟨_,I',q⟩)
 ·have hk:(k+(its.toArray.size:Int)).toNat=j:=by
   rw [seqIndex_neg (by omega) h3] at h1
   rw [List.size_toArray,← hl]
   exact Option.some.inj h1
  exact PySem.W.ki_setBack ho (by omega) (by rw [List.size_toArray,← hl];exact h3) (by omega) (by rw [hk];exact ⟨_,I',q⟩)
theorem slice_bounds (lo hi:Option Int) (n:Nat):(sliceBounds lo hi none n).1=((HT.sIx n 0 lo:Nat):Int)∧(sliceBounds lo hi none n).2.1=((HT.sIx n n hi:Nat):Int)∧(sliceBounds lo hi none n).2.2=1:=by
 refine ⟨?_,?_,rfl⟩
 ·cases lo with
  | none=>simp [sliceBounds,HT.sIx]
  | some i =>
   simp only [sliceBounds,HT.sIx,Option.getD_none,show (1:Int) > 0 by decide,if_true]
   by_cases h:i < 0
   ·simp only [h,if_true]<;>omega
   ·simp only [h,if_false]<;>omega
 ·cases hi with
  | none=>simp [sliceBounds,HT.sIx]
  | some i =>
   simp only [sliceBounds,HT.sIx,Option.getD_none,show (1:Int) > 0 by decide,if_true]
   by_cases h:i < 0
   ·simp only [h,if_true]<;>omega
   ·simp only [h,if_false]<;>omega
theorem slicePick_cut (its:List Value) (lo hi:Option Int):slicePick its.toArray lo hi none=((its.drop (HT.sIx its.length 0 lo)).take (HT.sIx its.length its.length hi-HT.sIx its.length 0 lo)).toArray:=by
 obtain ⟨h1,h2,h3⟩:=slice_bounds lo hi its.toArray.size
 unfold slicePick
 rw [h1,h2,h3]
 simp only [sliceRange_one,pick_run,List.size_toArray]<;>rfl
def rSlL (K:PySem.W.Frag):V→Option Int→Option Int→Hp→VK→Prop:=fun x lo hi H Q=>∃ a xs,x=.ref a∧SqL K H a xs∧∀ p,H p=none→Q (.ref p) (upd H p (.lst (cutV xs lo hi)))
theorem sl_list:SlR X (rSlL X.K):=by
 intro pins s σ H x v vl vu lo hi sl Q I rx hs pl pu h
 obtain ⟨a,xs,rfl,hx,q⟩:=h
 cases rx
 obtain ⟨its,r,ht,hz⟩:=I.list hx
 have hlen:=r.length
 refine ⟨"list",_,slot_list_getitem.lookup,ht.isList.typeIs,?_⟩
 refine wpAny_getItem_list_slice ht.isList hs pl pu .none (by simp) ?_ (by rw [List.size_toArray]<;>omega)
 rw [slicePick_cut,← hlen]
 refine ⟨.ref s.heap.objs.size,_,I.laid (t':=s.toks) (o:=.lst (cutV xs lo hi)) (fun b ob q=>Heap.get?_push_of_some _ q) (Nat.le_refl _) ?_,rfl,q _ (I.hok.fresh (Nat.le_refl _))⟩
 exact ⟨Nat.le_trans (cutV_length xs lo hi) hz,_,0,(r.drop (HT.sIx xs.length 0 lo)).take (HT.sIx xs.length xs.length hi-HT.sIx xs.length 0 lo),Heap.get?_push_size _ rfl⟩
def flatV:V→Bool
 | .non=>true
 | .bl _=>true
 | .int _=>true
 | .str _=>true
 | _=>false
def eqV:V→V→Bool
 | .non,.non=>true
 | .bl a,.bl b=>a == b
 | .bl a,.int b=>(if a then 1 else 0) == b
 | .int a,.bl b=>a == (if b then 1 else 0)
 | .int a,.int b=>a == b
 | .str a,.str b=>a == b
 | _,_=>false
theorem eqAt_V {A:Around}{s:Shared}{y x:V}{u v:Value} (ry:RelV y u) (rx:RelV x v) (fy:flatV y=true) (fx:flatV x=true):SeqAt.EqAt A s u v (eqV y x):=by
 cases y with
 | non =>
  cases ry
  cases x with
  | non=>cases rx;exact SeqAt.EqAt.same _
  | bl b=>cases rx;exact SeqAt.EqAt.none_bool b
  | int b=>obtain ⟨t,rfl⟩:=rx;exact SeqAt.EqAt.none_int b t
  | str b=>obtain ⟨t,rfl⟩:=rx;exact SeqAt.EqAt.none_str b t
  | _=>exact absurd (show false=true from fx) Bool.false_ne_true
 | bl a =>
  cases ry
  cases x with
  | non=>cases rx;exact SeqAt.EqAt.bool_none a
  | bl b=>cases rx;exact SeqAt.EqAt.bool_bool a b
  | int b=>obtain ⟨t,rfl⟩:=rx;exact SeqAt.EqAt.bool_int a b t
  | str b=>obtain ⟨t,rfl⟩:=rx;exact SeqAt.EqAt.bool_str a b t
  | _=>exact absurd (show false=true from fx) Bool.false_ne_true
 | int a =>
  obtain ⟨t',rfl⟩:=ry
  cases x with
  | non=>cases rx;exact SeqAt.EqAt.int_none a t'
  | bl b=>cases rx;exact SeqAt.EqAt.int_bool a t' b
  | int b=>obtain ⟨t,rfl⟩:=rx;exact SeqAt.EqAt.int_int a t' b t
  | str b=>obtain ⟨t,rfl⟩:=rx;exact SeqAt.EqAt.int_str a t' b t
  | _=>exact absurd (show false=true from fx) Bool.false_ne_true
 | str a =>
  obtain ⟨t',rfl⟩:=ry
  cases x with
  | non=>cases rx;exact SeqAt.EqAt.str_none a t'
  | bl b=>cases rx;exact SeqAt.EqAt.str_bool a t' b
  | int b=>obtain ⟨t,rfl⟩:=rx;exact SeqAt.EqAt.str_int a t' b t
  | str b=>obtain ⟨t,rfl⟩:=rx;exact SeqAt.EqAt.str_str a t' b t
  | _=>exact absurd (show false=true from fx) Bool.false_ne_true
 | _=>exact absurd (show false=true from fy) Bool.false_ne_true
def eqU (x:V) (u:Value):Bool:=match u with
 | .none=>eqV .non x
 | .bool b=>eqV (.bl b) x
 | .int i _=>eqV (.int i) x
 | .str z _=>eqV (.str z) x
 | _=>false
theorem eqU_of {x y:V}{u:Value} (r:RelV y u) (f:flatV y=true):eqU x u=eqV y x:=by
 cases y with
 | non=>cases r;rfl
 | bl b=>cases r;rfl
 | int i=>obtain ⟨t,rfl⟩:=r;rfl
 | str z=>obtain ⟨t,rfl⟩:=r;rfl
 | _=>exact absurd (show false=true from f) Bool.false_ne_true
theorem mem_eqAt {A:Around}{s:Shared}{x:V}{v:Value} (rx:RelV x v) (fx:flatV x=true):∀ {xs:List V}{us:List Value},Vals xs us→xs.all flatV=true→∀ u∈us,SeqAt.EqAt A s u v (eqU x u)
 | _,_,.nil,_=>fun u hu=>by cases hu
 | y :: xs,u :: us,.cons r t,f=>fun u' hu=>by
  rw [List.all_cons,Bool.and_eq_true] at f
  rcases List.mem_cons.mp hu with rfl | hu
  ·rw [eqU_of r f.1];exact eqAt_V r rx f.1 fx
  ·exact mem_eqAt rx fx t f.2 u' hu
theorem call_len_seq:CallR X (.builtin "len") (fun xs H Q=>∃ p ys,xs=[.ref p]∧(SqL X.K H p ys∨SqT X.K H p ys)∧Q (.int ys.length) H):=by
 intro pins s σ H xs us Q I r h
 obtain ⟨p,ys,rfl,hq,q⟩:=h
 obtain ⟨u,rfl,rx⟩:=vals1 r
 cases rx
 have hn:=line63
 rcases hq with hq | hq
 ·obtain ⟨its,r',pl,hz⟩:=I.list hq
  have hlen:=r'.length
  exact Calls.call_len_list pl.isList (by simp only [List.size_toArray]<;>omega) ⟨.int ys.length,H,I.tok _,⟨s.toks+1,by rw [List.size_toArray,hlen]⟩,q⟩
 ·obtain ⟨its,r',pl,hz⟩:=I.tuple hq
  have hlen:=r'.length
  exact len_tuple pl (by simp only [List.size_toArray]<;>omega) ⟨.int ys.length,H,I.tok _,⟨s.toks+1,by rw [List.size_toArray,hlen]⟩,q⟩
theorem call_list_of:CallR X (.type "list") (fun xs H Q=>∃ p ys,xs=[.ref p]∧(SqL X.K H p ys∨SqT X.K H p ys)∧∀ l,H l=none→Q (.ref l) (upd H l (.lst ys))):=by
 intro pins s σ H xs us Q I r h
 obtain ⟨p,ys,rfl,hq,q⟩:=h
 obtain ⟨u,rfl,rx⟩:=vals1 r
 cases rx
 have fin:∀ (its:List Value),Vals ys its→ys.length≤sizeLine→∀ (h':Heap) (c':Nat),(∀ b o',s.heap.get? b=some o'→h'.get? b=some o') →
   h'.get? s.heap.objs.size=some { cls:=.type "list",dict:=none,data:=.seq its.toArray c',slots:=#[] }→EP X pins σ Q (.ref s.heap.objs.size) { s with heap:=h' }:=fun its r' hz h' c' kp e =>
  ⟨.ref s.heap.objs.size,_,I.laid (t':=s.toks) kp (Nat.le_refl _) (show ObjOk X.prog X.w _ h' _ (.lst ys) from ⟨hz,its,c',r',e⟩),rfl,q _ (I.hok.fresh (Nat.le_refl _))⟩
 rcases hq with hq | hq
 ·obtain ⟨its,r',pl,hz⟩:=I.list hq
  have hlen:=r'.length
  obtain ⟨o,ho,hc,n,hd⟩:=pl.isList
  exact call_list_seq p (.inl rfl) ho hc hd (fun h' c' kp e=>fin its r' hz h' c' kp e) (by simp only [List.size_toArray]<;>omega)
 ·obtain ⟨its,r',pl,hz⟩:=I.tuple hq
  have hlen:=r'.length
  obtain ⟨o,ho,hc,n,hd⟩:=pl
  exact call_list_seq p (.inr rfl) ho hc hd (fun h' c' kp e=>fin its r' hz h' c' kp e) (by simp only [List.size_toArray]<;>omega)
theorem call_tuple_of:CallR X (.type "tuple") (fun xs H Q=>∃ p ys,xs=[.ref p]∧((SqL X.K H p ys∧∀ l,H l=none→Q (.ref l) (upd H l (.tup ys)))∨(SqT X.K H p ys∧Q (.ref p) H))):=by
 intro pins s σ H xs us Q I r h
 obtain ⟨p,ys,rfl,h⟩:=h
 obtain ⟨u,rfl,rx⟩:=vals1 r
 cases rx
 rcases h with ⟨hq,q⟩ | ⟨hq,q⟩
 ·obtain ⟨its,r',pl,hz⟩:=I.list hq
  have hlen:=r'.length
  refine call_tuple_list pl.isList (fun h' kp=>?_) (by simp only [List.size_toArray]<;>omega)
  have I1:Inv X pins σ H { s with heap:=h' }:=I.kept (t':=s.toks) kp
  have I2:Inv X pins σ (upd H h'.objs.size (.tup ys)) { s with heap:=h'.push { cls:=.type "tuple",data:=.seq its.toArray } } :=
   I1.laid (t':=s.toks) (fun b o e=>Heap.get?_push_of_some _ e) (Nat.le_refl _) (show ObjOk X.prog X.w _ _ _ (.tup ys) from ⟨hz,its,r',TupP.new _ _⟩)
  exact ⟨.ref h'.objs.size,_,I2,rfl,q _ (I1.hok.fresh (Nat.le_refl _))⟩
 ·obtain ⟨its,r',pl,hz⟩:=I.tuple hq
  exact call_tuple_same pl ⟨.ref p,H,I,rfl,q⟩
def tyV (K:PySem.W.Frag) (T:String) (x:V) (H:Hp):Prop:=match x with
 | .str _=>T="str"
 | .int _=>T="int"
 | .ref p=>(T="list"∧∃ xs,SqL K H p xs)∨(T="tuple"∧∃ o,K.lookup p=some o∧o.cls=.type "tuple"∧o.dict=none) ∨
   (T="dict"∧((∃ kvs,H p=some (.dK kvs))∨∃ kvs,H p=some (.dT kvs)))∨(T="set"∧∃ S n,H p=some (.set S n))
 | _=>False
theorem tyV_is {pins:List (Addr×Obj)}{σ:St}{H:Hp}{s:Shared}{T:String}{x:V}{v:Value} (I:Inv X pins σ H s) (r:RelV x v) (ty:tyV X.K T x H) :
  s.TypeIs v T∧∀ a,v=.ref a→∃ ob,s.heap.get? a=some ob∧ob.dict=none:=by
 cases x with
 | str z =>
  obtain ⟨t,rfl⟩:=r
  cases (show T="str" from ty)
  exact ⟨typeIs_str s z t,fun _ e=>nomatch e⟩
 | int i =>
  obtain ⟨t,rfl⟩:=r
  cases (show T="int" from ty)
  exact ⟨typeIs_int s i t,fun _ e=>nomatch e⟩
 | ref p =>
  cases r
  rcases ty with ⟨rfl,xs,hq⟩ | ⟨rfl,o,hk,hc,hd⟩ | ⟨rfl,hk⟩ | ⟨rfl,S,n,hk⟩
  ·obtain ⟨its,_,pl,_⟩:=I.list hq
   refine ⟨pl.isList.typeIs,fun a e=>?_⟩
   cases e
   obtain ⟨o,n,e,c,hd,_⟩:=pl
   exact ⟨o,e,hd⟩
  ·refine ⟨⟨o,I.kIn p o hk,hc⟩,fun a e=>?_⟩
   cases e
   exact ⟨o,I.kIn _ o hk,hd⟩
  ·have z:∃ o,s.heap.get? p=some o∧o.ExactDict:=by
    rcases hk with ⟨kvs,hk⟩ | ⟨kvs,hk⟩
    ·obtain ⟨_,_,_,_,o,_,_,e,ex,_⟩:=I.hok p _ hk
     exact ⟨o,e,ex⟩
    ·obtain ⟨_,_,_,_,o,_,_,e,ex,_⟩:=I.hok p _ hk
     exact ⟨o,e,ex⟩
   obtain ⟨o,e,ex⟩:=z
   refine ⟨⟨o,e,ex.1⟩,fun a e2=>?_⟩
   cases e2
   exact ⟨o,e,ex.2.1⟩
  ·obtain ⟨o,_,_,_,e,ex,_⟩:=I.hok p _ hk
   refine ⟨⟨o,e,ex.1⟩,fun a e2=>?_⟩
   cases e2
   exact ⟨o,e,ex.2.1⟩
 | _=>exact False.elim ty
def tBM0 (K:PySem.W.Frag) (T:String) (r:V→List V→Hp→VK→Prop) (to:TE):TE:=fun σ H Q=>to σ H fun x H1=>tyV K T x H1∧r x [] H1 Q
def tBM (K:PySem.W.Frag) (T:String) (r:V→List V→Hp→VK→Prop) (to:TE) (t:TA):TE:=fun σ H Q=>to σ H fun x H1=>tyV K T x H1∧t σ H1 fun xs H2=>r x xs H2 Q
variable {o e:Expr}{es:List Expr}{to:TE}{t:TA}{name:Str}{apos cpos:Pos}{T id:String}{r:V→List V→Hp→VK→Prop}
theorem pe_bm0 (pa:PlainAttrs T) (slot:Slot T name id) (hty:typeOf (.builtin id)=pure (.type "method_descriptor")) (hm:MtR X id r) (ho:PE X o to)
  (hbase:attributeBase o name X.env (eval o X.env)=eval o X.env:=by rfl) (hline:(apos.endLine == cpos.line)=true:=by rfl):PE X (.Call (.Attribute o name apos) [] [] cpos) (tBM0 X.K T r to):=by
 intro pins s σ H Q I h
 refine wpAny_Call_method0_late hbase hline (thnE (ho pins s σ H _ I h) fun v s1 x H1 I1 r1 zz3=>?_)
 obtain ⟨ty,q1⟩:=zz3
 obtain ⟨h1,h2⟩:=tyV_is I1 r1 ty
 exact ⟨T,id,pa,slot,hty,h1,h2,Calls.callWith_builtin rfl (PySem.evalArgs_none (hm pins s1 σ H1 x [] v [] Q I1 r1 .nil q1))⟩
theorem pe_bm (pa:PlainAttrs T) (slot:Slot T name id) (hty:typeOf (.builtin id)=pure (.type "method_descriptor")) (hm:MtR X id r) (ho:PE X o to) (ha:PA X (e :: es) t)
  (hbase:attributeBase o name X.env (eval o X.env)=eval o X.env:=by rfl)
  (hfew:((backTo cpos (starEach (e :: es) X.env)).all (fun x=>!x.1)&&(backToKw cpos (keywordEach [] X.env)).all (fun x=>x.1.isSome)
   && decide ((e :: es).length+([]:List Keyword).length+(if ([]:List Keyword).isEmpty then 0 else 1) < 30))=true:=by rfl)
  (hline:(apos.endLine == cpos.line)=true:=by rfl) (hs:starEach (e :: es) X.env=(false,eval e X.env) :: starEach es X.env:=by rfl) (hplain:(backTo cpos (starEach es X.env)).any (·.1)=false:=by rfl) :
  PE X (.Call (.Attribute o name apos) (e :: es) [] cpos) (tBM X.K T r to t):=by
 intro pins s σ H Q I h
 refine wpAny_Call_method_late hbase hfew hline rfl (thnE (ho pins s σ H _ I h) fun v s1 x H1 I1 r1 zz4=>?_)
 obtain ⟨ty,q1⟩:=zz4
 obtain ⟨h1,h2⟩:=tyV_is I1 r1 ty
 refine ⟨T,id,pa,slot,hty,h1,h2,?_⟩
 have hA:=ha cpos pins s1 σ H1 _ I1 q1
 rw [hs] at hA ⊢
 refine Calls.callWith_builtin (by show (false||(backTo cpos (starEach es X.env)).any (·.1))=false;rw [hplain]<;>rfl) (Calls.evalArgs_plain ?_)
 exact thn hA fun us s2 ⟨vs,H2,I2,r2,q2⟩=>hm pins s2 σ H2 x vs v us Q I2 r1 r2 q2
end
end L2
namespace L2
open PySem PySem.Spec PyProof.Rows
def MtM (X:Cx) (id:String) (r:V→List V→Hp→VK→Prop):Prop :=
 ∀ (pins:List (Addr×Obj)) (s:Shared) (σ:St) (H:Hp) (x:V) (xs:List V) (v:Value) (us:List Value) (Q:VK),Inv X pins σ H s→RelV x v→Vals xs us→r x xs H Q →
  wpAny (model X.prog X.w) X.A (call (.builtin id) (v :: us)) (EP X pins σ Q) X.xe s
theorem Vals.one:∀ {x:V}{us:List Value},Vals [x] us→∃ u,us=[u]∧RelV x u
 | _,_,.cons r .nil=>⟨_,rfl,r⟩
theorem Vals.zero:∀ {us:List Value},Vals [] us→us=[]
 | _,.nil=>rfl
theorem Vals.reverse {xs:List V}{us:List Value} (h:Vals xs us):Vals xs.reverse us.reverse:=by
 induction h with
 | nil=>exact .nil
 | cons r t ih=>rw [List.reverse_cons,List.reverse_cons];exact Vals.append ih (.cons r .nil)
theorem Vals.rep {xs:List V}{us:List Value} (h:Vals xs us):∀ k:Nat,Vals (List.replicate k xs).flatten (List.replicate k us).flatten
 | 0=>.nil
 | k+1=>by
  rw [List.replicate_succ,List.replicate_succ,List.flatten_cons,List.flatten_cons]
  exact Vals.append h (Vals.rep h k)
theorem foldl_rep (its:List Value):∀ (k:Nat) (acc:List Value),
  List.foldl (fun x1 x2=>x1++x2) acc.toArray (List.replicate k its.toArray)=(acc++(List.replicate k its).flatten).toArray
 | 0,acc=>by simp
 | k+1,acc=>by
  have e:acc.toArray++its.toArray=(acc++its).toArray:=by simp
  have e2:(acc++its)++(List.replicate k its).flatten=acc++(List.replicate (k+1) its).flatten:=by
   rw [List.replicate_succ,List.flatten_cons,List.append_assoc]
  rw [← e2,← foldl_rep its k (acc++its),← e,List.replicate_succ,List.foldl_cons]
section
variable {X:Cx}{pins:List (Addr×Obj)}{σ:St}{H:Hp}{s:Shared}{l b:Addr}{xs ys zs:List V}
theorem Inv.lset {its its':List Value}{n:Nat}{f:Array Value→Array Value}{t':Nat} (I:Inv X pins σ H s) (hH:H l=some (.lst xs))
  (e:s.heap.get? l=some { cls:=.type "list",data:=.seq its.toArray n }) (hf:f its.toArray=its'.toArray) (hv:Vals ys its') (hz:ys.length≤sizeLine) :
  Inv X pins σ (upd H l (.lst ys)) { s with heap:=s.heap.update l (Obj.mapSeq f),toks:=t' }:=by
 have q:=PySem.IsL.update e f
 rw [hf] at q
 refine I.write (x:=l) (e:=l) (by rw [hH];exact trivial) (.inl rfl) (fun b' u hb hu=>(Heap.get?_update_other s.heap (Obj.mapSeq f) (Ne.symm hb)).trans hu) ⟨_,q⟩ ?_
 exact ⟨hz,its',_,hv,q⟩
theorem Inv.lnew {its:List Value}{t':Nat} (I:Inv X pins σ H s) (hv:Vals ys its) (hz:ys.length≤sizeLine) :
  Inv X pins σ (upd H s.heap.objs.size (.lst ys)) { s with heap:=s.heap.push { cls:=.type "list",data:=.seq its.toArray },toks:=t' } :=
 I.laid (fun _ _ q=>Heap.get?_push_of_some _ q) (Nat.le_refl _) ⟨hz,its,0,hv,Heap.get?_push_size _ rfl⟩
theorem Inv.fresh (I:Inv X pins σ H s):H s.heap.objs.size=none:=I.hok.fresh (Nat.le_refl _)
theorem Inv.lstM (I:Inv X pins σ H s) (hH:H l=some (.lst xs)):xs.length≤sizeLine∧∃ (its:List Value) (n:Nat),Vals xs its∧xs.length=its.length∧s.heap.get? l=some { cls:=.type "list",data:=.seq its.toArray n }:=by
 obtain ⟨z,its,n,r,e⟩:=I.hok l _ hH
 exact ⟨z,its,n,r,r.length,e⟩
theorem notLongL {n:Nat} (h:n≤sizeLine):Builtin.List.listTooLong n=false:=by
 unfold Builtin.List.listTooLong
 exact decide_eq_false (by omega)
end
section
variable {X:Cx}
def rAppend:V→List V→Hp→VK→Prop:=fun x vs H Q=>∃ l xs y,x=.ref l∧vs=[y]∧H l=some (.lst xs)∧xs.length < sizeLine∧Q .non (upd H l (.lst (xs++[y])))
theorem mt_append:MtM X "list.append" rAppend:=by
 intro pins s σ H x vs v us Q I rx rv h
 obtain ⟨l,xs,y,rfl,rfl,hH,hz,q⟩:=h
 cases rx
 obtain ⟨u,rfl,ru⟩:=rv.one
 obtain ⟨z,its,n,r,hl,e⟩:=I.lstM hH
 refine call_meets F.slot_list_append ⟨_,e,rfl⟩ F.entry_list_append (F.args_list_append_2 _ _) (PySem.list_append l its.toArray n u (by rw [List.size_toArray];omega)) ⟨e,?_⟩
 refine ⟨.non,_,I.lset (its':=its++[u]) hH e (by simp) (r.append (.cons ru .nil)) ?_,rfl,q⟩
 rw [List.length_append,List.length_singleton]
 omega
def rExtend:V→List V→Hp→VK→Prop:=fun x vs H Q=>∃ l b xs zs,x=.ref l∧vs=[.ref b]∧H l=some (.lst xs)∧H b=some (.lst zs)∧xs.length+zs.length≤sizeLine∧Q .non (upd H l (.lst (xs++zs)))
theorem mt_extend:MtM X "list.extend" rExtend:=by
 intro pins s σ H x vs v us Q I rx rv h
 obtain ⟨l,b,xs,zs,rfl,rfl,hH,hB,hz,q⟩:=h
 cases rx
 obtain ⟨u,rfl,ru⟩:=rv.one
 cases ru
 obtain ⟨z,its,n,r,hl,e⟩:=I.lstM hH
 obtain ⟨z2,its2,n2,r2,hl2,e2⟩:=I.lstM hB
 have hsz:its.toArray.size+its2.toArray.size≤sizeLine:=by rw [List.size_toArray,List.size_toArray];omega
 have hlong:¬(!its.toArray.isEmpty&&Builtin.List.listTooLong (its.toArray.size+its2.toArray.size))=true:=by
  rw [notLongL hsz,Bool.and_false]
  exact Bool.false_ne_true
 refine call_meets F.slot_list_extend ⟨_,e,rfl⟩ F.entry_list_extend (F.args_list_extend_2 _ _)
  (AutoSeq1.list_extend_list_list_0 l its.toArray n b its2.toArray n2 hlong (by rw [List.size_toArray];omega) (by omega)) ⟨e,e2,?_⟩
 refine ⟨.non,_,I.lset (its':=its++its2) hH e (by simp) (r.append r2) ?_,rfl,q⟩
 rw [List.length_append]
 omega
def rReverse:V→List V→Hp→VK→Prop:=fun x vs H Q=>∃ l xs,x=.ref l∧vs=[]∧H l=some (.lst xs)∧Q .non (upd H l (.lst xs.reverse))
theorem mt_reverse:MtM X "list.reverse" rReverse:=by
 intro pins s σ H x vs v us Q I rx rv h
 obtain ⟨l,xs,rfl,rfl,hH,q⟩:=h
 cases rx
 have hus:=rv.zero
 subst hus
 obtain ⟨z,its,n,r,hl,e⟩:=I.lstM hH
 refine call_meets F.slot_list_reverse ⟨_,e,rfl⟩ F.entry_list_reverse (F.args_list_reverse_1 _) (AutoSeq1.list_reverse_list_0 l its.toArray n (by rw [List.size_toArray];omega)) ⟨e,?_⟩
 refine ⟨.non,_,I.lset (its':=its.reverse) hH e (by simp) r.reverse ?_,rfl,q⟩
 rw [List.length_reverse]
 omega
def rCat:R2:=fun x y H Q=>∃ l b xs zs,x=.ref l∧y=.ref b∧H l=some (.lst xs)∧H b=some (.lst zs)∧xs.length+zs.length≤sizeLine∧∀ p,H p=none→Q (.ref p) (upd H p (.lst (xs++zs)))
theorem op_cat:OpR X (binaryOp .Add) rCat:=by
 intro pins s σ H x y v u Q I rx ry h
 obtain ⟨l,b,xs,zs,rfl,rfl,hH,hB,hz,q⟩:=h
 cases rx
 cases ry
 obtain ⟨z,its,n,r,hl,e⟩:=I.lstM hH
 obtain ⟨z2,its2,n2,r2,hl2,e2⟩:=I.lstM hB
 refine PySem.P.add_list e e2 ?_ (by rw [List.size_toArray,List.size_toArray];omega)
 have ea:its.toArray++its2.toArray=(its++its2).toArray:=by simp
 rw [ea]
 exact ⟨.ref _,_,I.lnew (t':=s.toks) (r.append r2) (by rw [List.length_append];omega),rfl,q _ I.fresh⟩
theorem len_rep {α:Type} (xs:List α) (k:Nat):(List.replicate k xs).flatten.length=k * xs.length:=by
 induction k with
 | zero=>simp
 | succ k ih=>rw [List.replicate_succ,List.flatten_cons,List.length_append,ih,Nat.succ_mul,Nat.add_comm]
end
section
variable {prog:Program}{w:World}{A:Around}{E:Value→Shared→Prop}{s:Shared}
set_option maxRecDepth 100000 in
end
section
variable {X:Cx}
end
end L2
namespace Att
open PySem PySem.W PySem.Calls PyProof.Rows
theorem ints_of_wellAll {P:Params}{h:Heap}:∀ (ns:List Int) (vs:List Value),WellAll P h vs (ns.map WData.int)→IntsAre vs ns:=by
 intro ns
 induction ns with
 | nil =>
  intro vs w
  rw [List.map_nil] at w
  cases w
  exact .nil
 | cons n ns ih =>
  intro vs w
  rw [List.map_cons] at w
  cases w with
  | cons a b =>
   cases a
   exact .cons _ _ (ih _ b)
theorem script_of {l:OpenLaw}{n:Nat} (hn:l.most=some n) {P:Params}{h:Heap}{args:List WData}{vals:List Value}
  (hpre:l.row.toRowW.claim.pre args=true) (hwl:WellAll P h vals args) :
  ∃ a vs ns,vals=[Value.ref a]∧args=[WData.list (ns.map WData.int)]∧h.get? a=some { cls:=.type "list",data:=.seq vs.toArray }∧IntsAre vs ns∧ns.length≤n:=by
 have hsh:WShape.hasAll [] args [.list .int]=true:=(pre_splitW hpre).1
 have hc:l.pre.holds [] { args:=args }=true:=(pre_splitW hpre).2
 obtain ⟨d,r,rfl,h1,h2⟩:=hasAllW_cons hsh
 obtain rfl:=hasAllW_nil h2
 obtain ⟨xs,rfl,h3⟩:=hasW_list h1
 obtain ⟨ns,rfl⟩:=items_int h3
 have hlen:ns.length≤n:=by
  unfold OpenLaw.pre at hc
  have h4:(WTm.not (.lt (.lit (.int (n:Int))) (.len (.arg 0)))).holds [] { args:=[.list (ns.map .int)] }=true:=by
   have h4:=(holds_andW hc).1
   rw [hn] at h4
   exact h4
  have h5:=condW_of h4 (w_not (w_lt w_lit (w_len_list (w_arg rfl))))
  rw [List.length_map] at h5
  refine Nat.le_of_not_lt fun q=>?_
  have q':(n:Int) < ((ns.length:Nat):Int):=by omega
  first
   | (rw [decide_eq_true q'] at h5;exact absurd h5 (by decide))
   | (simp at h5;omega)
 cases hwl with
 | cons w1 w2 =>
  cases w2
  cases w1 with
  | list ho hall=>exact ⟨_,_,ns,rfl,rfl,ho,ints_of_wellAll ns _ hall,hlen⟩
theorem post_true (l:OpenLaw) (args:List WData):l.row.toRowW.claim.post args (.bool true) args=true :=
 postW_of (r:=l.row.toRowW) (X:=(true == true))
  (show WShape.has [] (.bool true) .bool=true by first | rfl | decide | simp [WShape.has,WShape.arms,WShape.armsAll])
  (show (WTm.eq .res (.lit (.bool true))).value [] { args:=args,res:=some (.bool true),after:=args }=some (.bool (true == true)) from w_eq_bool (w_res rfl) w_lit) rfl
theorem attach_call {l:OpenLaw}{n:Nat}{q:Program}{loose:List Str}{XP:(Str→Option Value)→Heap→Prop}{YP:World→Heap→Prop}{d:DefRec}
  (hn:l.most=some n) (hdf:d.params.defaults=[])
  (call:∀ (w:World) (s₀ s₁:Shared) (mg mb:Str→Option Value) (fa:Addr) (o:Obj) (pm cd doc:Value) (a:Addr) (vs:List Value) (ns:List Int),
   Ground q loose [] XP w s₀ mg mb s₁.heap→YP w s₁.heap →
   s₁.heap.get? fa=some o→o.data=.func (docDef d.name d.params d.body d.scope pm cd doc)→s₁.heap.CodeRec cd d.name→mg d.name=some (.ref fa) →
   s₁.heap.get? a=some { cls:=.type "list",data:=.seq vs.toArray }→IntsAre vs ns→ns.length≤n→s₁.gens=#[] →
   codeAny (model l.prog w) callerA (.call (.ref fa) ⟨[.ref a],[]⟩) (fun r s'=>r=.ok (.ret (.bool true))∧OldK s₁.heap s'.heap∧s'.os=s₁.os∧AllBare s'.gens) s₁) :
  WalkO q loose XP YP l.row.toRowW d [] (fun f vs=>PySem.call f vs):=by
 intro w s₀ s₁ mg mb G Y fa o pm cd doc dV kV ho hd hcd hD hmg hg args vals as hpre hlay hrd hwl hlo
 obtain rfl:dV=.none:=Dflts.none hD hdf
 obtain rfl:kV=.none:=Dflts.noKw hD
 obtain ⟨a,vs,ns,rfl,rfl,hobj,hints,hlen⟩:=script_of hn hpre hwl
 refine enter_call (codeAny_mono (call w s₀ s₁ mg mb fa o pm cd doc a vs ns G Y ho (fd_plain hd) hcd hmg hobj hints hlen hg) fun r s' hq=>?_)
 obtain ⟨rfl,h2,h3,h4⟩:=hq
 exact ⟨.inl ⟨.bool true,.bool true,[],rfl,fun _=>rfl,.bool true,post_true l _,fun _=>⟨List.Pairwise.nil,fun _ hm=>(nomatch hm)⟩⟩,h2,h3,h4⟩
section
variable {prog:Program}{w:World}{A:Around}{E:Value→Shared→Prop}{s:Shared}{K:Frag}
end
end Att
namespace L2
open PySem PySem.Spec PyProof.Rows
theorem vals_ints:∀ {vs:List Value}{ns:List Int},IntsAre vs ns→Vals (ns.map V.int) vs
 | _,_,.nil=>.nil
 | _,_,.cons n t h=>.cons ⟨t,rfl⟩ (vals_ints h)
end L2
namespace L2
open PySem PySem.Spec PyProof.Rows
end L2
namespace L2
open PySem PySem.Spec PyProof.Rows
def defArgs (s:Stmt):Arguments:=match s with
 | .FunctionDef _ a _ _ _ _ _ _ _ _=>a
 | _=>{ posonlyargs:=[],args:=[],vararg:=none,kwonlyargs:=[],kw_defaults:=[],kwarg:=none,defaults:=[] }
def defBody (s:Stmt):List Stmt:=match s with
 | .FunctionDef _ _ b _ _ _ _ _ _ _=>b
 | _=>[]
def defScope (s:Stmt):Scope:=match s with
 | .FunctionDef _ _ _ _ _ _ sc _ _ _=>sc
 | _=>{ kind:=.function,names:=[],isGenerator:=false,isCoroutine:=false }
abbrev CX0:CXT:=fun _ _ _ _ _ _=>False
abbrev E0:XK:=fun _ _ _=>False
theorem pass0 {X:Cx}:Passes CX0 X E0:=fun _ _ _ _ _ _ _ h=>h.elim
structure Fun (K:PySem.W.Frag) (x qual:Str) (st:Stmt) (f:Addr) (fd:FuncData):Prop where
 ex:∃ (oc:Value) (od:Option Addr) (kV doc pm:Value) (an:Option Addr) (cdv ct:Value) (osl:Array (Option Value)),
  fd=PySem.W.fnOf x qual (defArgs st) (defBody st) (defScope st) .none kV doc pm an cdv ct∧K.lookup f=some ⟨oc,od,.func fd,osl⟩∧PySem.W.codeIn K cdv qual=true
 kp:PySem.W.keepIn K (.ref f)=true
section
variable {P:Program}{w:World}{K:PySem.W.Frag}{mg:Str→Option Value}{base:Heap}
theorem Fun.ok {x qual:Str}{st:Stmt}{f:Addr}{fd:FuncData}{N ps:List Str}{k:Nat}{sp:Sp} (F:Fun K x qual st f fd) (S:FnScope N ps (defScope st)) (len:∀ vs H Q E,sp vs H Q E→vs.length=ps.length)
  (hbody:∀ (cdv:Value) (A:Around) (outer:List Env) (s:Shared) (H:Hp) (vs:List V) (Q:VK) (E:XK),Room k (A.deeper (envOfC qual (defScope st) s.heap.objs.size f cdv))→sp vs H Q E →
   ∃ t,PSs (cxOf CX0 P w K mg base N qual (defScope st) f cdv A outer s H E).nox (defBody st) t∧t { nx:=fun _ H'=>Q .non H',rt:=Q } (start N vs) H):FnOk P w K mg base CX0 (k+1) f fd ps sp:=by
 obtain ⟨oc,od,kV,doc,pm,an,cdv,ct,osl,rfl,lk,hcd⟩:=F.ex
 refine fn_of lk hcd S len fun A outer s H vs Q E hr hsp=>?_
 obtain ⟨t,h,q⟩:=hbody cdv A outer s H vs Q E hr hsp
 exact ⟨t,h.nox,q⟩
theorem Fun.binds {x qual:Str}{st:Stmt}{f:Addr}{fd:FuncData}{ps:List Str} (F:Fun K x qual st f fd)
  (h:∀ (kV doc pm:Value) (an:Option Addr) (cdv ct:Value) (us:List Value),us.length=ps.length→bindArgs (PySem.W.fnOf x qual (defArgs st) (defBody st) (defScope st) .none kV doc pm an cdv ct) ⟨us,[]⟩=pure (ps.zip us)):Binds K fd ps []:=by
 obtain ⟨oc,od,kV,doc,pm,an,cdv,ct,osl,rfl,lk,hcd⟩:=F.ex
 exact .all (h kV doc pm an cdv ct)
theorem fun_mk {x qual:Str}{st:Stmt}{f:Addr}{oc:Value}{od an:Option Addr}{osl:Array (Option Value)}{kV doc pm cdv ct:Value} (l:K.lookup f=some ⟨oc,od,.func (PySem.W.fnOf x qual (defArgs st) (defBody st) (defScope st) .none kV doc pm an cdv ct),osl⟩)
  (c:PySem.W.codeIn K cdv qual=true) (k:PySem.W.keepIn K (.ref f)=true):Fun K x qual st f (PySem.W.fnOf x qual (defArgs st) (defBody st) (defScope st) .none kV doc pm an cdv ct):=⟨⟨oc,od,kV,doc,pm,an,cdv,ct,osl,rfl,l,c⟩,k⟩
end
theorem small1000 {n:Nat} (h:n≤1000):n < sizeLine:=Nat.lt_of_le_of_lt h (by decide)
section
variable {X:Cx}
theorem pv (i:Nat) {x:Str}{pos:Pos} (hN:X.N[i]? = some x:=by rfl) (hv:Vis X.env.scope x:=by first | exact Or.inl rfl | exact Or.inr (Or.inl rfl) | exact Or.inr (Or.inr rfl)) (hd:(x == ("__debug__" : Str))=false:=by decide)
  (hcd:(x == ("__classdict__" : Str))=false:=by decide):PE X (.Name x pos) (tVar i):=pe_var hN hv hd hcd
end
theorem iteF {A B:Prop} (h:B):if false=true then A else B:=by
 rw [if_neg Bool.false_ne_true]
 exact h
theorem iteT {A B:Prop} (h:A):if true=true then A else B:=by
 rw [if_pos rfl]
 exact h
theorem ite2 {c A B:Prop} [Decidable c] (h1:c→A) (h2:¬c→B):if c then A else B:=by
 by_cases h:c
 ·rw [if_pos h]
  exact h1 h
 ·rw [if_neg h]
  exact h2 h
def Same (H H':Hp):Prop:=∀ b o,H b=some o→H' b=some o
theorem zl {n:Nat} (h:Nat.ble n 1000=true:=by rfl):n≤sizeLine:=Nat.le_trans (Nat.le_of_ble_eq_true h) (by decide)
theorem hm {j k:Nat}{A:Around} (h:Room k A) (e:j≤k:=by decide):Room j A:=h.mono e
theorem Same.refl (H:Hp):Same H H:=fun _ _ h=>h
theorem Same.trans {H H1 H2:Hp} (a:Same H H1) (b:Same H1 H2):Same H H2:=fun c o h=>b c o (a c o h)
theorem Same.free {H H':Hp} (e:Same H H') {l:Addr} (h:H' l=Option.none):H l=Option.none:=by
 cases q:H l with
 | none=>rfl
 | some o =>
  rw [e l o q] at h
  cases h
theorem Same.seq {K:PySem.W.Frag}{H H':Hp}{a:Addr}{xs:List V} (e:Same H H') (h:SqL K H a xs):SqL K H' a xs:=by
 rcases h with (h | ⟨o,h⟩) | h
 ·exact .inl (.inl (e _ _ h))
 ·exact .inl (.inr ⟨o,e _ _ h⟩)
 ·exact .inr h
end L2
namespace L2
open PySem PySem.Spec PyProof.Rows
def closOf (cells:List (Str×Addr)):List (Str×NameKind)→List (Str×Addr)→List (Str×Addr)
 | [],cs=>cs
 | (n,k) :: r,cs=>closOf cells r (if (k == .free)=true then (match cells.lookup n with | some a=>(n,a) :: cs | none=>cs) else cs)
theorem closOf_good {cells:List (Str×Addr)}:∀ (names:List (Str×NameKind)) (cs:List (Str×Addr)),(∀ x c,cs.lookup x=some c→cells.lookup x=some c) →
  ∀ x c,(closOf cells names cs).lookup x=some c→cells.lookup x=some c
 | [],_,h=>h
 | (n,k) :: r,cs,h=>by
  refine closOf_good r _ fun x c e=>?_
  split at e
  ·split at e
   ·rename_i a ha
    rw [List.lookup_cons] at e
    split at e
    ·rename_i hx
     have hx':x=n:=by simpa using hx
     subst hx'
     cases e
     exact ha
    ·exact h x c e
   ·exact h x c e
  ·exact h x c e
theorem closOf_keep {cells:List (Str×Addr)}:∀ (names:List (Str×NameKind)) (cs:List (Str×Addr)) (x:Str),(cs.lookup x).isSome=true→((closOf cells names cs).lookup x).isSome=true
 | [],_,_,h=>h
 | (n,k) :: r,cs,x,h=>by
  refine closOf_keep r _ x ?_
  split
  ·split
   ·rw [List.lookup_cons]
    split
    ·rfl
    ·exact h
   ·exact h
  ·exact h
theorem closOf_has {cells:List (Str×Addr)}:∀ (names:List (Str×NameKind)) (cs:List (Str×Addr)) (x:Str),(x,NameKind.free)∈names→(cells.lookup x).isSome=true→((closOf cells names cs).lookup x).isSome=true
 | [],_,_,h,_=>by cases h
 | (n,k) :: r,cs,x,h,hc=>by
  rcases List.mem_cons.mp h with e | h
  ·cases e
   refine closOf_keep r _ _ ?_
   obtain ⟨a,ha⟩:=Option.isSome_iff_exists.mp hc
   rw [if_pos (by rfl),ha]
   simp
  ·exact closOf_has r _ x h hc
theorem closureFor_eq {scope:Scope}{env:Env} (h:∀ x∈scope.names,x.2=.free→∃ c,env.cells.lookup x.1=some c):closureFor scope env=pure (closOf env.cells scope.names []):=by
 have key:∀ (l:List (Str×NameKind)) (cs:List (Str×Addr)),(∀ x∈l,x.2=.free→∃ c,env.cells.lookup x.1=some c) →
   (forIn l cs fun (x:Str×NameKind) (r:List (Str×Addr))=>(match x with | (name,kind)=>if (kind == NameKind.free)=true then (do let a ← cellOf env name;pure (ForInStep.yield ((name,a) :: r)):Sem (ForInStep (List (Str×Addr)))) else pure (ForInStep.yield r)))=(pure (closOf env.cells l cs):Sem (List (Str×Addr))):=by
  intro l
  induction l with
  | nil=>intro cs _;rfl
  | cons x r ih =>
   intro cs hx
   obtain ⟨n,k⟩:=x
   have ih':=fun cs=>ih cs fun y hy=>hx y (List.mem_cons_of_mem _ hy)
   rw [List.forIn_cons]
   unfold closOf
   by_cases hk:(k == NameKind.free)=true
   ·obtain ⟨c,hc⟩:=hx (n,k) List.mem_cons_self (by simpa using hk)
    dsimp only at hc
    simp only [hk,if_true,cellOf,hc]
    exact ih' _
   ·simp only [hk,Bool.false_eq_true,if_false]
    exact ih' _
 have e:=key scope.names [] h
 show (do let r ← forIn scope.names [] _;pure r)=_
 refine Eq.trans (congrArg (fun m:Sem (List (Str×Addr))=>m >>= fun r=>pure r) e) ?_
 rfl
theorem lookup_relabel {env:Env}:∀ {names:List (Str×NameKind)}{x:Str},(∀ y∈names,y.2≠NameKind.cell) →
  (names.map fun (n,k)=>if (k == NameKind.free&&env.scope.kind == .function&&env.kindOf n == some .cell) then (n,NameKind.cell) else (n,k)).lookup x=some .cell ∨
  (names.map fun (n,k)=>if (k == NameKind.free&&env.scope.kind == .function&&env.kindOf n == some .cell) then (n,NameKind.cell) else (n,k)).lookup x=some .free→names.lookup x=some .free
 | [],_,_,h=>by simp at h
 | (n,k) :: r,x,hn,h=>by
  have ih:=@lookup_relabel env r x fun y hy=>hn y (List.mem_cons_of_mem _ hy)
  have hk:k≠NameKind.cell:=hn (n,k) List.mem_cons_self
  by_cases hx:(x == n)=true
  ·simp only [List.map_cons,List.lookup_cons] at h ⊢
   simp only [hx]
   by_cases hc:(k == NameKind.free&&env.scope.kind == .function&&env.kindOf n == some .cell)=true
   ·have:k=NameKind.free:=by
     simp only [Bool.and_eq_true] at hc
     simpa using hc.1.1
    rw [this]
   ·simp only [hc,List.lookup_cons,Bool.false_eq_true,if_false,hx] at h
    rcases h with h | h
    ·exact absurd (Option.some.inj h) hk
    ·exact h
  ·have hx':(x == n)=false:=by simpa using hx
   simp only [List.map_cons,List.lookup_cons] at h ⊢
   simp only [hx']
   refine ih ?_
   by_cases hc:(k == NameKind.free&&env.scope.kind == .function&&env.kindOf n == some .cell)=true
   ·simpa only [hc,List.lookup_cons,if_true,hx'] using h
   ·simpa only [hc,List.lookup_cons,Bool.false_eq_true,if_false,hx'] using h
theorem lookup_relabel_free {env:Env}:∀ {names:List (Str×NameKind)}{x:Str},names.lookup x=some .free →
  (names.map fun (n,k)=>if (k == NameKind.free&&env.scope.kind == .function&&env.kindOf n == some .cell) then (n,NameKind.cell) else (n,k)).lookup x=some .cell ∨
  (names.map fun (n,k)=>if (k == NameKind.free&&env.scope.kind == .function&&env.kindOf n == some .cell) then (n,NameKind.cell) else (n,k)).lookup x=some .free
 | [],_,h=>by simp at h
 | (n,k) :: r,x,h=>by
  have ih:=@lookup_relabel_free env r x
  by_cases hx:(x == n)=true
  ·simp only [List.lookup_cons,hx] at h
   simp only [List.map_cons,List.lookup_cons]
   by_cases hc:(k == NameKind.free&&env.scope.kind == .function&&env.kindOf n == some .cell)=true
   ·simp only [hc,List.lookup_cons,if_true,hx]
    exact .inl trivial
   ·simp only [hc,List.lookup_cons,Bool.false_eq_true,if_false,hx]
    exact .inr h
  ·have hx':(x == n)=false:=by simpa using hx
   simp only [List.lookup_cons,hx'] at h
   simp only [List.map_cons,List.lookup_cons]
   by_cases hc:(k == NameKind.free&&env.scope.kind == .function&&env.kindOf n == some .cell)=true
   ·simp only [hc,List.lookup_cons,if_true,hx']
    exact ih h
   ·simp only [hc,List.lookup_cons,Bool.false_eq_true,if_false,hx']
    exact ih h
abbrev compCx (X:Cx) (scope:Scope) (N:List Str) (C:Addr) (s₃:Shared) (H₃:Hp) (fp:List Addr):Cx where
 prog:=X.prog
 w:=X.w
 K:=X.K
 mg:=X.mg
 base:=X.base
 A:=X.A
 N:=N
 s₀:=s₃
 H₀:=H₃
 env:=compEnvC scope (closOf X.env.cells scope.names []) C X.env
 outer:=X.stack
 stack:=X.stack
 ex:=fp
 fn:=fun _=>false
 calm:=X.calm
 pn:=[]
 xe:=fun _ _=>False
def cst (js:List (Option Nat)) (σ:St):St:=js.map fun j=>match j with
 | none=>none
 | some k=>σ.getD k none
def jsOk (M:List Str) (names:List (Str×NameKind)):List Str→List (Option Nat)→Bool
 | [],[]=>true
 | x :: N,j :: js=>(match j with
  | none=>true
  | some k=>M[k]? == some x&&names.lookup x == some .free)&&jsOk M names N js
 | _,_=>false
theorem jsOk_length {M:List Str}{names:List (Str×NameKind)}:∀ {N:List Str}{js:List (Option Nat)},jsOk M names N js=true→js.length=N.length
 | [],[],_=>rfl
 | x :: N,j :: js,h=>by
  unfold jsOk at h
  rw [Bool.and_eq_true] at h
  simp [jsOk_length h.2]
 | [],_ :: _,h=>by cases h
 | _ :: _,[],h=>by cases h
theorem jsOk_get {M:List Str}{names:List (Str×NameKind)}:∀ {N:List Str}{js:List (Option Nat)},jsOk M names N js=true→∀ (i:Nat) (k:Nat) (x:Str),js[i]? = some (some k)→N[i]? = some x→M[k]? = some x∧names.lookup x=some .free
 | [],[],_=>fun i k x e _=>by simp at e
 | y :: N,j :: js,h=>fun i k x e1 e2=>by
  unfold jsOk at h
  rw [Bool.and_eq_true] at h
  cases i with
  | zero =>
   simp at e1 e2
   subst e1
   subst e2
   have h1:=h.1
   simp only [Bool.and_eq_true] at h1
   exact ⟨by simpa using h1.1,by simpa using h1.2⟩
  | succ i=>exact jsOk_get h.2 i k x (by simpa using e1) (by simpa using e2)
 | [],_ :: _,h=>by cases h
 | _ :: _,[],h=>by cases h
def compOk (M:List Str) (around scope:Scope) (N:List Str) (js:List (Option Nat)):Bool :=
 (scope.kind == .function)&&(scope.names.all fun x=>!(x.2 == .cell))&&(scope.names.all fun x=>!(x.2 == .local)||scope.names.lookup x.1 == some .local) &&
 (scope.names.all fun x=>!(x.2 == .free)||(around.names.lookup x.1 == some .cell||around.names.lookup x.1 == some .free))&&jsOk M scope.names N js
structure CompOk (M:List Str) (around scope:Scope) (N:List Str) (js:List (Option Nat)):Prop where
 kind:scope.kind=.function
 nocell:∀ x∈scope.names,x.2≠.cell
 locs:∀ x∈scope.names,x.2=.local→scope.names.lookup x.1=some .local
 frees:∀ x∈scope.names,x.2=.free→around.names.lookup x.1=some .cell∨around.names.lookup x.1=some .free
 js:jsOk M scope.names N js=true
theorem CompOk.of {M:List Str}{around scope:Scope}{N:List Str}{js:List (Option Nat)} (h:compOk M around scope N js=true):CompOk M around scope N js:=by
 unfold compOk at h
 simp only [Bool.and_eq_true,List.all_eq_true] at h
 obtain ⟨⟨⟨⟨h1,h2⟩,h3⟩,h4⟩,h5⟩:=h
 refine ⟨by simpa using h1,fun x hx e=>?_,fun x hx e=>?_,fun x hx e=>?_,h5⟩
 ·have:=h2 x hx
  rw [e] at this
  cases this
 ·have:=h3 x hx
  rw [e] at this
  simpa using this
 ·have:=h4 x hx
  rw [e] at this
  simpa using this
def Ext (σ σ':St):Prop:=σ.length=σ'.length∧∀ (i:Nat) v,σ[i]? = some (some v)→σ'[i]? = some (some v)
theorem Ext.set {σ:St}{i:Nat}{v:V} (h:σ[i]? = some none):Ext σ (σ.set i (some v)):=by
 refine ⟨by simp,fun j w e=>?_⟩
 by_cases hj:i=j
 ·subst hj
  rw [h] at e
  cases e
 ·rw [List.getElem?_set_ne hj]
  exact e
def PTs (X:Cx) (ifs:List Expr) (t:TT):Prop :=
 ∀ (pins:List (Addr×Obj)) (s:Shared) (σ:St) (H:Hp) (Q:Bool→Hp→Prop),Inv X pins σ H s→t σ H Q →
  wpAny (model X.prog X.w) X.A (forIn ifs true fun c r=>if r=true then do let ok ← isTrue c X.env (eval c X.env);pure (ForInStep.yield ok) else pure (ForInStep.yield r)) (TP X pins σ Q) X.xe s
def tYes:TT:=fun _ H Q=>Q true H
theorem pts_nil {X:Cx}:PTs X [] tYes:=fun _ _ _ H _ I h=>wpAny_pure ⟨H,I,h⟩
theorem pts_one {X:Cx}{c:Expr}{t:TT} (h:PT X c t):PTs X [c] t:=fun pins s σ H Q I hw=>by
 simp only [List.forIn_cons,List.forIn_nil,if_true]
 exact wpAny_bind (wpAny_bind (wpAny_mono (h pins s σ H Q I hw) (fun b s' hb=>wpAny_pure (wpAny_pure hb)) fun _ _ x=>x))
def tBlock (js:List (Option Nat)) (g:TG) (tc:TT) (te:TE) (σ:St) (R:VK) (J:It) (H1:Hp):Prop:=∀ D,H1 D=none→∃ W:Nat→Nat→List V→Hp→Prop,(∃ m,W 0 m [] (upd H1 D (.lst []))) ∧
 ∀ i m ys H2,W i m ys H2→H2 D=some (.lst ys)→(J.stop i H2∧R (.ref D) H2)∨(J.go i H2∧∀ x H3,J.yld i H2 x H3→g x (cst js σ) H3 fun σ2 H4=>Ext (cst js σ) σ2∧tc σ2 H4 fun c H5 =>
  if c=true then te σ2 H5 fun y H6=>H6 D=some (.lst ys)∧ys.length < sizeLine∧∃ m',m' < m∧W (i+1) m' (ys++[y]) (upd H6 D (.lst (ys++[y]))) else H5 D=some (.lst ys)∧∃ m',m' < m∧W (i+1) m' ys H5)
def tComp (js:List (Option Nat)) (wi:TI) (g:TG) (tc:TT) (te:TE):TE:=fun σ H Q=>wi σ H fun J H1=>tBlock js g tc te σ Q J H1
section
variable {prog:Program}{w:World}{A:Around}{R:Result→Shared→Prop}{s:Shared}
theorem codeAny_compLoop_go {elt target iter:Expr}{ifs:List Expr}{scope:Scope}{pos:Pos}{it acc:Value}{env:Env} (I:Nat→Shared→Prop)
  (turn:∀ n s,I n s→wpAny (model prog w) A (pyNext it) (fun r s₁=>match r with
   | none=>R (.ok .next) s₁
   | some v=>wpAny (model prog w) A (letOwnedTupleGo target it v) (fun _ s₁'=>wpAny (model prog w) A (assign target env v) (fun _ s₂ =>
     wpAny (model prog w) A (forIn ifs true fun c r=>if r=true then do let ok ← isTrue c env (eval c env);pure (ForInStep.yield ok) else pure (ForInStep.yield r)) (fun ok s₃ =>
      if ok=true then wpAny (model prog w) A (eval elt env) (fun x s₄ =>
       wpAny (model prog w) A (call (.builtin "list.append") [acc,x]) (fun _ s₅=>∃ m,m < n∧I m s₅) (fun _ _=>False) s₄) (fun _ _=>False) s₃
      else ∃ m,m < n∧I m s₃) (fun _ _=>False) s₂) (fun _ _=>False) s₁') (fun _ _=>False) s₁) (fun _ _=>False) s)
  (n:Nat) (h:I n s) :
  codeAny (model prog w) A (.compLoop (.ListComp elt [⟨target,iter,ifs,0⟩] scope pos) 0 it acc env) R s:=by
 refine codeAny_loop rfl I (fun n s hI=>?_) n h
 show wpAny _ A ((compTurn (.ListComp elt [⟨target,iter,ifs,0⟩] scope pos) 0 it acc env).onRaise (fun x=>do noteFrame x env;theTreesLotGoes x)) _ _ s
 refine wpAny_noted ?_
 rw [compTurn_list]
 have up:∀ {α:Type}{t:Sem α}{Q:α→Shared→Prop}{s:Shared},wpAny (model prog w) A t Q (fun _ _=>False) s →
   wpAny (model prog w) A t Q (notedBy (model prog w) A env fun e s'=>R (.error e) s') s:=fun h=>wpAny_mono h (fun _ _ x=>x) fun _ _ z=>False.elim z
 refine wpAny_bind (wpAny_standAt (wpAny_bind (wpAny_mono (up (turn n s hI)) (fun r s₁ h₁=>?_) fun _ _ h'=>h')))
 cases r with
 | none=>exact wpAny_pure h₁
 | some v =>
  refine wpAny_bind (wpAny_mono (up h₁) (fun _ s₁' h₁'=>?_) fun _ _ h'=>h')
  refine wpAny_bind (wpAny_mono (up h₁') (fun _ s₂ h₂=>wpAny_bind (wpAny_mono (up h₂) (fun ok s₃ h₃=>?_) fun _ _ h'=>h')) fun _ _ h'=>h')
  cases ok with
  | false=>exact wpAny_pure ⟨rfl,h₃⟩
  | true =>
   exact wpAny_bind (wpAny_bind (wpAny_mono (up h₃) (fun x s₄ h₄=>wpAny_bind (wpAny_mono (up h₄) (fun _ s₅ h₅=>wpAny_pure (wpAny_pure ⟨rfl,h₅⟩)) fun _ _ h'=>h')) fun _ _ h'=>h'))
end
section
variable {X:Cx}{elt iter tg:Expr}{ifs:List Expr}{scope:Scope}{pos cpos:Pos}{N:List Str}{js:List (Option Nat)}{wi:TI}{g:TG}{tc:TT}{te:TE}
theorem comp_run {use:Option (Value→Sem Unit)} (hok:CompOk X.N X.env.scope scope N js) (hc:X.calm=true) (hi:PI X tg iter wi)
  (hg:∀ C s₃ H₃ fp,PG (compCx X scope N C s₃ H₃ fp) tg g) (ht:∀ C s₃ H₃ fp,PTs (compCx X scope N C s₃ H₃ fp) ifs tc) (he:∀ C s₃ H₃ fp,PE (compCx X scope N C s₃ H₃ fp) elt te)
  {pins:List (Addr×Obj)}{s:Shared}{σ:St}{H:Hp}{R:VK}{Q:Value→Shared→Prop} (I:Inv X pins σ H s) (h:tComp js wi g tc te σ H R)
  (hend:∀ C D s' H',Inv X pins σ H' s'→R (.ref D) H'→(∃ m,s'.heap.Ns C m)→FpOk X pins H' C→compPost (model X.prog X.w) X.A X.xe use Q (.ref D) C (.ok .next) s')
  (hs:∀ x,foldedSetIterable iter X.env x=pure x:=by intro _;rfl) :
  wpAny (model X.prog X.w) X.A (comprehension (.ListComp elt [⟨tg,iter,ifs,0⟩] scope pos) scope X.env cpos (newList []) false (eval iter X.env) use) Q X.xe s:=by
 have hcells:∀ x∈scope.names,x.2=.free→∃ c,X.env.cells.lookup x.1=some c:=fun x hx e=>I.ok.has x.1 (hok.frees x hx e)
 refine wpAny_comprehension_free (use:=use) rfl hs (closureFor_eq hcells) hok.kind hok.locs ?_
 refine thn (hi pins s σ H _ I h) fun xv s1 h1=>thn h1 fun itv s2 h2=>?_
 obtain ⟨it,fp,tn,J,H2,e,I2,T,st2,f2,hR⟩:=h2
 subst e
 refine wpAny_newObj_type ?_
 obtain ⟨W,⟨m0,w0⟩,turn⟩:=hR s2.heap.objs.size I2.fresh
 have I3:Inv X pins σ (upd H2 s2.heap.objs.size (.lst [])) { s2 with heap:=s2.heap.push { cls:=.type "list",dict:=none,data:=.seq ([]:List Value).toArray } }:=I2.lnew (t':=s2.toks) .nil (Nat.zero_le _)
 have lt2:∀ b∈fp,b < s2.heap.objs.size:=fun b hb=>by
  obtain ⟨o,ho,_⟩:=T.obj _ _ st2 b hb
  exact Heap.lt_size ho
 have st3:tn 0 (s2.heap.push { cls:=.type "list",dict:=none,data:=.seq ([]:List Value).toArray }):=T.keep _ _ _ st2 fun b _ o e=>Heap.get?_push_of_some _ e
 have lt3:∀ b∈fp,b < (s2.heap.push { cls:=.type "list",dict:=none,data:=.seq ([]:List Value).toArray }).objs.size:=fun b hb=>by
  rw [Heap.size_push]
  exact Nat.lt_succ_of_lt (lt2 b hb)
 have fr3:∀ b∈fp,upd H2 s2.heap.objs.size (.lst []) b=none:=fun b hb=>by
  rw [upd_ne (Nat.ne_of_lt (lt2 b hb))]
  exact (f2 b hb).1
 have hD3:upd H2 s2.heap.objs.size (.lst []) s2.heap.objs.size=some (.lst []):=upd_same
 generalize hs3:({ s2 with heap:=s2.heap.push { cls:=.type "list",dict:=none,data:=.seq ([]:List Value).toArray } }:Shared)=s3 at I3 ⊢
 have eh3:s3.heap=s2.heap.push { cls:=.type "list",dict:=none,data:=.seq ([]:List Value).toArray }:=by rw [← hs3]
 rw [← eh3] at st3 lt3
 generalize upd H2 s2.heap.objs.size (.lst [])=H3 at I3 w0 fr3 hD3
 generalize s2.heap.objs.size=D at turn hD3 ⊢
 refine wpAny_newFunctionEnv hok.nocell (by intro y hy;simp at hy) (fun h4 ns4 sb4=>?_) hok.kind
 have old:∀ b o,s3.heap.get? b=some o→h4.get? b=some o:=fun b o e=>sb4.extBut b o (Nat.ne_of_lt (Heap.lt_size e)) (Heap.get?_push_of_some _ e)
 have good:=closOf_good (cells:=X.env.cells) scope.names [] (fun x c e=>by simp at e)
 have hasc:∀ x,scope.names.lookup x=some .free→∃ c,(closOf X.env.cells scope.names []).lookup x=some c:=fun x e=>by
  have hm:=PySem.mem_of_lookup e
  obtain ⟨c,hc⟩:=hcells _ hm rfl
  exact Option.isSome_iff_exists.mp (closOf_has scope.names [] x hm (by rw [hc];rfl))
 have I4:Inv (compCx X scope N s3.heap.objs.size s3 H3 fp) [] (cst js σ) H3 { s3 with heap:=h4,toks:=s3.toks+([]:List (Str×Value)).length }:=by
  refine ⟨⟨I3.mod,hok.kind,I3.ok.glob,I3.ok.blt,Nat.le_refl _,fun x y c e1 e2=>I3.ok.inj x y c (good x c e1) (good y c e2),fun x hx=>hasc x (lookup_relabel hok.nocell hx),(fun x c e=>by cases e),I3.ok.hd,I3.ok.frames,.inl rfl,fun b hb=>⟨Nat.ne_of_lt (lt3 b hb),fun x c e=>(f2 b hb).2.2.2.2.1 x c (good x c e)⟩,
    fun b o e=>I3.bs b o e,Nat.le_trans I3.ok.bsz I3.sz,fun b o e hb=>?_,fun b hb z=>?_,I3.stack,I3.stkFree⟩,
   rfl,I3.bare,Un.kept old,⟨_,ns4,fun i x v e1 e2 e3=>?_⟩,fun x c e=>?_,I3.fresh,fun x c e=>I3.freeC x c (good x c e),(fun p hp=>by cases hp),I3.hok.kept old,?_⟩
  ·rcases (f2 b hb).2.2.2.1 with z | z
   ·exact I3.ok.noex b o e z
   ·exact absurd (Nat.lt_of_lt_of_le (Heap.lt_size e) (Nat.le_trans I3.ok.bsz z)) (Nat.lt_irrefl _)
  ·rcases List.mem_cons.mp (I3.stkSub b z) with z | z
   ·exact (f2 b hb).2.1 z
   ·exact (f2 b hb).2.2.1 z
  ·have e2':(js.map fun j=>match j with | none=>(none:Option V) | some k=>σ.getD k none)[i]? = some (some v):=e2
   rw [List.getElem?_map] at e2'
   cases ej:js[i]? with
   | none=>rw [ej] at e2';cases e2'
   | some j =>
    rw [ej] at e2'
    cases j with
    | none=>cases e2'
    | some k =>
     have eσ:σ.getD k none=some v:=Option.some.inj e2'
     obtain ⟨hk,hfr⟩:=jsOk_get hok.js i k x ej e1
     have eσ':σ[k]? = some (some v):=by
      rw [List.getD_eq_getElem?_getD] at eσ
      cases ek:σ[k]? with
      | none=>rw [ek] at eσ;cases eσ
      | some o=>rw [ek] at eσ;simp at eσ;rw [eσ]
     have hvis:=hok.frees _ (PySem.mem_of_lookup hfr) rfl
     obtain ⟨m,hn,hl⟩:=I3.loc
     obtain ⟨u,r,l⟩:=hl k x v hk eσ' (.inr hvis)
     refine ⟨u,r,.inr ⟨lookup_relabel_free hfr,?_⟩⟩
     rcases l with ⟨l,_⟩ | ⟨_,c,ec,z⟩
     ·rcases hvis with q | q
      ·exact absurd (l.symm.trans q) (by decide)
      ·exact absurd (l.symm.trans q) (by decide)
     ·obtain ⟨c',ec'⟩:=hasc x hfr
      have:=good x c' ec'
      rw [ec] at this
      cases this
      exact ⟨c,ec',z.keeps old⟩
  ·obtain ⟨v,z⟩:=I3.cell x c (good x c e)
   exact ⟨v,z.keeps old⟩
  ·show (js.map _).length=N.length
   rw [List.length_map]
   exact jsOk_length hok.js
 have st4:tn 0 h4:=T.keep _ _ _ st3 fun b _ o e=>old b o e
 have stat:∀ {H':Hp},(∀ b∈fp,H' b=none)→∀ b∈fp,FpOk (compCx X scope N s3.heap.objs.size s3 H3 fp) [] H' b:=fun hn b hb =>
  ⟨hn b hb,Nat.ne_of_lt (lt3 b hb),fun z=>(List.mem_cons.mp (I3.stkSub b z)).elim (f2 b hb).2.1 (f2 b hb).2.2.1,.inl hb,fun x c e=>(f2 b hb).2.2.2.2.1 x c (good x c e),(fun p hp=>by cases hp)⟩
 have fin:∀ {i m:Nat}{ys:List V}{H5:Hp}{s6:Shared},Inv (compCx X scope N s3.heap.objs.size s3 H3 fp) [] (cst js σ) H5 s6→R (.ref D) H5→compPost (model X.prog X.w) X.A X.xe use Q (.ref D) s3.heap.objs.size (.ok .next) s6:=fun {i m ys H5 s6} I6 q=>by
  obtain ⟨m6,hn6,_⟩:=I6.loc
  refine hend _ _ _ H5 (I3.call' I6.os I6.base I6.hok I6.bare fun b hb=>⟨(f2 b hb).2.2.2.1,(f2 b hb).2.1,(f2 b hb).2.2.2.2.1,(f2 b hb).2.2.2.2.2⟩) q ⟨m6,hn6⟩ (I3.fpOk (Nat.le_refl _) I6.free)
 have loop:codeAny (model X.prog X.w) X.A (.compLoop (.ListComp elt [⟨tg,iter,ifs,0⟩] scope pos) 0 (.ref it) (.ref D) (compCx X scope N s3.heap.objs.size s3 H3 fp).env)
   (compPost (model X.prog X.w) X.A X.xe use Q (.ref D) s3.heap.objs.size) { s3 with heap:=h4,toks:=s3.toks+([]:List (Str×Value)).length }:=by
  refine codeAny_compLoop_go (fun n s'=>∃ i ys H',Inv (compCx X scope N s3.heap.objs.size s3 H3 fp) [] (cst js σ) H' s'∧tn i s'.heap∧(∀ b∈fp,H' b=none)∧H' D=some (.lst ys)∧W i n ys H') ?_ m0 ⟨0,[],H3,I4,st4,fr3,hD3,w0⟩
  rintro n s5 ⟨i,ys,H5,I5,st5,fr5,hD5,w5⟩
  rcases turn i n ys H5 w5 hD5 with ⟨stop,q⟩ | ⟨go,step⟩
  ·refine thn (T.done (compCx X scope N s3.heap.objs.size s3 H3 fp) rfl rfl rfl hc i [] s5 (cst js σ) H5 _ I5 (stat fr5) st5 stop) fun r s6 ⟨hr,I6⟩=>?_
   subst hr
   exact fin (i:=i) (m:=n) (ys:=ys) I6 q
  ·refine thn (T.item (compCx X scope N s3.heap.objs.size s3 H3 fp) rfl rfl rfl hc i [] s5 (cst js σ) H5 _ I5 (stat fr5) st5 go) fun r s6 ⟨u,hr,h6⟩=>?_
   subst hr
   refine thn h6 fun _ s7 ⟨x,H7,I7,r7,y7,st7,fr7⟩=>?_
   have I7':=I7.pinned (stat fr7) (T.obj _ _ st7)
   have again:∀ {σ8:St}{H8:Hp}{s8:Shared}{zs:List V},Ext (cst js σ) σ8→Inv (compCx X scope N s3.heap.objs.size s3 H3 fp) ([]++pinsAt fp s7.heap) σ8 H8 s8→H8 D=some (.lst zs)→(∃ m',m' < n∧W (i+1) m' zs H8) →
     ∃ m,m < n∧∃ i ys H',Inv (compCx X scope N s3.heap.objs.size s3 H3 fp) [] (cst js σ) H' s8∧tn i s8.heap∧(∀ b∈fp,H' b=none)∧H' D=some (.lst ys)∧W i m ys H':=fun {σ8 H8 s8 zs} ex I8 hD8 w8=>by
    obtain ⟨m',hm,w8⟩:=w8
    refine ⟨m',hm,i+1,zs,H8,I8.unpinned.weak ex.1 ex.2,T.keep _ _ _ st7 fun b hb o e=>(I8.pin (b,o) (List.mem_append_right _ (List.mem_append_right _ (mem_pinsAt hb e)))).1,fun b hb=>?_,hD8,w8⟩
    obtain ⟨o,e,d⟩:=T.obj _ _ st7 b hb
    exact (I8.pin (b,o) (List.mem_append_right _ (List.mem_append_right _ (mem_pinsAt hb e)))).2.1
   refine thn (hg _ _ _ _ _ s7 (cst js σ) H7 x u _ I7' r7 (step x H7 y7)) fun _ s8 ⟨σ8,H8,I8,ex8,q8⟩=>?_
   refine thn (ht _ _ _ _ _ s8 σ8 H8 _ I8 q8) fun c s9 ⟨H9,I9,q9⟩=>?_
   cases c with
   | false =>
    rw [if_neg (by decide)] at q9 ⊢
    exact again ex8 I9 q9.1 q9.2
   | true =>
    rw [if_pos rfl] at q9 ⊢
    refine thnE (he _ _ _ _ _ s9 σ8 H9 _ I9 q9) fun y s10 v10 H10 I10 r10 zz5=>?_
    obtain ⟨hD10,hz10,w10⟩:=zz5
    refine thn (mt_append _ s10 σ8 H10 (.ref D) [v10] (.ref D) [y] (fun _ H11=>H11=upd H10 D (.lst (ys++[v10]))) I10 rfl (.cons r10 .nil) ⟨D,ys,v10,rfl,rfl,hD10,hz10,rfl⟩) fun _ s11 ⟨_,H11,I11,_,e11⟩=>?_
    subst e11
    exact again ex8 I11 upd_same w10
 exact codeAny_compStart_list loop (T.self _ _ _ _ _ st4 loop)
theorem pe_comp (hok:compOk X.N X.env.scope scope N js=true) (hc:X.calm=true) (hi:PI X tg iter wi)
  (hg:∀ C s₃ H₃ fp,PG (compCx X scope N C s₃ H₃ fp) tg g) (ht:∀ C s₃ H₃ fp,PTs (compCx X scope N C s₃ H₃ fp) ifs tc) (he:∀ C s₃ H₃ fp,PE (compCx X scope N C s₃ H₃ fp) elt te)
  (hs:∀ x,foldedSetIterable iter X.env x=pure x:=by intro _;rfl):PE X (.ListComp elt [⟨tg,iter,ifs,0⟩] scope pos) (tComp js wi g tc te):=by
 intro pins s σ H Q I h
 rw [eval_ListComp]
 refine comp_run (use:=none) (R:=Q) (CompOk.of hok) hc hi hg ht he I h (fun C D s' H' I' q hn hf=>?_) hs
 obtain ⟨m,hn⟩:=hn
 refine ⟨m,hn,fun h' hs'=>⟨.ref D,H',?_,rfl,q⟩⟩
 exact I'.turned (t':=s'.toks) (it:=C) (fun b o hb e=>(hs'.2 b hb).trans e) hf.1 hf.2.1 hf.2.2.2.1 hf.2.2.2.2.1 hf.2.2.2.2.2
theorem ps_setC {i:Nat}{x:Str}{pos' spos:Pos} (hN:X.N.Nodup) (hx:X.N[i]? = some x) (hl:X.env.scope.names.lookup x=some .local) (hok:compOk X.N X.env.scope scope N js=true) (hc:X.calm=true) (hi:PI X tg iter wi)
  (hg:∀ C s₃ H₃ fp,PG (compCx X scope N C s₃ H₃ fp) tg g) (ht:∀ C s₃ H₃ fp,PTs (compCx X scope N C s₃ H₃ fp) ifs tc) (he:∀ C s₃ H₃ fp,PE (compCx X scope N C s₃ H₃ fp) elt te)
  (hsw:swapsWith (.ListComp elt [⟨tg,iter,ifs,0⟩] scope pos) (some (.Name x pos')) spos.line X.env=pure true:=by rfl) (hs:∀ x,foldedSetIterable iter X.env x=pure x:=by intro _;rfl) :
  PS X (.Assign [.Name x pos'] (.ListComp elt [⟨tg,iter,ifs,0⟩] scope pos) spos) (tAsg (tComp js wi g tc te) (gName i)):=by
 intro pins s σ H D I h
 rw [exec_Assign_Name_used _ _ _ _ hsw]
 refine wpAny_bind (wpAny_standAt (wpAny_bind ?_))
 have run:=comp_run (pos:=pos) (cpos:=firstIterPos [⟨tg,iter,ifs,0⟩] pos) (use:=some (assign (.Name x pos') X.env)) (R:=fun v H1=>D.nx (σ.set i (some v)) H1) (Q:=fun _ s'=>SP X pins D .next s') (CompOk.of hok) hc hi hg ht he I h (fun C L s' H' I' q hn hf=>?_) hs
 ·show wpAny _ X.A (do let _ ← comprehension (.ListComp elt [⟨tg,iter,ifs,0⟩] scope pos) scope X.env _ (newList []) false (eval iter X.env) (some (assign (.Name x pos') X.env))) _ _ s
  exact wpAny_bind (wpAny_mono run (fun _ s' hq=>wpAny_pure (wpAny_pure hq)) fun _ _ e=>e)
 ·obtain ⟨m,o,es,ep,ho,hd,hr⟩:=hn
  have I2:Inv X (pins++pinsAt [C] s'.heap) σ H' s':=I'.pinned (fp:=[C]) (fun b hb=>by rw [List.mem_singleton.mp hb];exact hf) (fun b hb=>by rw [List.mem_singleton.mp hb];exact ⟨o,ho,fun v z=>by rw [hd] at z;cases z⟩)
  refine wpAny_assign_Name (store_ok (v:=.ref L) I2 hN hx (.inl hl) rfl (fun s2 I3=>?_) (.inr hl))
  have hC:s2.heap.get? C=some o:=(I3.pin (C,o) (List.mem_append_right _ (List.mem_append_right _ (mem_pinsAt (List.mem_singleton.mpr rfl) ho)))).1
  refine ⟨m,⟨o,es,ep,hC,hd,hr⟩,fun h' hs'=>⟨_,H',?_,q⟩⟩
  exact I3.unpinned.turned (t':=s2.toks) (it:=C) (fun b o hb e=>(hs'.2 b hb).trans e) hf.1 hf.2.1 hf.2.2.2.1 hf.2.2.2.2.1 hf.2.2.2.2.2
end
end L2
namespace L2
open PySem PySem.Spec PyProof.Rows
section
variable {X:Cx}
theorem call_all (hc:X.calm=true):CallR X (.builtin "all") (fun xs H Q=>∃ (p:Addr) (bs:List Bool),xs=[.ref p]∧SqL X.K H p (bs.map V.bl)∧Q (.bl (bs.all id)) H):=by
 intro pins s σ H xs us Q I r h
 obtain ⟨p,bs,rfl,hq,q⟩:=h
 obtain ⟨u,rfl,rx⟩:=vals1 r
 cases rx
 obtain ⟨its,rv,pl,hz⟩:=I.list hq
 have hl:=pl.isList
 have hb:LSm.BoolsAre its bs:=by
  clear hz hq q hl pl I
  induction bs generalizing its with
  | nil=>cases rv;exact .nil
  | cons b bs ih =>
   cases rv with
   | cons r1 r2=>cases r1;exact .cons b (ih _ r2)
 have hlt:p < s.heap.objs.size:=by obtain ⟨_,e,_⟩:=hl;exact Heap.lt_size e
 refine call_all_walk (wpAny_pyIter_list hl ?_)
 refine ⟨s.heap.objs.size,[s.heap.objs.size,p],[s.heap.objs.size],its.toArray.size,_,_,fun i=>(bs[i]?).getD true,rfl,Walks.list (A:=X.A.in1) (I.ok.hd hc) _ p (Nat.ne_of_lt hlt) its.toArray,
  ⟨⟨_,Heap.get?_push_size _ rfl,rfl,rfl⟩,hl.push _⟩,fun i v s' Q' E' hP hQ=>?_,fun h' tk hk=>?_⟩
 ·obtain ⟨b,e,rfl⟩:=hb.get i v (by simpa using hP)
  simp only [e,Option.getD_some] at hQ
  exact wpAny_truthy_bool hQ
 ·have e:((List.range its.toArray.size).all fun i=>(bs[i]?).getD true)=bs.all id:=by
   rw [List.size_toArray,hb.length];exact LSm.range_all bs
  rw [e]
  exact ⟨.bl _,H,I.kept (t':=tk) (LSm.kept_iter hk),rfl,q⟩
theorem call_isinst:CallR X (.builtin "isinstance") (fun xs H Q=>∃ x T t b,xs=[x,.ty T]∧TyOf X.K H x t∧PySem.W.kitOne X.K t (.type T)=some b∧Q (.bl b) H):=by
 intro pins s σ H xs us Q I r h
 obtain ⟨x,T,t,b,rfl,ty,hk,q⟩:=h
 obtain ⟨u,w',rfl,rx,ry⟩:=vals2 r
 obtain rfl:w'=Value.type T:=ry
 exact isinst_ok I rx ty hk fun tk=>⟨.bl b,H,I.tok tk,rfl,q⟩
theorem ix_tupK (K:PySem.W.Frag) (hK:X.K=K:=by rfl):IxR X (rIxT K):=hK ▸ ix_tup
theorem call_lenK (K:PySem.W.Frag) (hK:X.K=K:=by rfl):CallR X (.builtin "len") (fun xs H Q=>∃ p ys,xs=[.ref p]∧(SqL K H p ys∨SqT K H p ys)∧Q (.int ys.length) H):=hK ▸ call_len_seq
end
mutual
inductive Rep (K:PySem.W.Frag) (H:Hp):V→PyData→Prop
 | int (i:Int):Rep K H (.int i) (.int i)
 | bl (b:Bool):Rep K H (.bl b) (.bool b)
 | non:Rep K H .non .none
 | lst {a:Addr}{xs:List V}{ds:List PyData}:SqL K H a xs→RepAll K H xs ds→Rep K H (.ref a) (.list ds)
 | tup {a:Addr}{xs:List V}{ds:List PyData}:SqT K H a xs→RepAll K H xs ds→Rep K H (.ref a) (.tuple ds)
inductive RepAll (K:PySem.W.Frag) (H:Hp):List V→List PyData→Prop
 | nil:RepAll K H [] []
 | cons {x:V}{xs:List V}{d:PyData}{ds:List PyData}:Rep K H x d→RepAll K H xs ds→RepAll K H (x :: xs) (d :: ds)
end
mutual
theorem Rep.reads {X:Cx}{pins:List (Addr×Obj)}{σ:St}{H:Hp}{s:Shared} (I:Inv X pins σ H s):∀ {x:V}{d:PyData},Rep X.K H x d→∀ {u:Value},RelV x u→∃ as,Reads s.heap u d as
 | _,_,.int i,u,r=>by obtain ⟨t,rfl⟩:=r;exact ⟨_,.int i t⟩
 | _,_,.bl b,u,r=>by cases r;exact ⟨_,.bool b⟩
 | _,_,.non,u,r=>by cases r;exact ⟨_,.none⟩
 | _,_,.lst h hs,u,r=>by
  cases r
  obtain ⟨its,rv,⟨o,n,e,hc,_,hd⟩,_⟩:=I.list h
  obtain ⟨as,q⟩:=RepAll.reads I hs rv
  exact ⟨_,.list e hc hd (by simpa using q)⟩
 | _,_,.tup h hs,u,r=>by
  cases r
  obtain ⟨its,rv,⟨o,e,hc,n,hd⟩,_⟩:=I.tuple h
  obtain ⟨as,q⟩:=RepAll.reads I hs rv
  exact ⟨_,.tuple e hc hd (by simpa using q)⟩
theorem RepAll.reads {X:Cx}{pins:List (Addr×Obj)}{σ:St}{H:Hp}{s:Shared} (I:Inv X pins σ H s):∀ {xs:List V}{ds:List PyData},RepAll X.K H xs ds→∀ {us:List Value},Vals xs us→∃ as,ReadsAll s.heap us ds as
 | _,_,.nil,us,r=>by cases r;exact ⟨_,.nil⟩
 | _,_,.cons h hs,us,r=>by
  cases r with
  | cons r1 r2 =>
   obtain ⟨as,q⟩:=Rep.reads I h r1
   obtain ⟨bs,q'⟩:=RepAll.reads I hs r2
   exact ⟨_,.cons q q'⟩
end
structure Plain (d:PyData):Prop where
 lay:d.canLay0=true
 deep:d.depth≤60
section
variable {X:Cx}
end
end L2
namespace L2
open PySem PySem.Spec PyProof.Rows
theorem Same.seqT {K:PySem.W.Frag}{H H':Hp}{a:Addr}{xs:List V} (e:Same H H') (h:SqT K H a xs):SqT K H' a xs:=by
 rcases h with (h | ⟨o,h⟩) | h
 ·exact .inl (.inl (e _ _ h))
 ·exact .inl (.inr ⟨o,e _ _ h⟩)
 ·exact .inr h
theorem Same.put {H H':Hp}{l:Addr}{o:HO} (s:Same H H') (h:H l=none):Same H (upd H' l o):=fun b u e=>by
 rw [upd_ne (ne_of_none e h)]
 exact s b u e
theorem Same.new {H:Hp}{a:Addr}{o:HO} (h:H a=none):Same H (upd H a o):=(Same.refl H).put h
structure Walk (J:It) (H1:Hp) (n:Nat) (Is:Nat→V→Hp→Prop):Prop where
 go:∀ k H2,Same H1 H2→k < n→J.go k H2
 yld:∀ k H2 x H3,Same H1 H2→k < n→J.yld k H2 x H3→Same H2 H3∧Is k x H3
 stop:∀ H2,Same H1 H2→J.stop n H2
theorem getD_some {α:Type}{xs:List α}{k:Nat}{d:α} (h:k < xs.length):xs[k]? = some (xs.getD k d):=by
 rw [List.getD_eq_getElem?_getD,List.getElem?_eq_getElem h]
 rfl
theorem Walk.tup {K:PySem.W.Frag}{H1:Hp}{a:Addr}{xs:List V} (h:SqT K H1 a xs):Walk (Itt K a) H1 xs.length (fun k x _=>x=xs.getD k .non) where
 go:=fun k H2 s hk=>⟨xs,_,s.seqT h,getD_some (d:=V.non) hk⟩
 yld:=fun k H2 x H3 s hk y=>⟨by rw [y.1];exact Same.refl _,by
  have:=y.2 xs (s.seqT h)
  rw [getD_some (d:=V.non) hk] at this
  exact (Option.some.inj this).symm⟩
 stop:=fun H2 s=>⟨xs,s.seqT h,Nat.le_refl _⟩
theorem Walk.lst {K:PySem.W.Frag}{H1:Hp}{a:Addr}{xs:List V} (h:SqL K H1 a xs):Walk (Itl K a) H1 xs.length (fun k x _=>x=xs.getD k .non) where
 go:=fun k H2 s hk=>⟨xs,_,s.seq h,getD_some (d:=V.non) hk⟩
 yld:=fun k H2 x H3 s hk y=>⟨by rw [y.1];exact Same.refl _,by
  have:=y.2 xs (s.seq h)
  rw [getD_some (d:=V.non) hk] at this
  exact (Option.some.inj this).symm⟩
 stop:=fun H2 s=>⟨xs,s.seq h,Nat.le_refl _⟩
theorem Walk.rng {H1:Hp} (lo:Int) (n:Nat):Walk (Itr lo n) H1 n (fun k x _=>x=.int (lo+k)) where
 go:=fun k H2 _ hk=>hk
 yld:=fun k H2 x H3 _ _ y=>⟨by rw [y.1];exact Same.refl _,y.2⟩
 stop:=fun _ _=>Nat.le_refl n
theorem block_gen {J:It}{H1:Hp}{n:Nat}{Is:Nat→V→Hp→Prop}{js:List (Option Nat)}{g:TG}{tc:TT}{te:TE}{σ:St}{R:VK} (Wk:Walk J H1 n Is) (Pv:Addr→Nat→List V→Hp→Prop)
  (h0:∀ D,H1 D=none→Pv D 0 [] (upd H1 D (.lst [])))
  (step:∀ D k x ys H2 H3 (Keep:VK) (Drop:Hp→Prop),H1 D=none→k < n→Same H1 H2→Same H2 H3→H3 D=some (.lst ys)→Pv D k ys H2→Is k x H3 →
   (∀ y H6,Same H3 H6→ys.length < sizeLine→Pv D (k+1) (ys++[y]) (upd H6 D (.lst (ys++[y])))→Keep y H6)→(∀ H5,Same H3 H5→Pv D (k+1) ys H5→Drop H5) →
   g x (cst js σ) H3 fun σ2 H4=>Ext (cst js σ) σ2∧tc σ2 H4 fun c H5=>if c=true then te σ2 H5 Keep else Drop H5)
  (fin:∀ D ys H2,H1 D=none→Same H1 H2→H2 D=some (.lst ys)→Pv D n ys H2→R (.ref D) H2):tBlock js g tc te σ R J H1:=by
 intro D hD
 refine ⟨fun i m ys H2=>m=n-i∧i≤n∧Same H1 H2∧Pv D i ys H2,⟨n,rfl,Nat.zero_le _,Same.new hD,h0 D hD⟩,?_⟩
 rintro i m ys H2 ⟨rfl,hi,s,p⟩ hys
 by_cases hlt:i < n
 ·refine .inr ⟨Wk.go i H2 s hlt,fun x H3 y=>?_⟩
  obtain ⟨s3,ix⟩:=Wk.yld i H2 x H3 s hlt y
  exact step D i x ys H2 H3 _ _ hD hlt s s3 (s3 _ _ hys) p ix (fun z H6 s6 hl p6=>⟨s6 _ _ (s3 _ _ hys),hl,n-(i+1),by omega,rfl,hlt,((s.trans s3).trans s6).put hD,p6⟩)
   (fun H5 s5 p5=>⟨s5 _ _ (s3 _ _ hys),n-(i+1),by omega,rfl,hlt,(s.trans s3).trans s5,p5⟩)
 ·have e:i=n:=by omega
  subst e
  exact .inl ⟨Wk.stop H2 s,fin D ys H2 hD s hys p⟩
theorem block_fm {J:It}{H1:Hp}{n:Nat}{item:Nat→V}{js:List (Option Nat)}{i:Nat}{tc:TT}{te:TE}{σ:St}{R:VK} (Wk:Walk J H1 n (fun k x _=>x=item k)) (hn:n≤1000) (hi:(cst js σ)[i]? = some none)
  (p:Nat→Bool) (y:Nat→V)
  (test:∀ k H2 (Q:Bool→Hp→Prop),k < n→Same H1 H2→(∀ H3,Same H2 H3→Q (p k) H3)→tc ((cst js σ).set i (some (item k))) H2 Q)
  (step:∀ k H2 (Q:VK),k < n→p k=true→Same H1 H2→(∀ H3,Same H2 H3→Q (y k) H3)→te ((cst js σ).set i (some (item k))) H2 Q)
  (fin:∀ D H2,H1 D=none→Same H1 H2→H2 D=some (.lst (((List.range n).filter p).map y))→R (.ref D) H2):tBlock js (gName i) tc te σ R J H1:=by
 refine block_gen Wk (fun D k ys H2=>ys=((List.range k).filter p).map y) (fun D hD=>rfl) (fun D k x ys H1' H2 Keep Drop hD hk s1 s2 hys e ex keep drop=>?_) (fun D ys H2 hD s hys e=>fin D H2 hD s (e ▸ hys))
 subst ex
 have s:=s1.trans s2
 have hl:ys.length < sizeLine:=by
  have h1:(((List.range k).filter p).map y).length≤k:=by
   rw [List.length_map]
   exact Nat.le_trans (List.length_filter_le _ _) (by simp)
  rw [e]
  exact Nat.lt_of_le_of_lt h1 (small1000 (by omega))
 have e1:List.range (k+1)=List.range k++[k]:=List.range_succ
 refine ⟨Ext.set hi,test k H2 _ hk s fun H3 s3=>?_⟩
 cases hp:p k with
 | true =>
  rw [if_pos rfl]
  refine step k H3 _ hk hp (s.trans s3) fun H4 s4=>keep _ _ (s3.trans s4) hl ?_
  rw [e1,List.filter_append,List.map_append,e]
  simp [hp]
 | false =>
  rw [if_neg (by decide)]
  refine drop _ s3 ?_
  rw [e1,List.filter_append,List.map_append,e]
  simp [hp]
theorem block_map {J:It}{H1:Hp}{n:Nat}{item:Nat→V}{js:List (Option Nat)}{i:Nat}{te:TE}{σ:St}{R:VK} (Wk:Walk J H1 n (fun k x _=>x=item k)) (hn:n≤1000) (hi:(cst js σ)[i]? = some none) (y:Nat→V)
  (step:∀ k H2 (Q:VK),k < n→Same H1 H2→(∀ H3,Same H2 H3→Q (y k) H3)→te ((cst js σ).set i (some (item k))) H2 Q)
  (fin:∀ D H2,H1 D=none→Same H1 H2→H2 D=some (.lst ((List.range n).map y))→R (.ref D) H2):tBlock js (gName i) tYes te σ R J H1 :=
 block_fm Wk hn hi (fun _=>true) y (fun k H2 Q _ _ q=>q H2 (Same.refl _)) (fun k H2 Q hk _=>step k H2 Q hk) fun D H2 hD s e=>fin D H2 hD s (by
  rw [e,List.filter_eq_self.mpr (fun _ _=>rfl)])
theorem range_map_getD {α β:Type} (xs:List α) (d:α) (f:α→β):((List.range xs.length).map fun k=>f (xs.getD k d))=xs.map f:=by
 apply List.ext_getElem?
 intro k
 rw [List.getElem?_map,List.getElem?_map]
 by_cases h:k < xs.length
 ·rw [List.getElem?_range h,getD_some (d:=d) h]
  rfl
 ·rw [List.getElem?_eq_none (by simpa using h),List.getElem?_eq_none (by omega)]
  rfl
def Has (P:Program) (w:World) (K:PySem.W.Frag) (mg:Str→Option Value) (base:Heap) (x:Str) (k:Nat) (ps:List Str) (sp:Sp):Prop :=
 ∃ f fd,mg x=some (.ref f)∧PySem.W.keepIn K (.ref f)=true∧Binds K fd ps []∧FnOk P w K mg base CX0 k f fd ps sp
section
variable {X:Cx}{x:Str}{k:Nat}{ps:List Str}{sp:Sp}{e:Expr}{es:List Expr}{t:TA}{p pos:Pos}
theorem pe_fn (h:Has X.prog X.w X.K X.mg X.base x k ps sp) (hr:Room k X.A) (ha:PA X (e :: es) t) (hg:Gl X x:=by rfl) (hdb:(x == ("__debug__" : Str))=false:=by decide)
  (he:starEach (e :: es) X.env=(false,eval e X.env) :: starEach es X.env:=by rfl) (hpl:(backTo pos (starEach es X.env)).any (·.1)=false:=by rfl):PE X (.Call (.Name x p) (e :: es) [] pos) (tCall sp [] E0 t):=by
 obtain ⟨f,fd,hm,hk,hb,F⟩:=h
 exact pe_call F hr hg hm hk hb .nil pass0 ha hdb he hpl
end
theorem pe_ty {X:Cx}{x:Str}{T:String}{pos:Pos} (hm:X.mg x=none) (hv:bootBuiltins x=some (.type T)) (hg:Gl X x:=by rfl) (hn:x≠"__name__":=by decide) (hd:(x == ("__debug__" : Str))=false:=by decide):PE X (.Name x pos) (tC (.ty T)) :=
 pe_bltn (v:=.ty T) hg hm hv rfl hn hd
theorem ndOf {N:List Str} (h:N.Nodup):N.Nodup:=h
structure Def (K:PySem.W.Frag) (x:Str) (st:Stmt) (f:Addr) (fd:FuncData):Prop where
 a:PySem.W.nsIn K mainGlobals x=some (some (.ref f))
 F:Fun K x x st f fd
theorem def_mk {K:PySem.W.Frag}{x:Str}{st:Stmt}{f:Addr}{oc:Value}{od an:Option Addr}{osl:Array (Option Value)}{kV doc pm cdv ct:Value} (a:PySem.W.nsIn K mainGlobals x=some (some (.ref f)))
  (l:K.lookup f=some ⟨oc,od,.func (PySem.W.fnOf x x (defArgs st) (defBody st) (defScope st) .none kV doc pm an cdv ct),osl⟩) (c:PySem.W.codeIn K cdv x=true) (k:PySem.W.keepIn K (.ref f)=true):∃ f fd,Def K x st f fd :=
 ⟨f,_,a,fun_mk l c k⟩
structure Blt (mg:Str→Option Value):Prop where
 len:mg "len"=none
 isi:mg "isinstance"=none
 tInt:mg "int"=none
 tBool:mg "bool"=none
 tTuple:mg "tuple"=none
 tList:mg "list"=none
 all:mg "all"=none
 range:mg "range"=none
 enum:mg "enumerate"=none
 sum:mg "sum"=none
theorem kit_int_bool {K:PySem.W.Frag}:PySem.W.kitOne K (.type "int") (.type "bool")=some false:=by with_unfolding_all rfl
theorem kit_int_int {K:PySem.W.Frag}:PySem.W.kitOne K (.type "int") (.type "int")=some true:=by with_unfolding_all rfl
theorem kit_tup_tup {K:PySem.W.Frag}:PySem.W.kitOne K (.type "tuple") (.type "tuple")=some true:=by with_unfolding_all rfl
end L2
namespace ET
open PySem PyProof.Rows
open AutoSeq1 (wpAny_loadPart')
theorem made_enumT (t:Addr) (its:Array Value) (n:Nat) (dct:Option Addr) (sl:Array (Option Value)) :
  Meets (Builtin.«enumerate.__new__» ⟨[.type "enumerate",.ref t],[]⟩) (fun _ R s=>s.heap.get? t=some { cls:=.type "tuple",dict:=dct,data:=.seq its n,slots:=sl } ∧
   R (.ok (.ret (.ref (s.heap.push { cls:=.type "tuple_iterator",data:=.fields #[.ref t,.int 0 0] }).objs.size)))
    { s with heap:=(s.heap.push { cls:=.type "tuple_iterator",data:=.fields #[.ref t,.int 0 0] }).push { cls:=.type "enumerate",data:=.fields #[.none,.bool false,.ref s.heap.objs.size,rawInt 0,.none,.none] } }) :=
 .of_wp fun prog w A R s h=>by
  obtain ⟨hp,g,d,tk,os⟩:=s
  obtain ⟨ht,h⟩:=h
  have hsub:=sub_enumerate
  have hT:Heap.IsTuple (Shared.heap ⟨hp,g,d,tk,os⟩) t its:=⟨_,ht,rfl,n,rfl⟩
  wp_walk using wpAny_loadPart' ht
  refine wpAny_stack_any fun st=>wpAny_pure ?_
  split
  ·rename_i c _ _ _ _ _
   cases (c == Value.type "enumerate")<;>(wp_walk using wpAny_loadPart' ht,wpAny_pyIter_tuple hT;exact ⟨_,rfl,h⟩)
  ·wp_walk using wpAny_loadPart' ht,wpAny_pyIter_tuple hT
   exact ⟨_,rfl,h⟩
section
variable {prog:Program}{w:World}{A:Around}{E:Value→Shared→Prop}{s:Shared}
theorem call_enumT {t:Addr}{its:Array Value}{Q:Value→Shared→Prop} (hT:s.heap.IsTuple t its)
  (h:∀ h',IsEnum h' (s.heap.objs.size+1) s.heap.objs.size 0 .none→h'.IsTupleIter s.heap.objs.size t 0→(∀ b o,s.heap.get? b=some o→h'.get? b=some o)→Q (.ref (s.heap.objs.size+1)) { s with heap:=h' }) :
  wpAny (model prog w) A (call (.type "enumerate") [.ref t]) Q E s:=by
 obtain ⟨⟨c,dct,dt,sl⟩,ht,hc,n,hd⟩:=hT
 obtain rfl:c=.type "tuple":=hc
 obtain rfl:dt=.seq its n:=hd
 refine callType_new F.called_enumerate (by decide) (F.typeCall_enumerate_1 _) (F.newCall_enumerate_1 _) (fun obj=>F.args_object_init_2 obj _) F.entry_enumerate_new (made_enumT t its n dct sl) ⟨ht,?_⟩
 have hz:(s.heap.push { cls:=.type "tuple_iterator",data:=.fields #[.ref t,.int 0 0] }).objs.size=s.heap.objs.size+1:=Heap.size_push ..
 show _∧_
 rw [hz]
 have he:IsEnum ((s.heap.push { cls:=.type "tuple_iterator",data:=.fields #[.ref t,.int 0 0] }).push { cls:=.type "enumerate",data:=.fields #[.none,.bool false,.ref s.heap.objs.size,rawInt 0,.none,.none] }) (s.heap.objs.size+1) s.heap.objs.size 0 .none:=by
  have q:=Heap.get?_push_size (s.heap.push { cls:=.type "tuple_iterator",data:=.fields #[.ref t,.int 0 0] }) (o:={ cls:=.type "enumerate",data:=.fields #[.none,.bool false,.ref s.heap.objs.size,rawInt 0,.none,.none] }) rfl
  rwa [hz] at q
 exact ⟨⟨_,he,rfl⟩,h _ he ⟨_,Heap.get?_push_of_some _ (Heap.get?_push_size _ rfl),rfl,rfl⟩ fun b o x=>Heap.get?_push_of_some _ (Heap.get?_push_of_some _ x)⟩
theorem nextT_item {it t:Addr}{i:Nat}{its:Array Value}{x:Value}{Q:Value→Shared→Prop} (hit:s.heap.IsTupleIter it t i) (ht:s.heap.IsTuple t its) (hx:its[i]? = some x)
  (hQ:∀ h',h'.IsTupleIter it t (i+1)→Heap.SameBut it s.heap h'→Q x { s with heap:=h' }):wpAny (model prog w) A (Builtin.SmallTypes.nextOf (.ref it)) Q E s:=by
 obtain ⟨o,ho,hc,hd⟩:=id hit
 obtain ⟨ot,hot,_,nt,hdt⟩:=ht
 unfold Builtin.SmallTypes.nextOf
 refine wpAny_bind (wpAny_callSpecial?_slot (name:=Str.ofString "__next__") hit.typeIs F.slot_tuple_iterator_next (wpAny_call_entry F.slot_tuple_iterator_next hit.typeIs F.entry_tuple_iterator_next ?_ (F.args_tuple_iterator_next_1 _)))
 show wpAny _ _ (field (.ref it) 0 >>= _) _ _ s
 refine wpAny_bind (wpAny_field ho hd (x:=.ref t) rfl ?_)
 show wpAny _ _ (if (Value.ref t == Value.none)=true then _ else _) _ _ s
 rw [if_neg (show ¬((Value.ref t == Value.none)=true) from Bool.false_ne_true)]
 show wpAny _ _ (field (.ref it) 1 >>= _) _ _ s
 refine wpAny_bind (wpAny_field ho hd (x:=.int i 0) rfl ?_)
 show wpAny _ _ (seqItems? (.ref t) >>= _) _ _ s
 refine wpAny_bind (wpAny_seqItems hot hdt ?_)
 simp only [Int.toNat_natCast,hx]
 refine wpAny_bind (wpAny_setField ho hd (by simp) (wpAny_pure ⟨x,rfl,wpAny_pure (hQ _ ?_ (Heap.SameBut.update ..))⟩))
 exact ⟨_,Heap.get?_update_self _ ho (Obj.isFreed_of_fields (Obj.data_mapFields hd _)),(Obj.cls_mapFields ..).trans hc,by rw [Obj.data_mapFields hd];simp [rawInt]⟩
theorem nextT_end {it t:Addr}{i:Nat}{its:Array Value}{Q:Value→Shared→Prop} (hh:A.handled=none) (hit:s.heap.IsTupleIter it t i) (ht:s.heap.IsTuple t its) (hx:its[i]? = none)
  (hE:∀ h' e,Heap.ExtBut it s.heap h'→(∃ o,h'.get? e=some o∧o.cls=.type "StopIteration")→E (.ref e) { s with heap:=h' }):wpAny (model prog w) A (Builtin.SmallTypes.nextOf (.ref it)) Q E s:=by
 obtain ⟨o,ho,hc,hd⟩:=id hit
 obtain ⟨ot,hot,_,nt,hdt⟩:=ht
 unfold Builtin.SmallTypes.nextOf
 refine wpAny_bind (wpAny_callSpecial?_slot (name:=Str.ofString "__next__") hit.typeIs F.slot_tuple_iterator_next (wpAny_call_entry F.slot_tuple_iterator_next hit.typeIs F.entry_tuple_iterator_next ?_ (F.args_tuple_iterator_next_1 _)))
 show wpAny _ _ (field (.ref it) 0 >>= _) _ _ s
 refine wpAny_bind (wpAny_field ho hd (x:=.ref t) rfl ?_)
 show wpAny _ _ (if (Value.ref t == Value.none)=true then _ else _) _ _ s
 rw [if_neg (show ¬((Value.ref t == Value.none)=true) from Bool.false_ne_true)]
 show wpAny _ _ (field (.ref it) 1 >>= _) _ _ s
 refine wpAny_bind (wpAny_field ho hd (x:=.int i 0) rfl ?_)
 show wpAny _ _ (seqItems? (.ref t) >>= _) _ _ s
 refine wpAny_bind (wpAny_seqItems hot hdt ?_)
 simp only [Int.toNat_natCast,hx]
 refine wpAny_bind (wpAny_rule (wpAny_bind (wpAny_setField ho hd (by simp) ?_)))
 show wpAny _ _ (newExc (.type "StopIteration") [] >>= _) _ _ _
 refine wpAny_bind ?_
 simp only [newExc,newTuple]
 refine wpAny_bind (wpAny_newObj_type ?_ (by size_fits))
 refine wpAny_bind (m:=firstArgMember _ _) (wpAny_of_eq (a:=Value.none) (by first | rfl | (simp only [firstArgMember];rfl)) ?_)
 refine wpAny_newObj_type ?_ (by size_fits)
 simp only [raiseNew]
 refine wpAny_bind (wpAny_handled ?_)
 first | rw [show A.in1.handled=none from hh] | rw [hh]
 refine wpAny_bind (wpAny_pure (wpAny_throw ?_))
 exact hE _ _ (((Heap.SameBut.update ..).extBut.push _).push _) ⟨_,Heap.get?_push_size _ rfl,rfl⟩
theorem enumT_next {e it t:Addr}{i:Nat}{its:Array Value}{x old:Value}{Q:Value→Shared→Prop} (he:IsEnum s.heap e it i old) (hit:s.heap.IsTupleIter it t i) (ht:s.heap.IsTuple t its) (hx:its[i]? = some x) (hne:e≠it)
  (hQ:∀ h',IsEnumOut h' e it ((i:Int)+1) x s.heap.objs.size→h'.IsTupleIter it t (i+1)→h'.get? s.heap.objs.size=some { cls:=.type "tuple",data:=.seq #[.int i s.toks,x] } →
   (∀ b o,b≠e→b≠it→s.heap.get? b=some o→h'.get? b=some o)→Q (.ref s.heap.objs.size) { s with heap:=h',toks:=s.toks+1 }) :
  wpAny (model prog w) A (Builtin.«enumerate.__next__» ⟨[.ref e],[]⟩) (fun fin s'=>∃ v,fin=.done (.ret v)∧Q v s') E s:=by
 obtain ⟨hp,g,d,tk,os⟩:=s
 show wpAny _ _ (field (.ref e) 2 >>= _) _ _ _
 refine wpAny_bind (wpAny_field he rfl (x:=.ref it) rfl (wpAny_bind (nextT_item hit ht hx fun h₁ hit₁ hs₁=>?_)))
 replace hs₁:Heap.SameBut it hp h₁:=hs₁
 have he₁:IsEnum h₁ e it i old:=(hs₁.2 e hne).trans he
 show wpAny _ _ (field (.ref e) 3 >>= _) _ _ ⟨h₁,g,d,tk,os⟩
 refine wpAny_bind (wpAny_field he₁ rfl (x:=rawInt i) rfl ?_)
 show wpAny _ _ (field (.ref e) 4 >>= _) _ _ ⟨h₁,g,d,tk,os⟩
 refine wpAny_bind (wpAny_field he₁ rfl (x:=.none) rfl ?_)
 show wpAny _ _ (mkInt i >>= _) _ _ ⟨h₁,g,d,tk,os⟩
 refine wpAny_bind (wpAny_mkInt ?_)
 show wpAny _ _ (setField (.ref e) 3 (rawInt ((i:Int)+1)) >>= _) _ _ ⟨h₁,g,d,tk+1,os⟩
 refine wpAny_bind (wpAny_setField_rec he₁ (by simp) fun h₂ he₂ hs₂=>?_)
 replace hs₂:Heap.SameBut e h₁ h₂:=hs₂
 replace he₂:IsEnum h₂ e it ((i:Int)+1) old:=he₂
 show wpAny _ _ (setField (.ref e) 4 .none >>= _) _ _ ⟨h₂,g,d,tk+1,os⟩
 refine wpAny_bind (wpAny_setField_rec he₂ (by simp) fun h₃ he₃ hs₃=>?_)
 replace hs₃:Heap.SameBut e h₂ h₃:=hs₃
 replace he₃:IsEnum h₃ e it ((i:Int)+1) old:=he₃
 show wpAny _ _ (newTuple [.int i tk,x] >>= _) _ _ ⟨h₃,g,d,tk+1,os⟩
 refine wpAny_bind (wpAny_newTuple ?_)
 have he₄:IsEnum (h₃.push { cls:=.type "tuple",data:=.seq #[.int i tk,x] }) e it ((i:Int)+1) old:=Heap.get?_push_of_some _ he₃
 generalize hh₄:h₃.push { cls:=.type "tuple",data:=.seq #[.int i tk,x] }=h₄ at he₄
 have hsz:h₃.objs.size=hp.objs.size:=by rw [hs₃.1,hs₂.1,hs₁.1]
 have hel:e < hp.objs.size:=Heap.lt_size he
 have ht₄:h₄.get? hp.objs.size=some { cls:=.type "tuple",data:=.seq #[.int i tk,x] }:=by rw [← hh₄,← hsz];exact Heap.get?_push_size _ rfl
 have hk₄:∀ b o,b≠e→b≠it→hp.get? b=some o→h₄.get? b=some o:=fun b o hbe hbi hb=>by
  rw [← hh₄]
  exact Heap.get?_push_of_some _ (hs₃.extBut b o hbe (hs₂.extBut b o hbe (hs₁.extBut b o hbi hb)))
 have hit₄:h₄.IsTupleIter it t (i+1):=by
  rw [← hh₄]
  obtain ⟨o,ho,r⟩:=(hit₁.extBut hs₂.extBut (Ne.symm hne)).extBut hs₃.extBut (Ne.symm hne)
  exact ⟨o,Heap.get?_push_of_some _ ho,r⟩
 show wpAny _ _ (Builtin.SmallTypes.ownedTupleIsFree (.ref e) >>= _) _ _ ⟨h₄,g,d,tk+1,os⟩
 rw [hsz]
 clear hh₄ he₃ hs₃ he₂ hs₂ he₁ hs₁ hit₁ hsz h₃ h₂ h₁
 refine wpAny_bind ?_
 unfold Builtin.SmallTypes.ownedTupleIsFree
 refine wpAny_bind (wpAny_field he₄ rfl (x:=.none) rfl (wpAny_pure ?_))
 simp only [if_true]
 refine wpAny_bind (wpAny_rule (wpAny_bind (wpAny_field he₄ rfl (x:=old) rfl (wpAny_bind (wpAny_setField_rec he₄ (by simp) fun h₅ he₅ hs₅=>?_)))))
 replace hs₅:Heap.SameBut e h₄ h₅:=hs₅
 replace he₅:IsEnum h₅ e it ((i:Int)+1) x:=he₅
 show wpAny _ _ (Builtin.SmallTypes.ownedTupleHandOut (.ref e) (.ref hp.objs.size) >>= _) _ _ ⟨h₅,g,d,tk+1,os⟩
 refine wpAny_bind ?_
 unfold Builtin.SmallTypes.ownedTupleHandOut
 refine wpAny_bind (wpAny_setField_rec he₅ (by simp) fun h₆ he₆ hs₆=>?_)
 replace hs₆:Heap.SameBut e h₅ h₆:=hs₆
 replace he₆:IsEnumOut h₆ e it ((i:Int)+1) x hp.objs.size:=he₆
 refine wpAny_setField_rec he₆ (by simp) fun h₇ he₇ hs₇=>?_
 replace hs₇:Heap.SameBut e h₆ h₇:=hs₇
 replace he₇:IsEnumOut h₇ e it ((i:Int)+1) x hp.objs.size:=he₇
 refine wpAny_bind (wpAny_letGo (wpAny_pure ⟨_,rfl,hQ h₇ he₇ ?_ ?_ ?_⟩))
 ·exact ((hit₄.extBut hs₅.extBut (Ne.symm hne)).extBut hs₆.extBut (Ne.symm hne)).extBut hs₇.extBut (Ne.symm hne)
 ·exact hs₇.extBut _ _ (Nat.ne_of_gt hel) (hs₆.extBut _ _ (Nat.ne_of_gt hel) (hs₅.extBut _ _ (Nat.ne_of_gt hel) ht₄))
 ·exact fun b o hbe hbi hb=>hs₇.extBut b o hbe (hs₆.extBut b o hbe (hs₅.extBut b o hbe (hk₄ b o hbe hbi hb)))
theorem pyNext_enumT {e it t:Addr}{i:Nat}{its:Array Value}{x old:Value}{Q:Option Value→Shared→Prop} (he:IsEnum s.heap e it i old) (hit:s.heap.IsTupleIter it t i) (ht:s.heap.IsTuple t its) (hx:its[i]? = some x) (hne:e≠it)
  (hQ:∀ h',IsEnumOut h' e it ((i:Int)+1) x s.heap.objs.size→h'.IsTupleIter it t (i+1)→h'.get? s.heap.objs.size=some { cls:=.type "tuple",data:=.seq #[.int i s.toks,x] } →
   (∀ b o,b≠e→b≠it→s.heap.get? b=some o→h'.get? b=some o)→Q (some (.ref s.heap.objs.size)) { s with heap:=h',toks:=s.toks+1 }):wpAny (model prog w) A (pyNext (.ref e)) Q E s:=by
 have hT:s.TypeIs (.ref e) "enumerate":=⟨_,he,rfl⟩
 unfold pyNext
 exact wpAny_bind (wpAny_attempt (wpAny_callSpecial?_slot (name:=Str.ofString "__next__") hT F.slot_enumerate_next (wpAny_call_entry F.slot_enumerate_next hT F.entry_enumerate_next
  (enumT_next he hit ht hx hne fun h' a b c k=>wpAny_pure (hQ h' a b c k)) (F.args_enumerate_next_1 _))))
theorem pyNext_enumT_end {e it t:Addr}{i:Nat}{its:Array Value}{old:Value}{Q:Option Value→Shared→Prop} (hh:A.handled=none) (he:IsEnum s.heap e it i old) (hit:s.heap.IsTupleIter it t i) (ht:s.heap.IsTuple t its) (hx:its[i]? = none)
  (hQ:∀ h',Heap.ExtBut it s.heap h'→Q none { s with heap:=h' }):wpAny (model prog w) A (pyNext (.ref e)) Q E s:=by
 have hT:s.TypeIs (.ref e) "enumerate":=⟨_,he,rfl⟩
 unfold pyNext
 refine wpAny_bind (wpAny_attempt (wpAny_callSpecial?_slot (name:=Str.ofString "__next__") hT F.slot_enumerate_next (wpAny_call_entry F.slot_enumerate_next hT F.entry_enumerate_next ?_ (F.args_enumerate_next_1 _))))
 show wpAny _ _ (field (.ref e) 2 >>= _) _ _ _
 refine wpAny_bind (wpAny_field he rfl (x:=.ref it) rfl (wpAny_bind (nextT_end hh hit ht hx fun h' x he' hx'=>?_)))
 obtain ⟨o,ho,hc⟩:=hx'
 exact wpAny_bind (wpAny_isInstance (T:="StopIteration") (b:=true) ⟨o,ho,hc⟩ isSubtype_stop (wpAny_pure (hQ _ he')))
end
end ET
namespace L2
open PySem PySem.Spec PyProof.Rows
def Ite (K:PySem.W.Frag) (a:Addr):It :=
 ⟨fun i H=>∃ xs x,SqT K H a xs∧xs[i]? = some x,fun i H x H'=>∃ p y,x=.ref p∧H p=none∧(∀ xs,SqT K H a xs→xs[i]? = some y)∧H'=upd H p (.tup [.int i,y]),fun i H=>∃ xs,SqT K H a xs∧xs.length≤i⟩
theorem turn_enumT {P:Program}{w:World}{K:PySem.W.Frag}{es:List Expr}{kk:Nat}{tp:Pos} (a e it:Addr) (hne:e≠it) :
  Turn P w K (.Tuple es kk tp) (Ite K a) [e,it] e (fun i h=>(∃ old,IsEnum h e it i old)∧h.IsTupleIter it a i) where
 mem:=by simp
 obj:=fun i h st b hb=>by
  obtain ⟨⟨old,he⟩,⟨o,ho,hc,hd⟩⟩:=st
  rcases List.mem_cons.mp hb with rfl | hb
  ·exact ⟨_,he,fun v z=>by
    have z':Data.fields _=Data.cell v:=z
    cases z'⟩
  ·rw [List.mem_singleton.mp hb]
   exact ⟨o,ho,fun v z=>by rw [hd] at z;cases z⟩
 keep:=fun i h h' st k=>by
  obtain ⟨⟨old,he⟩,hit⟩:=st
  exact ⟨⟨old,k e (by simp) _ he⟩,hit.at fun o x=>k it (by simp) o x⟩
 item:=by
  intro X hP hw hK hc i pins s σ H E I hf st hg
  subst hP hw hK
  obtain ⟨⟨old,he⟩,hit⟩:=st
  obtain ⟨xs,x,hq,hx⟩:=hg
  obtain ⟨its,rv,p,hz⟩:=I.tuple hq
  obtain ⟨u,hu,ru⟩:=rv.get hx
  obtain ⟨f0,f1,f2,f3,f4,f5⟩:=hf e (by simp)
  obtain ⟨g0,g1,g2,g3,g4,g5⟩:=hf it (by simp)
  refine ET.pyNext_enumT he hit (show s.heap.IsTuple a its.toArray from p) (x:=u) (by simpa using hu) hne fun h' ho hit' htp kp=>⟨_,rfl,?_⟩
  refine wpAny_letOwnedTupleGo_enum ho fun h2 he2 hs2=>?_
  have kp2:∀ b o,b∉[e,it]→s.heap.get? b=some o→h2.get? b=some o:=fun b o hb e1=>(hs2.2 b (fun z=>hb (by simp [z]))).trans (kp b o (fun z=>hb (by simp [z])) (fun z=>hb (by simp [z])) e1)
  have fr:H s.heap.objs.size=none:=I.fresh
  have nit:∀ {b:Addr}{v:HO},H b=some v→b∉[e,it]:=fun {b v} q z=>by
   rcases List.mem_cons.mp z with rfl | z
   ·rw [f0] at q;cases q
   ·rw [List.mem_singleton.mp z,g0] at q;cases q
  have lte:e < s.heap.objs.size:=Heap.lt_size he
  have ht2:h2.get? s.heap.objs.size=some { cls:=.type "tuple",data:=.seq #[.int i s.toks,u] }:=(hs2.2 _ (Nat.ne_of_gt lte)).trans htp
  have I1:Inv X pins σ (upd H s.heap.objs.size (.tup [.int i,x])) { s with heap:=h2,toks:=s.toks+1 }:=by
   have un:Un (frs X.stack) [e,it] H (upd H s.heap.objs.size (.tup [.int i,x])) s.heap h2 :=
    ⟨fun b o q _ _ hx=>kp2 b o hx q,fun b o q _ _ hx=>⟨o.slots,kp2 b o hx q⟩,fun b o q n _=>by rw [upd_ne (Nat.ne_of_lt (Heap.lt_size q))];exact n,fun b o q hx=>⟨o,kp2 b o hx q⟩,
     fun b ys q=>by rw [upd_ne (ne_of_none q fr)];exact q,fun b o v q=>by rw [upd_ne (ne_of_none q fr)];exact q,fun b ps q=>⟨#[],by rw [upd_ne (ne_of_none q fr),q];simp⟩⟩
   refine I.call (g':=s.gens) (d':=s.drawn) un (fun b v q=>?_) I.bare fun b hb=>?_
   ·by_cases hb:b=s.heap.objs.size
    ·subst hb
     rw [upd_same] at q
     cases q
     exact ⟨by show 2≤sizeLine;decide,[.int i s.toks,u],.cons ⟨_,rfl⟩ (.cons ru .nil),⟨_,ht2,⟨rfl,_,rfl⟩,rfl⟩⟩
    ·rw [upd_ne hb] at q
     refine (I.hok b v q).stay (fun c o hc e1=>kp2 c o ?_ e1) (fun c e1=>?_) fun c ys e1=>?_
     ·rcases hc with z | z
      ·rw [z];exact nit q
      ·exact nit z
     ·rw [upd_ne (ne_of_none e1 fr)];exact e1
     ·rw [upd_ne (ne_of_none e1 fr)];exact e1
   ·rcases List.mem_cons.mp hb with rfl | hb
    ·exact ⟨f3,f1,f4,f5⟩
    ·rw [List.mem_singleton.mp hb];exact ⟨g3,g1,g4,g5⟩
  refine ⟨.ref s.heap.objs.size,_,I1,rfl,⟨_,x,rfl,fr,fun ys hy=>by rw [I.tuple_inj hy hq];exact hx,rfl⟩,⟨⟨_,by simpa using he2⟩,hit'.at fun o y=>(hs2.2 it (Ne.symm hne)).trans y⟩,fun b hb=>?_⟩
  have hb':b < s.heap.objs.size:=by
   rcases List.mem_cons.mp hb with rfl | hb
   ·exact lte
   ·rw [List.mem_singleton.mp hb]
    obtain ⟨_,y,_⟩:=hit
    exact Heap.lt_size y
  rw [upd_ne (Nat.ne_of_lt hb')]
  exact (hf b hb).1
 done:=by
  intro X hP hw hK hc i pins s σ H E I hf st hg
  subst hP hw hK
  obtain ⟨⟨old,he⟩,hit⟩:=st
  obtain ⟨xs,hq,hx⟩:=hg
  obtain ⟨its,rv,p,hz⟩:=I.tuple hq
  obtain ⟨g0,g1,g2,g3,g4,g5⟩:=hf it (by simp)
  have hl:=rv.length
  exact ET.pyNext_enumT_end (I.ok.hd hc) he hit (show s.heap.IsTuple a its.toArray from p) (by simp;omega) fun h' eb=>⟨rfl,I.turned (t':=s.toks) (fun b o hb e=>eb b o hb e) g0 g1 g3 g4 g5⟩
 self:=fun _ _ _ _ _ st h=>wpAny_pyIter_enum st.1.choose_spec h
section
variable {X:Cx}
def iEnumT (K:PySem.W.Frag) (ta:TA):TI:=fun σ H R=>ta σ H fun vs H1=>∃ a,vs=[.ref a]∧(∃ xs,SqT K H1 a xs)∧R (Ite K a) H1
theorem pi_enumT {l:Expr}{ta:TA}{p pos tp:Pos}{es:List Expr}{kk:Nat} (hg:Gl X "enumerate") (hm:X.mg "enumerate"=none) (ha:PA X [l] ta) (hs:starEach [l] X.env=[(false,eval l X.env)]:=by rfl) :
  PI X (.Tuple es kk tp) (.Call (.Name "enumerate" p) [l] [] pos) (iEnumT X.K ta):=by
 intro pins s σ H R I h
 refine Call_ (ld_blt I hg hm boot_enumerate (PyProof.Rows.callWith_type1 (thnA (ha pos pins s σ H _ I h) fun us s1 vs H1 I1 r1 q1=>?_) hs rfl))
 obtain ⟨a,e,⟨xs,hq⟩,q⟩:=q1
 subst e
 obtain ⟨u,rfl,ru⟩:=vals1 r1
 cases ru
 obtain ⟨its,rv,pl,hz⟩:=I1.tuple hq
 refine ET.call_enumT (show s1.heap.IsTuple a its.toArray from pl) fun h' he hit kp=>?_
 have I2:Inv X pins σ H1 { s1 with heap:=h' }:=I1.kept (t':=s1.toks) kp
 refine wpAny_pyIter_enum (s:={ s1 with heap:=h' }) he ⟨s1.heap.objs.size+1,[s1.heap.objs.size+1,s1.heap.objs.size],_,_,H1,rfl,I2,turn_enumT a _ _ (Nat.succ_ne_self _),⟨⟨_,he⟩,hit⟩,fun b hb=>?_,q⟩
 have hb':s1.heap.objs.size≤b:=by
  rcases List.mem_cons.mp hb with rfl | hb
  ·omega
  ·rw [List.mem_singleton.mp hb]
   exact Nat.le_refl _
 have:=I1.fpOk (H':=H1) hb' (I1.hok.fresh hb')
 exact ⟨this.1,this.2⟩
theorem Walk.enumT {K:PySem.W.Frag}{H1:Hp}{a:Addr}{xs:List V} (h:SqT K H1 a xs):Walk (Ite K a) H1 xs.length (fun k x H3=>∃ p,x=.ref p∧H3 p=some (.tup [.int k,xs.getD k .non])) where
 go:=fun k H2 s hk=>⟨xs,_,s.seqT h,getD_some (d:=V.non) hk⟩
 yld:=fun k H2 x H3 s hk y=>by
  obtain ⟨p,z,rfl,hp,hz,rfl⟩:=y
  have e:=hz xs (s.seqT h)
  rw [getD_some (d:=V.non) hk] at e
  cases e
  exact ⟨Same.new hp,p,rfl,upd_same⟩
 stop:=fun H2 s=>⟨xs,s.seqT h,Nat.le_refl _⟩
end
end L2
namespace L2
open PySem PySem.Spec PyProof.Rows
def tabD (D:List (Str×Int)):List (PyData×PyData):=D.map fun p=>(PyData.str p.1,PyData.int p.2)
def TabK (P:Program) (w:World) (K:PySem.W.Frag) (d:Addr) (D:List (Str×Int)):Prop:=∀ h:Heap,K.In h→StrTab P w h d (tabD D)
section
variable {X:Cx}
theorem op_notin_tab:OpR X (compareOp .NotIn) (fun x y H Q=>∃ z d D,x=.str z∧y=.ref d∧TabK X.prog X.w X.K d D∧Q (.bl (!(lookup (.str z) (tabD D)).isSome)) H):=by
 intro pins s σ H x y v u Q I rx ry h
 obtain ⟨z,d,D,rfl,rfl,T,q⟩:=h
 obtain ⟨t,rfl⟩:=rx
 cases ry
 exact notin_strTab (T _ I.kIn) ⟨.bl _,H,I.tok _,rfl,q⟩
def tTabIx (P:Program) (w:World) (K:PySem.W.Frag) (ta tb:TE):TE:=fun σ H Q=>ta σ H fun x H1=>tb σ H1 fun y H2=>∃ d z D i,x=.ref d∧y=.str z∧TabK P w K d D∧lookup (.str z) (tabD D)=some (.int i)∧Q (.int i) H2
theorem pe_tabIx {a b:Expr}{ta tb:TE}{pos:Pos} (ha:PE X a ta) (hb:PE X b tb) (hs:PlainIx b) (hg:∀ d r,letTemporaryGo a (.ref d) r=pure ():=by intro _ _;with_unfolding_all rfl):PE X (.Subscript a b pos) (tTabIx X.prog X.w X.K ta tb):=by
 intro pins s σ H Q I h
 refine Subscript_ (binT ha hb I h fun v u s2 x y H2 I2 rx ry q=>?_)
 obtain ⟨d,z,D,i,rfl,rfl,T,hl,q⟩:=q
 cases rx
 obtain ⟨t,rfl⟩:=ry
 refine item_strTab (T _ I2.kIn) hl (fun v fl=>?_) (hs _ _) (hg d)
 have fl:=fl s2.heap
 cases fl with
 | int i t=>exact ⟨.int i,H2,I2.tok _,⟨t,rfl⟩,q⟩
def rIndex (K:PySem.W.Frag):V→List V→Hp→VK→Prop:=fun x vs H Q=>∃ (l:Addr) (xs:List V) (y:V) (j:Nat) (z:V),x=.ref l∧vs=[y]∧SqL K H l xs∧flatV y=true∧xs.all flatV=true∧xs[j]? = some z∧eqV z y=true∧(∀ (i:Nat) (z:V),i < j→xs[i]? = some z→eqV z y=false)∧Q (.int (j:Int)) H
theorem mt_index:MtM X "list.index" (rIndex X.K):=by
 intro pins s σ H x vs v us Q I rx rv h
 obtain ⟨l,xs,y,j,z,rfl,rfl,hx,fy,fx,ej,ez,hno,q⟩:=h
 cases rx
 obtain ⟨u,rfl,ru⟩:=rv.one
 obtain ⟨its,r,ht,hz⟩:=I.list hx
 obtain ⟨⟨cls,dd,data,sl⟩,ho,hc,n,hd⟩:=id ht.isList
 simp only at hc hd
 subst hc hd
 have hlen:=r.length
 obtain ⟨uz,euz,rz⟩:=r.get ej
 have hj:j < its.length:=(List.getElem?_eq_some_iff.mp euz).1
 have hline:(sizeLine:Nat) < 2 ^ 62:=by rw [sizeLine_eq];decide
 have fl:∀ {i:Nat}{z:V},xs[i]? = some z→flatV z=true:=fun {i z} e=>List.all_eq_true.mp fx _ (List.mem_of_getElem? e)
 refine call_meets PySem.F.slot_list_index ⟨_,ho,rfl⟩ PySem.F.entry_list_index (PySem.F.args_list_index_2 _ _)
  (SeqAt.list_indexAt l its.toArray n dd sl u (eqU y) j (by simpa using hj) (by omega) ?_ ?_) ⟨ho,fun w hw=>mem_eqAt ru fy r fx w (by simpa using hw),?_⟩
 ·have:its.toArray[j]=uz:=by
   have:=List.getElem?_eq_getElem hj
   rw [euz] at this
   simpa using (Option.some.inj this).symm
  rw [this,eqU_of rz (fl ej),ez]
 ·intro m hm hlt
  have hm':m < xs.length:=by simp at hm;omega
  obtain ⟨um,eum,rm⟩:=r.get (List.getElem?_eq_getElem hm')
  have:its.toArray[m]=um:=by
   have h2:m < its.length:=by omega
   have:=List.getElem?_eq_getElem h2
   rw [eum] at this
   simpa using (Option.some.inj this).symm
  rw [this,eqU_of rm (fl (List.getElem?_eq_getElem hm'))]
  exact hno m _ hlt (List.getElem?_eq_getElem hm')
 ·exact ⟨.int j,H,I.tok _,⟨_,rfl⟩,q⟩
end
end L2
namespace L2
open PySem PySem.Spec PyProof.Rows
theorem countP_eqU {x:V}:∀ {xs:List V}{us:List Value},Vals xs us→xs.all flatV=true→us.countP (eqU x)=xs.countP fun y=>eqV y x
 | _,_,.nil,_=>rfl
 | y :: xs,u :: us,.cons r t,f=>by
  rw [List.all_cons,Bool.and_eq_true] at f
  rw [List.countP_cons,List.countP_cons,eqU_of r f.1,countP_eqU t f.2]
section
variable {X:Cx}
def rCountL (K:PySem.W.Frag):V→List V→Hp→VK→Prop:=fun x vs H Q=>∃ (l:Addr) (xs:List V) (y:V),x=.ref l∧vs=[y]∧SqL K H l xs∧flatV y=true∧xs.all flatV=true∧Q (.int ((xs.countP fun z=>eqV z y:Nat):Int)) H
theorem mt_count:MtM X "list.count" (rCountL X.K):=by
 intro pins s σ H x vs v us Q I rx rv h
 obtain ⟨l,xs,y,rfl,rfl,hx,fy,fx,q⟩:=h
 cases rx
 obtain ⟨u,rfl,ru⟩:=rv.one
 obtain ⟨its,r,ht,hz⟩:=I.list hx
 obtain ⟨⟨cls,dd,data,sl⟩,ho,hc,n,hd⟩:=id ht.isList
 simp only at hc hd
 subst hc hd
 refine call_meets PySem.F.slot_list_count ⟨_,ho,rfl⟩ PySem.F.entry_list_count (PySem.F.args_list_count_2 _ _)
  (SeqAt.list_countAt l its.toArray n dd sl u (eqU y)) ⟨ho,fun w hw=>mem_eqAt ru fy r fx w (by simpa using hw),?_⟩
 refine ⟨.int _,H,I.tok _,⟨_,rfl⟩,?_⟩
 rw [countP_eqU r fx]
 exact q
end
end L2
namespace L2
open PySem PySem.Spec PyProof.Rows
theorem cellsFrom_app:∀ (names:List (Str×NameKind)) (n:Nat) (acc:List (Str×Addr)),cellsFrom n names acc=cellsFrom n names []++acc
 | [],_,_=>rfl
 | (x,k) :: r,n,acc=>by
  unfold cellsFrom
  split
  ·rw [cellsFrom_app r (n+1) ((x,n) :: acc),cellsFrom_app r (n+1) [(x,n)],List.append_assoc]
   rfl
  ·exact cellsFrom_app r n acc
theorem lookup_app {β:Type} (x:Str):∀ (l m:List (Str×β)),(l++m).lookup x=(l.lookup x).or (m.lookup x)
 | [],m=>by simp
 | (y,b) :: l,m=>by
  rw [List.cons_append,List.lookup_cons,List.lookup_cons]
  split
  ·rfl
  ·exact lookup_app x l m
structure InClo (h:Heap) (L:Addr) (scope:Scope) (x:Str) (v:Value) (h':Heap):Prop where
 ns:h'.Ns L (if scope.names.lookup x=some .local then (fun y=>if y=x then some v else none) else fun _=>none)
 cell:∀ n c,(cellsFrom (L+1) scope.names []).lookup n=some c→h'.IsCell c (if scope.names.lookup x=some .cell∧n=x then some v else none)
 apart:(cellsFrom (L+1) scope.names []).Pairwise fun x y=>x.2≠y.2
 above:∀ n c,(n,c)∈cellsFrom (L+1) scope.names []→L < c
 keep:∀ b o,h.get? b=some o→h'.get? b=some o
theorem newEnv_clo {M:Model}{A:Around}{E:Value→Shared→Prop}{s:Shared}{scope:Scope}{globals:Addr}{cl:List (Str×Addr)}{x:Str}{v:Value}{qual:Str}{func:Option Addr}{code:Value}{builtins:Addr}{Q:Env→Shared→Prop}
  (hk:scope.kind=.function) (hx:scope.names.lookup x=some .local∨scope.names.lookup x=some .cell)
  (hQ:∀ h' tk,InClo s.heap s.heap.objs.size scope x v h'→Q (newEnv scope s.heap.objs.size globals (cellsFrom (s.heap.objs.size+1) scope.names cl) qual func code none builtins) { s with heap:=h',toks:=tk }) :
  wpAny M A (newFunctionEnv scope globals cl [(x,v)] qual func code none builtins) Q E s:=by
 simp only [newFunctionEnv,Option.isSome_none,Bool.false_eq_true,if_false]
 refine wpAny_bind (wpAny_alloc ?_)
 refine wpAny_bind (wpAny_layCells _ (fun name kind cells=>by cases hkc:kind == NameKind.cell<;>simp [hkc]) _ _ _ _ ?_)
 have ok:=cellsFrom_ok scope.names (s.heap.push { cls:=.type "frame",data:=.dict #[] }) (s.heap.objs.size+1) [] ⟨fun _ _ hm=>(nomatch hm),List.Pairwise.nil⟩ (by rw [Heap.size_push];exact Nat.le_refl _)
 rw [Heap.size_push] at ok
 rw [show ({ s with heap:=s.heap.push { cls:=.type "frame",data:=.dict #[] } }:Shared).heap.objs.size=s.heap.objs.size+1 from Heap.size_push ..]
 have keep:∀ b o,s.heap.get? b=some o→(pushCells (s.heap.push { cls:=.type "frame",data:=.dict #[] }) scope.names).get? b=some o:=fun b o e=>pushCells_keeps _ _ b o (Heap.get?_push_of_some _ e)
 have ns0:(pushCells (s.heap.push { cls:=.type "frame",data:=.dict #[] }) scope.names).Ns s.heap.objs.size fun _=>none:=(Heap.Ns.new s.heap (.type "frame")).keeps (pushCells_keeps _ _)
 refine wpAny_bind ?_
 rw [List.forIn_cons]
 have neL:∀ b o,s.heap.get? b=some o→b≠s.heap.objs.size:=fun b o e=>Nat.ne_of_lt (Heap.lt_size e)
 rcases hx with hx | hx
 ·refine wpAny_bind (wpAny_bind (wpAny_storeName_local (env:=newEnv scope s.heap.objs.size globals (cellsFrom (s.heap.objs.size+1) scope.names cl) qual func code none builtins) hx ns0 (fun h' hn' hs'=>wpAny_pure ?_) (by show (scope.kind == .class||(scope.kind == .module&&_))=false;rw [hk];rfl)))
  show wpAny _ _ (pure PUnit.unit) _ _ _
  refine wpAny_pure (wpAny_pure (hQ h' _ ⟨?_,fun n c e=>?_,ok.apart,fun n c hm=>(ok.empty n c hm).2,fun b o e=>hs'.extBut b o (neL b o e) (keep b o e)⟩))
  ·rw [if_pos hx]
   exact hn'
  ·rw [if_neg (fun z=>by rw [hx] at z;exact absurd z.1 (by decide))]
   exact ((ok.empty n c (mem_of_lookup e)).1).sameBut hs' (Nat.ne_of_gt (ok.empty n c (mem_of_lookup e)).2)
 ·have hcx:∃ c,(cellsFrom (s.heap.objs.size+1) scope.names []).lookup x=some c:=cell_has hx
  obtain ⟨c,hc⟩:=hcx
  have hc':(cellsFrom (s.heap.objs.size+1) scope.names cl).lookup x=some c:=by
   rw [cellsFrom_app,lookup_app,hc]
   rfl
  have hLc:=(ok.empty x c (mem_of_lookup hc)).2
  refine wpAny_bind (wpAny_bind (wpAny_storeName_cell (env:=newEnv scope s.heap.objs.size globals (cellsFrom (s.heap.objs.size+1) scope.names cl) qual func code none builtins) hk hx hc' (ok.empty x c (mem_of_lookup hc)).1 fun h' hn' hs'=>wpAny_pure ?_))
  show wpAny _ _ (pure PUnit.unit) _ _ _
  refine wpAny_pure (wpAny_pure (hQ h' _ ⟨?_,fun n c2 e=>?_,ok.apart,fun n c hm=>(ok.empty n c hm).2,fun b o e=>hs'.extBut b o ?_ (keep b o e)⟩))
  ·rw [if_neg (by rw [hx];decide)]
   exact ns0.sameBut hs' (Nat.ne_of_lt hLc)
  ·by_cases hn:n=x
   ·subst hn
    rw [hc] at e
    cases e
    rw [if_pos ⟨hx,rfl⟩]
    exact hn'
   ·rw [if_neg (fun z=>hn z.2)]
    exact ((ok.empty n c2 (mem_of_lookup e)).1).sameBut hs' fun z=>hn (name_of_addr ok.apart (mem_of_lookup e) (z ▸ mem_of_lookup hc))
  ·exact Nat.ne_of_lt (Nat.lt_trans (Heap.lt_size e) hLc)
end L2
namespace L2
open PySem PySem.Spec PyProof.Rows
structure CellsAt (s:Shared) (H:Hp) (cl:List (Str×Addr)) (frees:List Str) (fvs:List V):Prop where
 inj:∀ x y c,cl.lookup x=some c→cl.lookup y=some c→x=y
 free:∀ x c,cl.lookup x=some c→H c=none
 cell:∀ x c,cl.lookup x=some c→∃ v,s.heap.IsCell c v
 val:∀ (i:Nat) (x:Str) (v:V),frees[i]? = some x→fvs[i]? = some v→∃ c u,cl.lookup x=some c∧s.heap.IsCell c (some u)∧RelV v u
structure FnScopeC (N:List Str) (p:Str) (frees:List Str) (sc:Scope):Prop where
 kind:sc.kind=.function
 co:sc.isCoroutine=false
 gen:sc.isGenerator=false
 nd:N.Nodup
 pre:N.take (frees.length+1)=p :: frees
 par:sc.names.lookup p=some .local∨sc.names.lookup p=some .cell
 fre:∀ y∈sc.names,y.2=.free→y.1∈frees
 frk:∀ x∈frees,sc.names.lookup x=some .free
 noc:∀ y∈sc.names,y.2=.cell→y.1∉frees
theorem mem_cellsFrom {x:Str}{c:Addr}:∀ {names:List (Str×NameKind)}{n:Nat},(x,c)∈cellsFrom n names []→(x,NameKind.cell)∈names
 | [],_,h=>by simp [cellsFrom] at h
 | (y,k) :: r,n,h=>by
  unfold cellsFrom at h
  split at h
  ·rename_i hk
   rw [cellsFrom_app] at h
   rcases List.mem_append.mp h with h | h
   ·exact List.mem_cons_of_mem _ (mem_cellsFrom h)
   ·have e:k=.cell:=by simpa using hk
    have h':=List.mem_singleton.mp h
    cases h'
    rw [e]
    exact List.mem_cons_self
  ·exact List.mem_cons_of_mem _ (mem_cellsFrom h)
def startC (N:List Str) (v:V) (fvs:List V):St:=some v :: fvs.map some++List.replicate (N.length-(fvs.length+1)) none
abbrev cxC (P:Program) (w:World) (K:PySem.W.Frag) (mg:Str→Option Value) (base:Heap) (N:List Str) (qual:Str) (scope:Scope) (f:Addr) (cd:Value) (cl:List (Str×Addr)) (A:Around) (outer:List Env) (s:Shared) (H:Hp):Cx where
 prog:=P
 w:=w
 K:=K
 mg:=mg
 base:=base
 A:=A.deeper (PySem.W.envX qual scope s.heap.objs.size f cd (cellsFrom (s.heap.objs.size+1) scope.names cl))
 N:=N
 s₀:=s
 H₀:=H
 env:=PySem.W.envX qual scope s.heap.objs.size f cd (cellsFrom (s.heap.objs.size+1) scope.names cl)
 outer:=outer
 stack:=PySem.W.envX qual scope s.heap.objs.size f cd (cellsFrom (s.heap.objs.size+1) scope.names cl) :: outer
 ex:=[]
 calm:=true
 fn:=fun y=>scope.names.lookup y == some .cell
 pn:=[]
 xe:=fun _ _=>False
theorem inv_startC {P:Program}{w:World}{K:PySem.W.Frag}{mg:Str→Option Value}{base:Heap}{N frees:List Str}{p qual:Str}{scope:Scope}{f:Addr}{cd:Value}{cl:List (Str×Addr)}{A:Around}{outer:List Env}{s:Shared}{H:Hp}{u:Value}{v:V}{fvs:List V}{h':Heap}{tk:Nat}
  (S:FnScopeC N p frees scope) (hd:A.handled=none) (e0:Env0 P w K mg base A outer s H) (r:RelV v u) (hfl:fvs.length=frees.length) (C:CellsAt s H cl frees fvs) (x:InClo s.heap s.heap.objs.size scope p u h') :
  Inv (cxC P w K mg base N qual scope f cd cl A outer s H) [] (startC N v fvs) H { s with heap:=h',toks:=tk }:=by
 have hpl:frees.length+1≤N.length:=by have:=congrArg List.length S.pre;rw [List.length_take,List.length_cons] at this;omega
 have look:∀ y c,(cellsFrom (s.heap.objs.size+1) scope.names cl).lookup y=some c→(cellsFrom (s.heap.objs.size+1) scope.names []).lookup y=some c∨((cellsFrom (s.heap.objs.size+1) scope.names []).lookup y=none∧cl.lookup y=some c):=fun y c e=>by
  rw [cellsFrom_app,lookup_app] at e
  cases q:(cellsFrom (s.heap.objs.size+1) scope.names []).lookup y with
  | some c'=>rw [q] at e;exact .inl e
  | none=>rw [q] at e;exact .inr ⟨rfl,e⟩
 have ownGe:∀ y c,(cellsFrom (s.heap.objs.size+1) scope.names []).lookup y=some c→s.heap.objs.size < c:=fun y c e=>x.above y c (mem_of_lookup e)
 have clLt:∀ y c,cl.lookup y=some c→c < s.heap.objs.size:=fun y c e=>by
  obtain ⟨v,z⟩:=C.cell y c e
  exact z.lt
 have noA:∀ b:Addr,b∉(cxC P w K mg base N qual scope f cd cl A outer s H).ex:=fun b z=>absurd (show b∈([]:List Addr) from z) (by simp)
 refine ⟨⟨e0.mod,S.kind,rfl,rfl,Nat.le_refl _,fun y z c h1 h2=>?_,fun y hy=>?_,fun y c hf h=>?_,fun _=>hd,Around.frames_deeper e0.frames,.inr ⟨rfl,rfl⟩,fun b z=>absurd z (noA b),e0.bs,e0.bsz,fun b _ _=>noA b,fun b z=>absurd z (noA b),e0.funs,e0.frf⟩,
  rfl,e0.bare,Un.kept x.keep,⟨_,x.ns,fun i y v' h1 h2 h3=>?_⟩,fun y c h=>?_,e0.hok.fresh (Nat.le_refl _),fun y c h=>?_,fun p hp=>absurd (show p∈([]:List (Addr×Obj)) from hp) (by simp),e0.hok.kept x.keep,?_⟩
 ·rcases look y c h1 with a1 | ⟨_,a1⟩<;>rcases look z c h2 with a2 | ⟨_,a2⟩
  ·exact name_of_addr x.apart (mem_of_lookup a1) (mem_of_lookup a2)
  ·exact absurd (ownGe y c a1) (Nat.not_lt.mpr (Nat.le_of_lt (clLt z c a2)))
  ·exact absurd (ownGe z c a2) (Nat.not_lt.mpr (Nat.le_of_lt (clLt y c a1)))
  ·exact C.inj y z c a1 a2
 ·have hy:scope.names.lookup y=some .cell∨scope.names.lookup y=some .free:=hy
  show ∃ c,(cellsFrom (s.heap.objs.size+1) scope.names cl).lookup y=some c
  rw [cellsFrom_app,lookup_app]
  rcases hy with hy | hy
  ·obtain ⟨c,e⟩:=cell_has (n:=s.heap.objs.size+1) hy
   exact ⟨c,by rw [e];rfl⟩
  ·have hm:=S.fre _ (mem_of_lookup hy) rfl
   obtain ⟨i,hi⟩:=List.getElem?_of_mem hm
   have hil:i < fvs.length:=by
    have:=(List.getElem?_eq_some_iff.mp hi).1
    omega
   obtain ⟨c,u',e,_⟩:=C.val i y _ hi (List.getElem?_eq_getElem hil)
   cases q:(cellsFrom (s.heap.objs.size+1) scope.names []).lookup y with
   | some c'=>exact ⟨c',rfl⟩
   | none=>exact ⟨c,e⟩
 ·have hf':scope.names.lookup y=some .cell:=by
   have:(scope.names.lookup y == some NameKind.cell)=true:=hf
   simpa using this
  obtain ⟨c',e⟩:=cell_has (n:=s.heap.objs.size+1) hf'
  rcases look y c h with a1 | ⟨a1,_⟩
  ·exact Nat.le_of_lt (ownGe y c a1)
  ·rw [e] at a1
   cases a1
 ·have h1:N[i]? = some y:=h1
  unfold startC at h2
  by_cases hi0:i=0
  ·subst hi0
   simp at h2
   subst h2
   have hp:p=y:=by
    have:(N.take (frees.length+1))[0]? = some p:=by rw [S.pre];rfl
    rw [List.getElem?_take_of_lt (by omega),h1] at this
    exact (Option.some.inj this).symm
   subst hp
   refine ⟨u,r,?_⟩
   rcases S.par with k | k
   ·refine .inl ⟨k,?_⟩
    rw [if_pos k]
    simp
   ·obtain ⟨c,e⟩:=cell_has (n:=s.heap.objs.size+1) k
    refine .inr ⟨.inl k,c,?_,?_⟩
    ·show (cellsFrom (s.heap.objs.size+1) scope.names cl).lookup p=some c
     rw [cellsFrom_app,lookup_app,e]
     rfl
    ·have q:=x.cell p c e
     rw [if_pos ⟨k,rfl⟩] at q
     exact q
  ·obtain ⟨j,rfl⟩:∃ j,i=j+1:=⟨i-1,by omega⟩
   have h2':(fvs.map some++List.replicate (N.length-(fvs.length+1)) none)[j]? = some (some v'):=by simpa using h2
   have hj:j < fvs.length:=by
    by_cases hj:j < fvs.length
    ·exact hj
    ·rw [List.getElem?_append_right (by simpa using hj),List.getElem?_replicate] at h2'
     split at h2'<;>cases h2'
   rw [List.getElem?_append_left (by simpa using hj),List.getElem?_map] at h2'
   have hfv:fvs[j]? = some v':=by
    cases e:fvs[j]? with
    | none=>rw [e] at h2';cases h2'
    | some a=>rw [e] at h2';cases h2';rfl
   have hfr:frees[j]? = some y:=by
    have:(N.take (frees.length+1))[j+1]? = some y:=by rw [List.getElem?_take_of_lt (by omega)];exact h1
    rw [S.pre] at this
    simpa using this
   obtain ⟨c,u',e,z,rv⟩:=C.val j y v' hfr hfv
   have hk:=S.frk y (List.mem_of_getElem? hfr)
   have hnone:(cellsFrom (s.heap.objs.size+1) scope.names []).lookup y=none:=by
    cases q:(cellsFrom (s.heap.objs.size+1) scope.names []).lookup y with
    | none=>rfl
    | some c'=>exact absurd (List.mem_of_getElem? hfr) (S.noc _ (mem_cellsFrom (mem_of_lookup q)) rfl)
   refine ⟨u',rv,.inr ⟨.inr hk,c,?_,z.keeps x.keep⟩⟩
   show (cellsFrom (s.heap.objs.size+1) scope.names cl).lookup y=some c
   rw [cellsFrom_app,lookup_app,hnone]
   exact e
 ·rcases look y c h with a | ⟨_,a⟩
  ·exact ⟨_,x.cell y c a⟩
  ·obtain ⟨v,z⟩:=C.cell y c a
   exact ⟨v,z.keeps x.keep⟩
 ·rcases look y c h with a | ⟨_,a⟩
  ·exact e0.hok.fresh (Nat.le_of_lt (ownGe y c a))
  ·exact C.free y c a
 ·show (startC N v fvs).length=N.length
  unfold startC
  rw [List.length_append,List.length_cons,List.length_map,List.length_replicate]
  omega
structure FnOkC (P:Program) (w:World) (K:PySem.W.Frag) (mg:Str→Option Value) (base:Heap) (k:Nat) (fd:FuncData) (p:Str) (frees:List Str) (fvs:List V) (sp:Sp):Prop where
 run:∀ (A:Around) (outer:List Env) (s:Shared) (H:Hp) (f:Addr) (u:Value) (v:V) (Q:VK),Room k A→Env0 P w K mg base A outer s H→RelV v u→(∃ o,s.heap.get? f=some o∧o.data=.func fd)→s.heap.CodeRec fd.code fd.qualname →
  CellsAt s H fd.closure frees fvs→sp [v] H Q E0→codeAny (model P w) A (.call (.ref f) ⟨[u],[]⟩) (CR CX0 outer P w H s Q E0) s
theorem clo_of {P:Program}{w:World}{K:PySem.W.Frag}{mg:Str→Option Value}{base:Heap}{k:Nat}{name qual:Str}{params:Arguments}{body:List Stmt}{scope:Scope}{cl:List (Str×Addr)}{doc pm cdv ct:Value}
  {N frees:List Str}{p:Str}{fvs:List V}{sp:Sp} (S:FnScopeC N p frees scope) (hfl:fvs.length=frees.length)
  (hbind:∀ u:Value,bindArgs (PySem.W.fnX name qual params body scope cl .none .none doc pm none cdv ct) ⟨[u],[]⟩=pure [(p,u)])
  (hbody:∀ (A:Around) (outer:List Env) (s:Shared) (H:Hp) (f:Addr) (v:V) (Q:VK),Room k (A.deeper (PySem.W.envX qual scope s.heap.objs.size f cdv (cellsFrom (s.heap.objs.size+1) scope.names cl)))→sp [v] H Q E0 →
   ∃ t,PSs (cxC P w K mg base N qual scope f cdv cl A outer s H) body t∧t { nx:=fun _ H'=>Q .non H',rt:=Q } (startC N v fvs) H) :
  FnOkC P w K mg base (k+1) (PySem.W.fnX name qual params body scope cl .none .none doc pm none cdv ct) p frees fvs sp:=by
 refine ⟨fun A outer s H f u v Q hr e0 r hf hcd C hsp=>?_⟩
 obtain ⟨o,ho,hod⟩:=hf
 have lim:s.heap.NoLimit:=e0.mod.nolimit.keeps fun b o e=>(e0.bs b o e).1
 refine codeAny_call_function hr.depth ho hod S.co S.gen rfl hcd ?_
 rw [hbind u]
 refine wpAny_pure ?_
 refine newEnv_clo S.kind S.par fun h' tk x=>?_
 refine ⟨lim.keeps x.keep,codeAny_func ?_⟩
 obtain ⟨t,ht,hq⟩:=hbody A outer s H f v Q (hr.deeper _) hsp
 have I:Inv (cxC P w K mg base N qual scope f cdv cl A outer s H) [] (startC N v fvs) H { s with heap:=h',toks:=tk }:=inv_startC S hr.hd e0 r hfl C x
 refine wpAny_mono (ht [] _ (startC N v fvs) H _ I hq) (fun fl s' hs=>?_) fun e s' hs=>hs.elim
 have fin:∀ {σ':St}{H':Hp}{v:V}{u:Value},Inv (cxC P w K mg base N qual scope f cdv cl A outer s H) [] σ' H' s'→RelV v u→Q v H'→CE outer P w H s Q u s' :=
  fun {σ' H' v u} J rv q=>⟨v,H',J.os,J.bare,J.base,J.hok,rv,q⟩
 cases fl with
 | ret u =>
  obtain ⟨v,σ',H',J,rv,q⟩:=hs
  exact fin J rv q
 | next =>
  obtain ⟨σ',H',J,q⟩:=hs
  exact fin (v:=V.non) (u:=Value.none) J rfl q
 | brk =>
  obtain ⟨_,_,_,q⟩:=hs
  exact False.elim q
 | cont =>
  obtain ⟨_,_,_,q⟩:=hs
  exact False.elim q
end L2
namespace L2
open PySem PySem.Spec PyProof.Rows
structure BMain (mg:Str→Option Value) (base:Heap):Prop where
 at':∃ bm ob,mg "__builtins__"=some (.ref bm)∧bm≠builtinsNs∧base.get? bm=some ob∧ob.cls=.type "module"∧ob.dict=some builtinsNs∧ob.data=.plain
def fnφ (f:Addr) (fd:FuncData):Heap→Prop:=fun h=>∃ o,h.get? f=some o∧o.data=.func fd
def cdφ (c:Addr) (q:Str):Heap→Prop:=fun h=>h.CodeRec (.ref c) q
theorem fnφ_ok {P:Program}{w:World}{H:Hp}{h:Heap}{f:Addr}{fd:FuncData} (e:fnφ f fd h):ObjOk P w H h f (.ext (fnφ f fd)):=by
 obtain ⟨o,e,d⟩:=e
 exact ⟨⟨o,e,d⟩,⟨o,e⟩,fun h1 h2 ⟨o,e,d⟩ k=>⟨o,k o e,d⟩⟩
theorem cdφ_ok {P:Program}{w:World}{H:Hp}{h:Heap}{c:Addr}{q:Str} (e:cdφ c q h):ObjOk P w H h c (.ext (cdφ c q)):=by
 obtain ⟨c',oc,vs,t,e1,e2,r⟩:=id e
 cases e1
 exact ⟨e,⟨oc,e2⟩,fun h1 h2 ⟨c',oc,vs,t,e1,e2,r⟩ k=>by
  cases e1
  exact ⟨c,oc,vs,t,rfl,k oc e2,r⟩⟩
def tDef (i:Nat) (P:Addr) (qual:Str) (pos:Pos) (mk:Addr→Value→Value→Value→FuncData):TS:=fun D σ H=>∃ ps,H P=some (.tbl ps)∧TriplesOk ps.toList ∧
 ((codeAmong pos ps.toList=none∧∀ f c doc pm ct,H f=none→H c=none→c≠f→D.nx (σ.set i (some (.ref f))) (upd (upd (upd H P (.tbl (ps++#[rawInt pos.line,rawInt pos.col,.ref c]))) c (.ext (cdφ c qual))) f (.ext (fnφ f (mk c doc pm ct))))) ∨
  (∃ c,codeAmong pos ps.toList=some (.ref c)∧∀ f doc pm ct,H f=none→D.nx (σ.set i (some (.ref f))) (upd H f (.ext (fnφ f (mk c doc pm ct))))))
theorem ps_def {X:Cx}{i:Nat}{name qual:Str}{params:Arguments}{body:List Stmt}{scope:Scope}{pos:Pos}{c P:Addr} (BM:BMain X.mg X.base) (hcode:X.env.code=.ref c) (C:PySem.W.CodeHd X.base c P) (hN:X.N.Nodup) (hi:X.N[i]? = some name) (hx:Loc X.env.scope name)
  (hfree:∀ x∈scope.names,x.2=.free→X.env.scope.names.lookup x.1=some .cell∨X.env.scope.names.lookup x.1=some .free) (hq:qualnameIn X.env name name=qual:=by rfl)
  (hd0:params.defaults=[]:=by rfl) (hk0:params.kw_defaults=[]:=by rfl) (ha:annTrees params none X.env=[]:=by rfl) (hf:X.fn name=true∨X.env.scope.names.lookup name=some .local:=by first | exact .inl rfl | exact .inr rfl) :
  PS X (.FunctionDef name params body [] none [] scope none name pos) (tDef i P qual pos fun c doc pm ct=>PySem.W.fnX name qual params body scope (closOf X.env.cells scope.names []) .none .none doc pm none (.ref c) ct):=by
 intro pins s σ H D I h
 obtain ⟨ps,hP,ht,h⟩:=h
 have hcl:=closureFor_eq (scope:=scope) (env:=X.env) fun x hm e=>I.ok.has x.1 (hfree x hm e)
 have hP':s.heap.get? P=some (PySem.W.tabObj ps):=I.hok P _ hP
 have hg:=I.mod.glob.keeps I.bk
 have hgP:mainGlobals≠P:=fun q=>by
  obtain ⟨o,es,ep,e,hd,_⟩:=hg
  rw [q,hP'] at e;cases e;cases hd
 obtain ⟨bm,ob,b1,b2,b3,b4,b5,b6⟩:=BM.at'
 have b3':=I.bk _ _ b3
 have hbP:bm≠P:=fun q=>by
  rw [q,hP'] at b3';cases b3';cases b4
 have hbG:bm≠mainGlobals:=fun q=>by
  obtain ⟨o,es,ep,e,hd,_⟩:=hg
  rw [q,e] at b3';cases b3';rw [hd] at b6;cases b6
 refine PySem.W.nestDef_K hd0 hk0 ha ?_
 rw [hq]
 rcases h with ⟨hn,h⟩ | ⟨c',hc,h⟩
 ·refine PySem.W.makeFunction_K (mg:=X.mg) hcl I.ok.glob hg hcode (C.keeps I.bk) hP' ht hn hgP ⟨bm,ob,b1,b2,hbG,hbP,b3',b4,b5,b6⟩ fun c' ctv doc h' tk hx' hge hlt hrec htb=>?_
  have nf:H h'.objs.size=none:=I.hok.fresh (Nat.le_trans hge (Nat.le_of_lt hlt))
  have nc:H c'=none:=I.hok.fresh hge
  have hPc:P≠c':=ne_of_none hP nc
  have hPf:P≠h'.objs.size:=ne_of_none hP nf
  have hcf:c'≠h'.objs.size:=Nat.ne_of_lt hlt
  have push:∀ b o,h'.get? b=some o→(h'.push (PySem.W.fnMade name qual params body scope (closOf X.env.cells scope.names []) doc ((X.mg "__name__").getD .none) c' ctv)).get? b=some o:=fun b o e=>Heap.get?_push_of_some _ e
  have old:∀ b o,b≠P→s.heap.get? b=some o→(h'.push (PySem.W.fnMade name qual params body scope (closOf X.env.cells scope.names []) doc ((X.mg "__name__").getD .none) c' ctv)).get? b=some o:=fun b o hb e=>push b o (hx' b o hb e)
  have neP:∀ b,H b=none→b≠P:=fun b n z=>by rw [z,hP] at n;cases n
  have up:∀ b u,H b=some u→b≠P→upd (upd (upd H P (.tbl (ps++#[rawInt pos.line,rawInt pos.col,.ref c']))) c' (.ext (cdφ c' qual))) h'.objs.size (.ext (fnφ h'.objs.size (PySem.W.fnX name qual params body scope (closOf X.env.cells scope.names []) .none .none doc ((X.mg "__name__").getD .none) none (.ref c') ctv))) b=some u:=fun b u e hb=>by
   rw [upd_ne (ne_of_none e nf),upd_ne (ne_of_none e nc),upd_ne hb]
   exact e
  have upP:upd (upd (upd H P (.tbl (ps++#[rawInt pos.line,rawInt pos.col,.ref c']))) c' (.ext (cdφ c' qual))) h'.objs.size (.ext (fnφ h'.objs.size (PySem.W.fnX name qual params body scope (closOf X.env.cells scope.names []) .none .none doc ((X.mg "__name__").getD .none) none (.ref c') ctv))) P=some (.tbl (ps++#[rawInt pos.line,rawInt pos.col,.ref c'])):=by
   rw [upd_ne hPf,upd_ne hPc]
   exact upd_same
  refine store_ok (v:=.ref h'.objs.size) (I.un (t':=tk) (h':=h'.push (PySem.W.fnMade name qual params body scope (closOf X.env.cells scope.names []) doc ((X.mg "__name__").getD .none) c' ctv))
    ⟨fun b o e n _ _=>old b o (neP b n) e,fun b o e n _ _=>⟨o.slots,old b o (neP b n) e⟩,fun b o e n _=>?_,fun b o e _=>?_,fun b xs e=>up b _ e (fun z=>by rw [z,hP] at e;cases e),fun b o u e=>up b _ e (fun z=>by rw [z,hP] at e;cases e),fun b qs e=>?_⟩ ?_)
   hN hi hx rfl (fun s2 I3=>⟨_,_,I3,h _ _ _ _ _ nf nc hcf⟩) hf
  ·have hb:=Heap.lt_size e
   rw [upd_ne (Nat.ne_of_lt (Nat.lt_of_lt_of_le hb (Nat.le_trans hge (Nat.le_of_lt hlt)))),upd_ne (Nat.ne_of_lt (Nat.lt_of_lt_of_le hb hge)),upd_ne (neP b n)]
   exact n
  ·by_cases hb:b=P
   ·subst hb
    exact ⟨_,push _ _ htb⟩
   ·exact ⟨o,old b o hb e⟩
  ·by_cases hb:b=P
   ·subst hb
    rw [hP] at e
    cases e
    exact ⟨_,upP⟩
   ·exact ⟨#[],by rw [up b _ e hb];simp⟩
  ·intro b u e
   by_cases hb1:b=h'.objs.size
   ·subst hb1
    rw [upd_same] at e
    cases e
    exact fnφ_ok ⟨_,Heap.get?_push_size _ rfl,rfl⟩
   ·rw [upd_ne hb1] at e
    by_cases hb2:b=c'
    ·subst hb2
     rw [upd_same] at e
     cases e
     refine cdφ_ok ?_
     obtain ⟨c2,oc,vs,t,e1,e2,r⟩:=hrec
     cases e1
     exact ⟨_,oc,vs,t,rfl,push _ _ e2,r⟩
    ·rw [upd_ne hb2] at e
     by_cases hb3:b=P
     ·subst hb3
      rw [upd_same] at e
      cases e
      exact push _ _ htb
     ·rw [upd_ne hb3] at e
      refine (I.hok b u e).stay (fun d v hd q=>old d v (fun z=>?_) q) (fun d q=>up d _ q fun z=>by rw [z,hP] at q;cases q) (fun d xs q=>up d _ q fun z=>by rw [z,hP] at q;cases q)
      rcases hd with hd | hd
      ·exact hb3 (hd.symm.trans z)
      ·rw [z,hP] at hd;cases hd
 ·refine PySem.W.makeFunction_hit (mg:=X.mg) hcl I.ok.glob hg hcode (C.keeps I.bk) hP' ht hc ⟨bm,ob,b1,b2,hbG,hbP,b3',b4,b5,b6⟩ fun ctv doc h' tk hk hsz=>?_
  have nf:H h'.objs.size=none:=I.hok.fresh hsz
  refine store_ok (v:=.ref h'.objs.size) (I.laid (t':=tk) (a:=h'.objs.size) (o:=.ext (fnφ h'.objs.size (PySem.W.fnX name qual params body scope (closOf X.env.cells scope.names []) .none .none doc ((X.mg "__name__").getD .none) none (.ref c') ctv))) (fun b u e=>Heap.get?_push_of_some _ (hk b u e)) hsz ?_) hN hi hx rfl (fun s2 I3=>⟨_,_,I3,h _ _ _ _ nf⟩) hf
  exact fnφ_ok ⟨_,Heap.get?_push_size _ rfl,rfl⟩
end L2
namespace L2
open PySem PySem.Spec PyProof.Rows
theorem CellsAt.now {X:Cx}{pins:List (Addr×Obj)}{σ:St}{H:Hp}{s:Shared}{cl:List (Str×Addr)}{frees:List Str}{fvs:List V} (I:Inv X pins σ H s) (C:CellsAt X.s₀ X.H₀ cl frees fvs) (hex:X.ex=[]):CellsAt s H cl frees fvs:=by
 have nx:∀ b,b∉X.ex:=fun b z=>by rw [hex] at z;cases z
 have stay:∀ x c v,cl.lookup x=some c→X.s₀.heap.IsCell c v→s.heap.IsCell c v:=fun x c v e ⟨o,ho,hd⟩=>by
  obtain ⟨sl,q⟩:=I.base.any ho (C.free x c e) (nx c)
  exact ⟨_,q,hd⟩
 refine ⟨C.inj,fun x c e=>?_,fun x c e=>?_,fun i x v e1 e2=>?_⟩
 ·obtain ⟨v,o,ho,hd⟩:=C.cell x c e
  exact I.base.free c o ho (C.free x c e) (nx c)
 ·obtain ⟨v,z⟩:=C.cell x c e
  exact ⟨v,stay x c v e z⟩
 ·obtain ⟨c,u,e,z,r⟩:=C.val i x v e1 e2
  exact ⟨c,u,e,stay x c _ e z,r⟩
theorem fnAt_of {X:Cx}{pins:List (Addr×Obj)}{σ:St}{H:Hp}{s:Shared}{f:Addr}{fd:FuncData} (I:Inv X pins σ H s) (h:H f=some (.ext (fnφ f fd))):PySem.W.FnAt f s.heap:=by
 obtain ⟨⟨o,e,d⟩,_,_⟩:=(show ObjOk X.prog X.w H s.heap f (.ext (fnφ f fd)) from I.hok f _ h)
 obtain ⟨oc,od,dt,sl⟩:=o
 obtain rfl:dt=.func fd:=d
 exact ⟨oc,od,fd,sl,e⟩
def clφ (c:Addr) (u:Value):Heap→Prop:=fun h=>h.IsCell c (some u)
theorem clφ_ok {P:Program}{w:World}{H:Hp}{h:Heap}{c:Addr}{u:Value} (e:clφ c u h):ObjOk P w H h c (.ext (clφ c u)):=by
 obtain ⟨o,e1,d⟩:=id e
 exact ⟨e,⟨o,e1⟩,fun h1 h2 ⟨o,e1,d⟩ k=>⟨o,k o e1,d⟩⟩
def InCl (cl:List (Str×Addr)) (b:Addr):Prop:=∃ x,cl.lookup x=some b
structure CellsX (H:Hp) (cl:List (Str×Addr)) (frees:List Str) (fvs:List V):Prop where
 inj:∀ x y c,cl.lookup x=some c→cl.lookup y=some c→x=y
 trk:∀ x c,cl.lookup x=some c→∃ u,H c=some (.ext (clφ c u))
 val:∀ (i:Nat) (x:Str) (v:V),frees[i]? = some x→fvs[i]? = some v→∃ c u,cl.lookup x=some c∧H c=some (.ext (clφ c u))∧RelV v u
open Classical in
def dropC (H:Hp) (cl:List (Str×Addr)):Hp:=fun b=>if InCl cl b then none else H b
open Classical in
def joinC (H H':Hp) (cl:List (Str×Addr)):Hp:=fun b=>if InCl cl b then H b else H' b
section
variable {H H':Hp}{cl:List (Str×Addr)}{frees:List Str}{fvs:List V}{b:Addr}
theorem dropC_in (h:InCl cl b):dropC H cl b=none:=if_pos h
theorem dropC_out (h:¬InCl cl b):dropC H cl b=H b:=if_neg h
theorem joinC_in (h:InCl cl b):joinC H H' cl b=H b:=if_pos h
theorem joinC_out (h:¬InCl cl b):joinC H H' cl b=H' b:=if_neg h
theorem dropC_none (h:H b=none):dropC H cl b=none:=by
 unfold dropC
 split
 ·rfl
 ·exact h
theorem dropC_some {o:HO} (h:dropC H cl b=some o):¬InCl cl b∧H b=some o:=by
 by_cases z:InCl cl b
 ·rw [dropC_in z] at h;cases h
 ·rw [dropC_out z] at h;exact ⟨z,h⟩
theorem CellsX.out (C:CellsX H cl frees fvs) {o:HO} (h:H b=some o) (n:∀ φ,o≠HO.ext φ):¬InCl cl b:=fun ⟨x,e⟩=>by
 obtain ⟨u,q⟩:=C.trk x b e
 rw [h] at q
 exact n _ (Option.some.inj q)
theorem CellsX.outN (C:CellsX H cl frees fvs) (h:H b=none):¬InCl cl b:=fun ⟨x,e⟩=>by
 obtain ⟨u,q⟩:=C.trk x b e
 rw [h] at q
 cases q
theorem CellsX.keep (C:CellsX H cl frees fvs) {o:HO} (h:H b=some o) (n:∀ φ,o≠HO.ext φ):dropC H cl b=some o:=by
 rw [dropC_out (C.out h n)]
 exact h
theorem CellsX.same (C:CellsX H cl frees fvs) (s:Same H H'):CellsX H' cl frees fvs :=
 ⟨C.inj,fun x c e=>by obtain ⟨u,q⟩:=C.trk x c e;exact ⟨u,s _ _ q⟩,fun i x v h1 h2=>by obtain ⟨c,u,e,q,r⟩:=C.val i x v h1 h2;exact ⟨c,u,e,s _ _ q,r⟩⟩
theorem CellsX.at' {P:Program}{w:World}{s:Shared} (C:CellsX H cl frees fvs) (ok:HOk P w H s.heap):CellsAt s (dropC H cl) cl frees fvs:=by
 have cell:∀ c u,H c=some (.ext (clφ c u))→s.heap.IsCell c (some u):=fun c u q=>by
  obtain ⟨z,_,_⟩:=(show ObjOk P w H s.heap c (.ext (clφ c u)) from ok c _ q)
  exact z
 exact ⟨C.inj,fun x c e=>dropC_in ⟨x,e⟩,fun x c e=>by obtain ⟨u,q⟩:=C.trk x c e;exact ⟨some u,cell c u q⟩,fun i x v h1 h2=>by obtain ⟨c,u,e,q,r⟩:=C.val i x v h1 h2;exact ⟨c,u,e,cell c u q,r⟩⟩
theorem Env0.drop {P:Program}{w:World}{K:PySem.W.Frag}{mg:Str→Option Value}{base:Heap}{A:Around}{outer:List Env}{s:Shared} (e0:Env0 P w K mg base A outer s H) (C:CellsX H cl frees fvs):Env0 P w K mg base A outer s (dropC H cl):=by
 refine ⟨e0.frames,e0.mod,fun b o e=>⟨(e0.bs b o e).1,dropC_none (e0.bs b o e).2⟩,e0.bsz,e0.funs,fun b hb=>dropC_none (e0.frf b hb),fun b u e=>?_,e0.bare⟩
 obtain ⟨_,e'⟩:=dropC_some e
 exact (e0.hok b u e').stay (fun _ _ _ q=>q) (fun d q=>C.keep q (by intro φ z;cases z)) fun d xs q=>C.keep q (by intro φ z;cases z)
def liftQ (H:Hp) (cl:List (Str×Addr)) (Q:VK):VK:=fun r H'=>(∀ b,InCl cl b→H' b=none)→Q r (joinC H H' cl)
theorem FnOkC.runX {P:Program}{w:World}{K:PySem.W.Frag}{mg:Str→Option Value}{base:Heap}{k:Nat}{fd:FuncData}{p:Str}{sp:Sp}{A:Around}{outer:List Env}{s:Shared}{f:Addr}{u:Value}{v:V}{Q:VK}
  (F:FnOkC P w K mg base k fd p frees fvs sp) (hr:Room k A) (e0:Env0 P w K mg base A outer s H) (r:RelV v u) (hf:∃ o,s.heap.get? f=some o∧o.data=.func fd) (hc:s.heap.CodeRec fd.code fd.qualname) (C:CellsX H fd.closure frees fvs)
  (q:sp [v] (dropC H fd.closure) (liftQ H fd.closure Q) E0):codeAny (model P w) A (.call (.ref f) ⟨[u],[]⟩) (CR CX0 outer P w H s Q E0) s:=by
 refine codeAny_mono (F.run A outer s (dropC H fd.closure) f u v _ hr (e0.drop C) r hf hc (C.at' e0.hok) q) fun r s' h=>?_
 cases r with
 | error e=>exact h.elim
 | ok fl =>
  cases fl with
  | next=>exact False.elim h
  | brk=>exact False.elim h
  | cont=>exact False.elim h
  | ret u' =>
   obtain ⟨v',H',os,bare,un,ok',rv,q'⟩:=h
   have isC:∀ b,InCl fd.closure b→∃ o u,H b=some (.ext (clφ b u))∧s.heap.get? b=some o∧o.data=.cell (some u):=fun b ⟨x,e⟩=>by
    obtain ⟨u,hu⟩:=C.trk x b e
    obtain ⟨⟨o,ho,hd⟩,_,_⟩:=(show ObjOk P w H s.heap b (.ext (clφ b u)) from e0.hok b _ hu)
    exact ⟨o,u,hu,ho,hd⟩
   have hN:∀ b,InCl fd.closure b→H' b=none:=fun b hb=>by
    obtain ⟨o,u,hu,ho,_⟩:=isC b hb
    exact un.free b o ho (dropC_in hb) (by simp)
   have back:∀ b o,H' b=some o→joinC H H' fd.closure b=some o:=fun b o e=>by
    rw [joinC_out (fun z=>by rw [hN b z] at e;cases e)]
    exact e
   refine ⟨v',joinC H H' fd.closure,os,bare,⟨fun b o e n=>un.keep b o e (dropC_none n),fun b o e n=>un.slot b o e (dropC_none n),fun b o e n hx=>?_,un.there,fun b xs e=>?_,fun b o x e=>?_,fun b ps e=>?_⟩,fun b x e=>?_,rv,q' hN⟩
   ·rw [joinC_out (C.outN n)]
    exact un.free b o e (dropC_none n) hx
   ·exact back _ _ (un.tups b xs (C.keep e (by intro φ z;cases z)))
   ·exact back _ _ (un.frzs b o x (C.keep e (by intro φ z;cases z)))
   ·obtain ⟨more,e2⟩:=un.tbls b ps (C.keep e (by intro φ z;cases z))
    exact ⟨more,back _ _ e2⟩
   ·by_cases z:InCl fd.closure b
    ·rw [joinC_in z] at e
     obtain ⟨o,u,hu,ho,hd⟩:=isC b z
     rw [hu] at e
     cases e
     obtain ⟨sl,e2⟩:=un.any ho (dropC_in z) (by simp)
     exact clφ_ok ⟨_,e2,hd⟩
    ·rw [joinC_out z] at e
     exact (ok' b x e).stay (fun _ _ _ q=>q) (fun d q=>back _ _ q) fun d xs q=>back _ _ q
end
inductive CallOk (P:Program) (w:World) (K:PySem.W.Frag) (mg:Str→Option Value) (base:Heap) (k:Nat) (f:Addr) (sp:Sp) (s₀:Shared) (H₀:Hp):Prop
 | clo {fd:FuncData}{p:Str}{frees:List Str}{fvs:List V}{c:Addr} (F:FnOkC P w K mg base k fd p frees fvs sp) (hf:H₀ f=some (.ext (fnφ f fd))) (hd:fd.code=.ref c) (hc:H₀ c=some (.ext (cdφ c fd.qualname))) (C:CellsAt s₀ H₀ fd.closure frees fvs)
 | cloX {fd:FuncData}{p:Str}{frees:List Str}{fvs:List V}{c:Addr} (F:FnOkC P w K mg base k fd p frees fvs sp) (hf:H₀ f=some (.ext (fnφ f fd))) (hd:fd.code=.ref c) (hc:H₀ c=some (.ext (cdφ c fd.qualname))) (C:CellsX H₀ fd.closure frees fvs)
   (st:∀ v H Q,CellsX H fd.closure frees fvs→sp [v] H Q E0→sp [v] (dropC H fd.closure) (liftQ H fd.closure Q) E0)
 | mod {fd:FuncData}{p:Str} (F:FnOk P w K mg base CX0 k f fd [p] sp) (hk:PySem.W.keepIn K (.ref f)=true) (hb:Binds K fd [p] [])
def tCallV (X:Cx) (i:Nat) (f:Addr) (sp:Sp) (t:TA):TE:=fun σ H Q=>σ[i]? = some (some (.ref f))∧Same X.H₀ H∧t σ H fun vs H1=>∃ v,vs=[v]∧Same X.H₀ H1∧sp [v] H1 Q E0
theorem pe_callV {X:Cx}{k i:Nat}{x:Str}{e:Expr}{te:TA}{p pos:Pos}{f:Addr}{sp:Sp} (F:CallOk X.prog X.w X.K X.mg X.base k f sp X.s₀ X.H₀) (hr:Room k X.A) (hN:X.N[i]? = some x)
  (he:PA X [e] te) (hex:X.ex=[]:=by rfl) (hv:Vis X.env.scope x:=by first | exact Or.inl rfl | exact Or.inr (Or.inl rfl) | exact Or.inr (Or.inr rfl)) (hd:(x == ("__debug__" : Str))=false:=by decide) (hcd:(x == ("__classdict__" : Str))=false:=by decide)
  (hs:starEach [e] X.env=(false,eval e X.env) :: starEach [] X.env:=by rfl):PE X (.Call (.Name x p) [e] [] pos) (tCallV X i f sp te):=by
 intro pins s σ H Q I h
 obtain ⟨ef,s0,h⟩:=h
 refine wpAny_Call_Name_kw (thnE (pe_var hN hv hd hcd pins s σ H (fun v H'=>v=.ref f∧H'=H) I ⟨_,ef,rfl,rfl⟩) fun fv s1 v H1 I1 r1 zz6=>?_)
 obtain ⟨e1,e2⟩:=zz6
 subst e1 e2
 obtain rfl:fv=Value.ref f:=r1
 cases F with
 | clo F hf hdc hc C =>
  refine PySem.W.callWith_F (fnAt_of I1 (s0 _ _ hf)) (thn (he pos pins s1 σ H1 _ I1 h) fun us s2 ⟨vs,H2,I2,r,v,ev,s2',q⟩=>⟨fnAt_of I2 (s2' _ _ hf),?_⟩) hs rfl
  subst ev
  obtain ⟨u,rfl,ru⟩:=vals1 r
  obtain ⟨hfn,_,_⟩:=(show ObjOk X.prog X.w H2 s2.heap f (.ext (fnφ f _)) from I2.hok f _ (s2' _ _ hf))
  obtain ⟨hcd2,_,_⟩:=(show ObjOk X.prog X.w H2 s2.heap _ (.ext (cdφ _ _)) from I2.hok _ _ (s2' _ _ hc))
  refine wpAny_call (codeAny_mono (F.run X.A X.stack s2 H2 f u v Q hr I2.env0 ru hfn (by rw [hdc];exact hcd2) (C.now I2 hex) q) fun r s' hq=>?_)
  cases r with
  | error e=>exact hq.elim
  | ok fl =>
   cases fl with
   | ret u=>exact I2.after hq
   | next=>exact False.elim hq
   | brk=>exact False.elim hq
   | cont=>exact False.elim hq
 | cloX F hf hdc hc C st =>
  refine PySem.W.callWith_F (fnAt_of I1 (s0 _ _ hf)) (thn (he pos pins s1 σ H1 _ I1 h) fun us s2 ⟨vs,H2,I2,r,v,ev,s2',q⟩=>⟨fnAt_of I2 (s2' _ _ hf),?_⟩) hs rfl
  subst ev
  obtain ⟨u,rfl,ru⟩:=vals1 r
  obtain ⟨hfn,_,_⟩:=(show ObjOk X.prog X.w H2 s2.heap f (.ext (fnφ f _)) from I2.hok f _ (s2' _ _ hf))
  obtain ⟨hcd2,_,_⟩:=(show ObjOk X.prog X.w H2 s2.heap _ (.ext (cdφ _ _)) from I2.hok _ _ (s2' _ _ hc))
  refine wpAny_call (codeAny_mono (F.runX (outer:=X.stack) hr I2.env0 ru hfn (by rw [hdc];exact hcd2) (C.same s2') (st v H2 Q (C.same s2') q)) fun r s' hq=>?_)
  cases r with
  | error e=>exact hq.elim
  | ok fl =>
   cases fl with
   | ret u=>exact I2.after hq
   | next=>exact False.elim hq
   | brk=>exact False.elim hq
   | cont=>exact False.elim hq
 | mod F hk hb =>
  refine PySem.W.callWith_K (h₀:=X.base) I.ok.mod.kin hk (thnA (he pos pins s1 σ H1 _ I1 h) fun us s2 vs H2 I2 r zz7=>⟨I2.kIn,?_⟩) hs rfl
  obtain ⟨v,ev,s2',q⟩:=zz7
  subst ev
  exact run_fn (dvs:=[]) F hr hb .nil pass0 I2 r q
theorem FnOkC.mono {P:Program}{w:World}{K:PySem.W.Frag}{mg:Str→Option Value}{base:Heap}{j k:Nat}{fd:FuncData}{p:Str}{frees:List Str}{fvs:List V}{sp:Sp} (F:FnOkC P w K mg base j fd p frees fvs sp) (h:j≤k):FnOkC P w K mg base k fd p frees fvs sp :=
 ⟨fun A outer s H f u v Q hr=>F.run A outer s H f u v Q (hr.mono h)⟩
structure FnOkS (P:Program) (w:World) (K:PySem.W.Frag) (mg:Str→Option Value) (base:Heap) (k:Nat) (f:Addr) (fd:FuncData) (ps:List Str) (pre:Shared→Hp→List V→Prop) (sp:Sp):Prop where
 len:∀ vs H Q E,sp vs H Q E→vs.length=ps.length
 run:∀ (A:Around) (outer:List Env) (s:Shared) (H:Hp) (args:Args) (us:List Value) (vs:List V) (Q:VK) (E:XK),Room k A→Env0 P w K mg base A outer s H→BindsTo s fd args (ps.zip us)→Vals vs us→pre s H vs→sp vs H Q E →
  codeAny (model P w) A (.call (.ref f) args) (CR CX0 outer P w H s Q E) s
theorem Fun.okS {P:Program}{w:World}{K:PySem.W.Frag}{mg:Str→Option Value}{base:Heap}{x qual:Str}{st:Stmt}{f:Addr}{fd:FuncData}{N ps:List Str}{k:Nat}{pre:Shared→Hp→List V→Prop}{sp:Sp} (F:Fun K x qual st f fd) (S:FnScope N ps (defScope st))
  (len:∀ vs H Q E,sp vs H Q E→vs.length=ps.length)
  (hbody:∀ (cdv:Value) (A:Around) (outer:List Env) (s:Shared) (H:Hp) (vs:List V) (Q:VK) (E:XK),Room k (A.deeper (envOfC qual (defScope st) s.heap.objs.size f cdv))→pre s H vs→sp vs H Q E →
   ∃ t,PSs (cxOf CX0 P w K mg base N qual (defScope st) f cdv A outer s H E).nox (defBody st) t∧t { nx:=fun _ H'=>Q .non H',rt:=Q } (start N vs) H):FnOkS P w K mg base (k+1) f fd ps pre sp:=by
 obtain ⟨oc,od,kV,doc,pm,an,cdv,ct,osl,rfl,lk,hcd⟩:=F.ex
 refine ⟨len,fun A outer s H args us vs Q E hr e0 hb r hpre hsp=>?_⟩
 have hl:=len _ _ _ _ hsp
 have KX:K.In s.heap:=e0.mod.kin.keeps fun b o e=>(e0.bs b o e).1
 have lim:s.heap.NoLimit:=e0.mod.nolimit.keeps fun b o e=>(e0.bs b o e).1
 have hkind:∀ y∈ps.zip us,(defScope st).names.lookup y.1=some .local∨((defScope st).names.lookup y.1=some .cell∧((cellsFrom (s.heap.objs.size+1) (defScope st).names []).lookup y.1).isSome=true):=fun ⟨n,v⟩ hy=>by
  rcases S.par n (List.of_mem_zip hy).1 with q | q
  ·exact .inl q
  ·exact .inr ⟨q,PySem.W.cellsFrom_some _ _ _ (.inl q)⟩
 refine codeAny_call_function hr.depth (KX _ _ lk) rfl S.co S.gen rfl (PySem.W.codeRec_of KX hcd) (hb _ _ _ _ ?_)
 refine wpAny_newFunctionEnv_cells S.kind hkind fun env he s1 x=>?_
 subst he
 refine ⟨lim.keeps x.toInCall.keep,codeAny_func ?_⟩
 obtain ⟨t,ht,hq⟩:=hbody cdv A outer s H vs Q E (hr.deeper _) hpre hsp
 have I:Inv (cxOf CX0 P w K mg base N qual (defScope st) f cdv A outer s H E) [] (start N vs) H s1:=inv_start S hr.hd e0 hl r x
 refine wpAny_mono (ht.nox [] s1 (start N vs) H _ I hq) (fun fl s' hs=>?_) fun e s' hs=>hs
 have fin:∀ {σ':St}{H':Hp}{v:V}{u:Value},Inv (cxOf CX0 P w K mg base N qual (defScope st) f cdv A outer s H E) [] σ' H' s'→RelV v u→Q v H'→CE outer P w H s Q u s' :=
  fun {σ' H' v u} J rv q=>⟨v,H',J.os,J.bare,J.base,J.hok,rv,q⟩
 cases fl with
 | ret u =>
  obtain ⟨v,σ',H',J,rv,q⟩:=hs
  exact fin J rv q
 | next =>
  obtain ⟨σ',H',J,q⟩:=hs
  exact fin (v:=V.non) (u:=Value.none) J rfl q
 | brk =>
  obtain ⟨_,_,_,q⟩:=hs
  exact False.elim q
 | cont =>
  obtain ⟨_,_,_,q⟩:=hs
  exact False.elim q
def HasS (P:Program) (w:World) (K:PySem.W.Frag) (mg:Str→Option Value) (base:Heap) (x:Str) (k:Nat) (ps:List Str) {Γ:Type} (pre:Γ→Shared→Hp→List V→Prop) (sp:Γ→Sp):Prop :=
 ∃ f fd,mg x=some (.ref f)∧PySem.W.keepIn K (.ref f)=true∧Binds K fd ps []∧∀ g,FnOkS P w K mg base k f fd ps (pre g) (sp g)
def tCallS (X:Cx) {Γ:Type} (pre:Γ→Shared→Hp→List V→Prop) (sp:Γ→Sp) (t:TA):TE:=fun σ H Q=>t σ H fun vs H1=>∃ g,(∀ pins s,Inv X pins σ H1 s→pre g s H1 vs)∧sp g vs H1 Q E0
theorem pe_fnS {X:Cx}{x:Str}{k:Nat}{ps:List Str}{Γ:Type}{pre:Γ→Shared→Hp→List V→Prop}{sp:Γ→Sp}{e:Expr}{es:List Expr}{t:TA}{p pos:Pos} (h:HasS X.prog X.w X.K X.mg X.base x k ps pre sp) (hr:Room k X.A) (ha:PA X (e :: es) t) (hg:Gl X x:=by rfl) (hdb:(x == ("__debug__" : Str))=false:=by decide)
  (he:starEach (e :: es) X.env=(false,eval e X.env) :: starEach es X.env:=by rfl) (hpl:(backTo pos (starEach es X.env)).any (·.1)=false:=by rfl):PE X (.Call (.Name x p) (e :: es) [] pos) (tCallS X pre sp t):=by
 obtain ⟨f,fd,hm,hk,hb,F⟩:=h
 intro pins s σ H Q I h
 refine wpAny_Call_Name_kw (ld_glob I hg hm ?_ hdb)
 refine PySem.W.callWith_K (h₀:=X.base) I.ok.mod.kin hk (thnA (ha pos pins s σ H _ I h) fun us s1 vs H1 I1 r zz8=>⟨I1.kIn,?_⟩) he hpl
 obtain ⟨g,hp,q⟩:=zz8
 have hl:(us++[]).length=ps.length:=by rw [List.append_nil,← r.length];exact (F g).len _ _ _ _ q
 have hb':=hb s1 us I1.kIn hl
 rw [List.append_nil] at hb'
 refine wpAny_call (codeAny_mono ((F g).run X.A X.stack s1 H1 ⟨us,[]⟩ us vs Q E0 hr I1.env0 hb' r (hp pins s1 I1) q) fun r s' hq=>?_)
 cases r with
 | error e=>exact hq.elim
 | ok fl =>
  cases fl with
  | ret u=>exact I1.after hq
  | next=>exact False.elim hq
  | brk=>exact False.elim hq
  | cont=>exact False.elim hq
end L2
namespace L2
open PySem PySem.Spec PyProof.Rows
noncomputable instance decPy:DecidableEq PyData:=fun a b=>Classical.propDecidable (a=b)
mutual
def noB:PyData→Bool
 | .int _=>true
 | .none=>true
 | .tuple xs=>noBs xs
 | _=>false
def noBs:List PyData→Bool
 | []=>true
 | x :: xs=>noB x&&noBs xs
end
def keyD (c:Bool):PyData→Bool
 | .tuple (.bool _ :: r)=>c&&noBs r
 | .tuple xs=>!c&&noBs xs
 | _=>false
mutual
theorem eqv_noB:∀ x y:PyData,noB x=true→noB y=true→PyData.eqv x y=decide (x=y)
 | .int i,.int j,_,_=>by
  simp only [PyData.eqv]
  by_cases h:i=j<;>simp [h]
 | .none,.none,_,_=>by simp [PyData.eqv]
 | .tuple xs,.tuple ys,hx,hy=>by
  simp only [noB] at hx hy
  simp only [PyData.eqv,eqv_noBs xs ys hx hy]
  by_cases h:xs=ys<;>simp [h]
 | .int _,.none,_,_ | .int _,.tuple _,_,_ | .none,.int _,_,_ | .none,.tuple _,_,_ | .tuple _,.int _,_,_ | .tuple _,.none,_,_=>by simp [PyData.eqv]
 | .bool _,_,h,_ | .str _,_,h,_ | .list _,_,h,_ | .dict _,_,h,_=>by simp [noB] at h
 | _,.bool _,_,h | _,.str _,_,h | _,.list _,_,h | _,.dict _,_,h=>by simp [noB] at h
theorem eqv_noBs:∀ xs ys:List PyData,noBs xs=true→noBs ys=true→PyData.eqvAll xs ys=decide (xs=ys)
 | [],[],_,_=>by simp [PyData.eqvAll]
 | [],_ :: _,_,_=>by simp [PyData.eqvAll]
 | _ :: _,[],_,_=>by simp [PyData.eqvAll]
 | x :: xs,y :: ys,hx,hy=>by
  simp only [noBs,Bool.and_eq_true] at hx hy
  simp only [PyData.eqvAll,eqv_noB x y hx.1 hy.1,eqv_noBs xs ys hx.2 hy.2]
  by_cases h1:x=y
  ·by_cases h2:xs=ys<;>simp [h1,h2]
  ·simp [h1]
end
theorem keyD_false {d:PyData} (h:keyD false d=true):∃ xs,d=.tuple xs∧noBs xs=true:=by
 cases d with
 | tuple xs =>
  refine ⟨xs,rfl,?_⟩
  cases xs with
  | nil=>rfl
  | cons x r=>cases x<;>simp_all [keyD]
 | _=>simp [keyD] at h
theorem keyD_true {d:PyData} (h:keyD true d=true):∃ b xs,d=.tuple (.bool b :: xs)∧noBs xs=true:=by
 cases d with
 | tuple xs =>
  cases xs with
  | nil=>simp [keyD] at h
  | cons x r =>
   cases x with
   | bool b=>exact ⟨b,r,rfl,by simpa [keyD] using h⟩
   | _=>simp [keyD] at h
 | _=>simp [keyD] at h
theorem eqv_key {c:Bool}{x y:PyData} (hx:keyD c x=true) (hy:keyD c y=true):PyData.eqv x y=decide (x=y):=by
 cases c with
 | false =>
  obtain ⟨xs,rfl,h1⟩:=keyD_false hx
  obtain ⟨ys,rfl,h2⟩:=keyD_false hy
  simp only [PyData.eqv,eqv_noBs xs ys h1 h2]
  by_cases h:xs=ys<;>simp [h]
 | true =>
  obtain ⟨a,xs,rfl,h1⟩:=keyD_true hx
  obtain ⟨b,ys,rfl,h2⟩:=keyD_true hy
  simp only [PyData.eqv,PyData.eqvAll,eqv_noBs xs ys h1 h2]
  by_cases h:xs=ys
  ·cases a<;>cases b<;>simp [h]
  ·simp [h]
mutual
def inK:PyData→Bool
 | .int _=>true
 | .bool _=>true
 | .none=>true
 | .tuple xs=>inKs xs
 | _=>false
def inKs:List PyData→Bool
 | []=>true
 | x :: xs=>inK x&&inKs xs
end
mutual
theorem inK_noB:∀ x:PyData,noB x=true→inK x=true
 | .int _,_ | .none,_=>rfl
 | .tuple xs,h=>by simp only [noB] at h;simp only [inK];exact inKs_noBs xs h
 | .bool _,h | .str _,h | .list _,h | .dict _,h=>by simp [noB] at h
theorem inKs_noBs:∀ xs:List PyData,noBs xs=true→inKs xs=true
 | [],_=>rfl
 | x :: xs,h=>by
  simp only [noBs,Bool.and_eq_true] at h
  simp only [inKs,Bool.and_eq_true]
  exact ⟨inK_noB x h.1,inKs_noBs xs h.2⟩
end
theorem keyD_in {c:Bool}{d:PyData} (h:keyD c d=true):∃ xs,d=.tuple xs∧inKs xs=true:=by
 cases c with
 | false =>
  obtain ⟨xs,rfl,h1⟩:=keyD_false h
  exact ⟨xs,rfl,inKs_noBs xs h1⟩
 | true =>
  obtain ⟨a,xs,rfl,h1⟩:=keyD_true h
  exact ⟨_,rfl,by simp [inKs,inK,inKs_noBs xs h1]⟩
mutual
theorem lay_inK:∀ x:PyData,inK x=true→x.canLay0=true
 | .int _,_ | .none,_ | .bool _,_=>by simp [PyData.canLay0]
 | .tuple xs,h=>by simp only [inK] at h;simp only [PyData.canLay0];exact lay_inKs xs h
 | .str _,h | .list _,h | .dict _,h=>by simp [inK] at h
theorem lay_inKs:∀ xs:List PyData,inKs xs=true→PyData.canLayAll0 xs=true
 | [],_=>by simp [PyData.canLayAll0]
 | x :: xs,h=>by
  simp only [inKs,Bool.and_eq_true] at h
  simp only [PyData.canLayAll0,Bool.and_eq_true]
  exact ⟨lay_inK x h.1,lay_inKs xs h.2⟩
end
mutual
def hashD:PyData→Int
 | .int i=>hashInt i
 | .bool b=>reduceHash (if b then 1 else 0)
 | .none=>reduceHash 0xFCA86420
 | .tuple xs=>reduceHash (Builtin.Tuple.tupleHashOf (hashDs xs))
 | _=>0
def hashDs:List PyData→List Int
 | []=>[]
 | x :: xs=>hashD x :: hashDs xs
end
mutual
def drawD:PyData→Nat
 | .tuple xs=>drawDs xs+1
 | _=>1
def drawDs:List PyData→Nat
 | []=>0
 | x :: xs=>drawD x+drawDs xs
end
section
variable {prog:Program}{w:World}{E:Value→Shared→Prop}
mutual
theorem hash_run:∀ (d:PyData) (v:Value) (as:List Addr) (A:Around) (s:Shared) (Q:Int→Shared→Prop),inK d=true→Reads s.heap v d as→A.units+d.depth < cLine→Q (hashD d) { s with toks:=s.toks+drawD d }→wpAny (model prog w) A (pyHash v) Q E s
 | .none,_,_,A,s,Q,_,x,hu,h=>by
  cases x
  exact PySem.W.pyHash_slot (T:="NoneType") rfl F.slot_NoneType_hash F.entry_NoneType_hash (F.args_NoneType_hash_1 _) (beq_builtin_none _) (.inr (by omega)) (wpAny_bind (wpAny_pure (wpAny_bind (wpAny_mkInt (wpAny_pure ⟨_,_,rfl,h⟩)))))
 | .bool b,_,_,A,s,Q,_,x,hu,h=>by
  cases x
  refine PySem.W.pyHash_slot (T:="bool") rfl F.slot_bool_hash entry_int_hash (args_int_hash _) (beq_builtin_none _) (.inr (by omega)) ?_
  cases b
  ·exact (show wpAny _ _ (do ret (← mkInt 0)) _ _ s from wpAny_bind (wpAny_mkInt (wpAny_pure ⟨_,_,rfl,h⟩)))
  ·exact (show wpAny _ _ (do ret (← mkInt 1)) _ _ s from wpAny_bind (wpAny_mkInt (wpAny_pure ⟨_,_,rfl,h⟩)))
 | .int i,_,_,A,s,Q,_,x,_,h=>by cases x;exact wpAny_pyHash_int h
 | .tuple xs,_,_,A,s,Q,hk,x,hu,h=>by
  cases x with
  | @tuple a o vs n _ _ ho hc hd hr =>
   refine PySem.W.pyHash_slot (T:="tuple") ⟨_,ho,hc⟩ F.slot_tuple_hash F.entry_tuple_hash (F.args_tuple_hash_1 _) (beq_builtin_none _) (.inr (by omega)) ?_
   show wpAny _ _ (Builtin.Tuple.tupleItemsOf (.ref a) >>= _) _ _ s
   refine wpAny_bind (wpAny_tupleItemsOf ho hd ?_)
   refine wpAny_bind ?_
   rw [← Array.forIn_toList]
   refine hash_loop xs vs.toList _ A.in1 s #[] _ (by simpa only [inK] using hk) hr (by simp only [PyData.depth,Around.in1_units] at hu ⊢;omega) fun b hb=>?_
   show wpAny _ _ (retInt (Builtin.Tuple.tupleHashOf b.toList)) _ _ _
   rw [hb]
   exact wpAny_bind (wpAny_mkInt (wpAny_pure ⟨_,_,rfl,h⟩))
 | .str _,_,_,_,_,_,hk,_,_,_ | .list _,_,_,_,_,_,hk,_,_,_ | .dict _,_,_,_,_,_,hk,_,_,_=>by simp [inK] at hk
theorem hash_loop:∀ (xs:List PyData) (vs:List Value) (as:List Addr) (A:Around) (s:Shared) (b:Array Int) (Q:Array Int→Shared→Prop),inKs xs=true→ReadsAll s.heap vs xs as→A.units+PyData.depthAll xs < cLine →
  (∀ b',b'.toList=b.toList++hashDs xs→Q b' { s with toks:=s.toks+drawDs xs }) →
  wpAny (model prog w) A (forIn vs b fun x r=>do let h ← pyHash x;pure PUnit.unit;pure (ForInStep.yield (r.push h))) Q E s
 | [],_,_,A,s,b,Q,_,x,_,h=>by
  cases x
  exact wpAny_pure (h b (by simp [hashDs]))
 | d :: xs,_,_,A,s,b,Q,hk,x,hu,h=>by
  cases x with
  | cons x1 x2 =>
   simp only [inKs,Bool.and_eq_true,PyData.depthAll] at hk hu
   rw [List.forIn_cons]
   refine wpAny_bind (wpAny_bind (hash_run d _ _ A s _ hk.1 x1 (by omega) ?_))
   refine wpAny_bind (wpAny_pure (wpAny_pure ?_))
   refine hash_loop xs _ _ A _ _ Q hk.2 x2 (by omega) fun b' hb=>?_
   have:=h b' (by simp [hb,hashDs])
   simpa [drawDs,Nat.add_assoc] using this
end
end
section
variable {prog:Program}{w:World}{E:Value→Shared→Prop}
mutual
theorem quiet_run:∀ (d:PyData) (v:Value) (as:List Addr) (n:Nat) (A:Around) (s:Shared) (Q:Bool→Shared→Prop),inK d=true→Reads s.heap v d as→d.depth≤n→Q true s→wpAny (model prog w) A (eqIsQuiet n v) Q E s
 | .none,_,_,n,A,s,Q,_,x,hn,h=>by
  cases x
  rw [eqIsQuiet_byValue n rfl]
  exact wpAny_pure h
 | .bool b,_,_,n,A,s,Q,_,x,hn,h=>by
  cases x
  rw [eqIsQuiet_byValue n rfl]
  exact wpAny_pure h
 | .int i,_,_,n,A,s,Q,_,x,_,h=>by
  cases x
  rw [eqIsQuiet_byValue n rfl]
  exact wpAny_pure h
 | .tuple xs,_,_,0,A,s,Q,hk,x,hn,h=>by simp [PyData.depth] at hn
 | .tuple xs,_,_,n+1,A,s,Q,hk,x,hn,h=>by
  cases x with
  | @tuple a o vs m _ _ ho hc hd hr =>
   have hT:s.TypeIs (.ref a) "tuple":=⟨o,ho,hc⟩
   unfold eqIsQuiet
   refine wpAny_bind (wpAny_specialOf hT F.slot_tuple_eq.lookup ?_)
   show wpAny _ _ (isInstance (.ref a) (.type "tuple") >>= _) _ _ s
   refine wpAny_bind (wpAny_isInstance hT isSubtype_tuple_tuple ?_)
   simp only [Bool.not_true,Bool.false_eq_true,if_false]
   refine wpAny_bind (wpAny_seqItems ho hd ?_)
   refine wpAny_bind ?_
   show wpAny _ _ (forIn vs _ _) _ _ s
   rw [← Array.forIn_toList]
   refine wpAny_forIn_list _ (fun rest r s'=>r.1=none∧s'=s∧∃ ys bs,ReadsAll s.heap rest ys bs∧inKs ys=true∧PyData.depthAll ys≤n) _ ?_ ?_ _ _ ⟨rfl,rfl,xs,_,hr,by simpa only [inK] using hk,by simp only [PyData.depth] at hn;omega⟩
   ·rintro v rest r s' ⟨hr1,rfl,ys,bs,hys,hk',hd'⟩
    cases hys with
    | @cons _ _ y ys _ _ y1 y2 =>
     simp only [inKs,Bool.and_eq_true,PyData.depthAll] at hk' hd'
     refine wpAny_bind (quiet_run y v _ n A s' _ hk'.1 y1 (by omega) ?_)
     simp only [Bool.not_true,Bool.false_eq_true,if_false]
     exact wpAny_pure ⟨rfl,rfl,_,_,y2,hk'.2,by omega⟩
   ·rintro ⟨r1,r2⟩ s' ⟨hr1,rfl,_⟩
    simp only at hr1
    subst hr1
    exact wpAny_pure h
 | .str _,_,_,_,_,_,_,hk,_,_,_ | .list _,_,_,_,_,_,_,hk,_,_,_ | .dict _,_,_,_,_,_,_,hk,_,_,_=>by simp [inK] at hk
end
end
mutual
theorem reads_keep {h h':Heap}{d:Addr}{o:Obj}{es:Array DictEntry}{ep:Nat} (ho:h.get? d=some o) (hd:o.data=.dict es ep) (hs:Heap.SameBut d h h'):∀ (x:PyData) (v:Value) (as:List Addr),inK x=true→Reads h v x as→Reads h' v x as
 | .none,_,_,_,r=>by cases r;exact .none
 | .bool _,_,_,_,r=>by cases r;exact .bool _
 | .int _,_,_,_,r=>by cases r;exact .int _ _
 | .tuple xs,_,_,hk,r=>by
  cases r with
  | @tuple a o' vs n _ _ ho' hc hd' hr =>
   have hne:a≠d:=by
    rintro rfl
    rw [ho] at ho'
    cases ho'
    rw [hd] at hd'
    cases hd'
   exact .tuple ((hs.2 a hne).trans ho') hc hd' (reads_keeps ho hd hs xs _ _ (by simpa only [inK] using hk) hr)
 | .str _,_,_,hk,_ | .list _,_,_,hk,_ | .dict _,_,_,hk,_=>by simp [inK] at hk
theorem reads_keeps {h h':Heap}{d:Addr}{o:Obj}{es:Array DictEntry}{ep:Nat} (ho:h.get? d=some o) (hd:o.data=.dict es ep) (hs:Heap.SameBut d h h'):∀ (xs:List PyData) (vs:List Value) (as:List Addr),inKs xs=true→ReadsAll h vs xs as→ReadsAll h' vs xs as
 | [],_,_,_,r=>by cases r;exact .nil
 | x :: xs,_,_,hk,r=>by
  simp only [inKs,Bool.and_eq_true] at hk
  cases r with
  | cons r1 r2=>exact .cons (reads_keep ho hd hs x _ _ hk.1 r1) (reads_keeps ho hd hs xs _ _ hk.2 r2)
end
def nkKind (prog:Program) (w:World) (c:Bool):HeapKind prog w PyData where
 is:=fun h k a=>keyD c k=true∧k.depth≤8∧∃ as,Reads h (.ref a) k as
 hash:=hashD
 draws:=drawD
 room:=fun A=>A.units+8 < cLine
 inj:=fun {h a x y} hx hy=>by
  obtain ⟨k1,_,as,r1⟩:=hx
  obtain ⟨_,_,bs,r2⟩:=hy
  obtain ⟨xs,rfl,h1⟩:=keyD_in k1
  exact SeqAt.Reads.unique _ _ _ _ _ (lay_inK _ (by simpa only [inK] using h1)) r1 r2
 keeps:=fun {h h' k a d o es ep} hx ho hd hs=>by
  obtain ⟨k1,k2,as,r1⟩:=hx
  obtain ⟨xs,rfl,h1⟩:=keyD_in k1
  exact ⟨k1,k2,as,reads_keep ho hd hs _ _ _ (by simpa only [inK] using h1) r1⟩
 pyHash:=fun {A E s k a Q} hu hx h=>by
  obtain ⟨k1,k2,as,r1⟩:=hx
  obtain ⟨xs,rfl,h1⟩:=keyD_in k1
  exact hash_run _ _ _ A s Q (by simpa only [inK] using h1) r1 (by omega) h
 eqBool:=fun {A E s x y a b Q} hu hx hy h=>by
  obtain ⟨k1,k2,as,r1⟩:=hx
  obtain ⟨k3,k4,bs,r2⟩:=hy
  have e:=eqv_key k1 k3
  obtain ⟨xs,rfl,h1⟩:=keyD_in k1
  obtain ⟨ys,rfl,h2⟩:=keyD_in k3
  refine SeqAt.eqAt_reads _ _ A s _ _ _ _ r1 r2 (lay_inK _ (by simpa only [inK] using h1)) (lay_inK _ (by simpa only [inK] using h2)) ?_ prog w E Q ?_
  ·have:min (PyData.tuple xs).depth (PyData.tuple ys).depth≤(PyData.tuple xs).depth:=Nat.min_le_left _ _
   omega
  ·rw [e]
   exact h
 quiet:=fun {A E s k a Q} hx h=>by
  obtain ⟨k1,k2,as,r1⟩:=hx
  obtain ⟨xs,rfl,h1⟩:=keyD_in k1
  exact quiet_run _ _ _ 8 A s Q (by simpa only [inK] using h1) r1 k2 h
end L2
namespace My
open PySem L2
theorem paired_get {α β:Type}{F:α→β→Prop}:∀ {l₁:List α}{l₂:List β},Paired F l₁ l₂→∀ (i:Nat) (b:β),l₂[i]? = some b→∃ a,l₁[i]? = some a∧F a b
 | _,_,.nil,i,b,e=>by simp at e
 | _,_,.cons h t,0,b,e=>by simp at e;subst e;exact ⟨_,rfl,h⟩
 | _,_,.cons h t,i+1,b,e=>by
  obtain ⟨a,h1,h2⟩:=paired_get t i b (by simpa using e)
  exact ⟨a,by simpa using h1,h2⟩
theorem paired_getL {α β:Type}{F:α→β→Prop}:∀ {l₁:List α}{l₂:List β},Paired F l₁ l₂→∀ (i:Nat) (a:α),l₁[i]? = some a→∃ b,l₂[i]? = some b∧F a b
 | _,_,.nil,i,a,e=>by simp at e
 | _,_,.cons h t,0,a,e=>by simp at e;subst e;exact ⟨_,rfl,h⟩
 | _,_,.cons h t,i+1,a,e=>by
  obtain ⟨b,h1,h2⟩:=paired_getL t i a (by simpa using e)
  exact ⟨b,by simpa using h1,h2⟩
theorem paired_length {α β:Type}{F:α→β→Prop}:∀ {l₁:List α}{l₂:List β},Paired F l₁ l₂→l₁.length=l₂.length
 | _,_,.nil=>rfl
 | _,_,.cons _ t=>by simp [paired_length t]
theorem paired_imp {α β:Type}{F G:α→β→Prop} (f:∀ a b,F a b→G a b):∀ {l₁:List α}{l₂:List β},Paired F l₁ l₂→Paired G l₁ l₂
 | _,_,.nil=>.nil
 | _,_,.cons h t=>.cons (f _ _ h) (paired_imp f t)
theorem paired_snoc {α β:Type}{F:α→β→Prop}{a:α}{b:β}:∀ {l₁:List α}{l₂:List β},Paired F l₁ l₂→F a b→Paired F (l₁++[a]) (l₂++[b])
 | _,_,.nil,h=>.cons h .nil
 | _,_,.cons h₁ t,h=>.cons h₁ (paired_snoc t h)
abbrev Tab:=List (List Int)
def RowAt (H:Hp) (v:V) (r:List Int):Prop:=∃ a,v=.ref a∧H a=some (.tup (r.map V.int))
def TabAt (H:Hp) (v:V) (t:Tab):Prop:=∃ a vs,v=.ref a∧H a=some (.tup vs)∧Paired (RowAt H) vs t
def TabsAt (H:Hp) (v:V) (ts:List Tab):Prop:=∃ a vs,v=.ref a∧H a=some (.tup vs)∧Paired (TabAt H) vs ts
def SchAt (H:Hp) (v:V) (b:Int) (ts:List Tab):Prop:=∃ a w,v=.ref a∧H a=some (.tup [.int b,w])∧TabsAt H w ts
theorem RowAt.same {H H':Hp}{v:V}{r:List Int} (s:Same H H') (h:RowAt H v r):RowAt H' v r:=by
 obtain ⟨a,e,h⟩:=h
 exact ⟨a,e,s _ _ h⟩
theorem TabAt.same {H H':Hp}{v:V}{t:Tab} (s:Same H H') (h:TabAt H v t):TabAt H' v t:=by
 obtain ⟨a,vs,e,h,p⟩:=h
 exact ⟨a,vs,e,s _ _ h,paired_imp (fun _ _=>RowAt.same s) p⟩
theorem TabsAt.same {H H':Hp}{v:V}{ts:List Tab} (s:Same H H') (h:TabsAt H v ts):TabsAt H' v ts:=by
 obtain ⟨a,vs,e,h,p⟩:=h
 exact ⟨a,vs,e,s _ _ h,paired_imp (fun _ _=>TabAt.same s) p⟩
theorem SchAt.same {H H':Hp}{v:V}{b:Int}{ts:List Tab} (s:Same H H') (h:SchAt H v b ts):SchAt H' v b ts:=by
 obtain ⟨a,w,e,h,p⟩:=h
 exact ⟨a,w,e,s _ _ h,p.same s⟩
def wholeB (v l m:Int):Bool:=decide (l≤v)&&decide (v≤m)
def lenB {α:Type} (xs:List α) (l m:Int):Bool:=decide (l≤(xs.length:Int))&&decide ((xs.length:Int)≤m)
def rowB (b n:Int) (r:List Int):Bool:=lenB r b b&&(r.map fun e=>wholeB e 0 (n-1)).all id
def tabB (b n:Int) (t:Tab):Bool:=lenB t n n&&(t.map fun r=>rowB b n r).all id
def tabsB (b:Int) (ts:List Tab):Bool:=lenB ts 1 6&&lenB (ts.headD []) 1 12&&(ts.map fun t=>tabB b ((ts.headD []).length:Int) t).all id
def schB (b:Int) (ts:List Tab):Bool:=wholeB b 2 10&&tabsB b ts
theorem wholeB_iff {v l m:Int}:wholeB v l m=true↔l≤v∧v≤m:=by simp [wholeB]
theorem lenB_iff {α:Type}{xs:List α}{l m:Int}:lenB xs l m=true↔l≤(xs.length:Int)∧(xs.length:Int)≤m:=by simp [lenB]
def nst (ts:List Tab):Nat:=(ts.headD []).length
structure Ok (b:Int) (ts:List Tab):Prop where
 b1:2≤b
 b2:b≤10
 t1:1≤ts.length
 t2:ts.length≤6
 n1:1≤nst ts
 n2:nst ts≤12
 rows:∀ t∈ts,t.length=nst ts
 figs:∀ t∈ts,∀ r∈t,(r.length:Int)=b
 ents:∀ t∈ts,∀ r∈t,∀ e∈r,0≤e∧e < (nst ts:Int)
theorem schB_iff {b:Int}{ts:List Tab}:schB b ts=true↔Ok b ts:=by
 unfold schB tabsB tabB rowB
 simp only [Bool.and_eq_true,wholeB_iff,lenB_iff,List.all_eq_true,List.mem_map,id_eq,forall_exists_index,and_imp,forall_apply_eq_imp_iff₂]
 constructor
 ·rintro ⟨⟨h1,h2⟩,⟨⟨h3,h4⟩,h5,h6⟩,h7⟩
  refine ⟨h1,h2,by omega,by omega,by unfold nst;omega,by unfold nst;omega,fun t ht=>?_,fun t ht r hr=>?_,fun t ht r hr e he=>?_⟩
  ·have:=(h7 t ht).1
   unfold nst
   omega
  ·have:=((h7 t ht).2 r hr).1
   omega
  ·have:=((h7 t ht).2 r hr).2 e he
   unfold nst
   omega
 ·intro h
  have:=h.b1
  have:=h.b2
  have:=h.t1
  have:=h.t2
  have h1:=h.n1
  have h2:=h.n2
  unfold nst at h1 h2
  refine ⟨⟨h.b1,h.b2⟩,⟨⟨by omega,by omega⟩,by omega,by omega⟩,fun t ht=>⟨?_,fun r hr=>⟨?_,fun e he=>?_⟩⟩⟩
  ·have:=h.rows t ht
   unfold nst at this
   omega
  ·have:=h.figs t ht r hr
   omega
  ·have:=h.ents t ht r hr e he
   unfold nst at this
   omega
def ent (ts:List Tab) (t:Nat) (s f:Int):Int:=((ts.getD t []).getD s.toNat []).getD f.toNat 0
def rd (ts:List Tab):Nat→Int→List Int→Int
 | _,s,[]=>s
 | t,s,f :: fs=>rd ts (t+1) (ent ts (t % ts.length) s f) fs
theorem rd_snoc (ts:List Tab):∀ (fs:List Int) (t:Nat) (s f:Int),rd ts t s (fs++[f])=ent ts ((t+fs.length) % ts.length) (rd ts t s fs) f
 | [],t,s,f=>by simp [rd]
 | g :: fs,t,s,f=>by
  rw [List.cons_append]
  unfold rd
  rw [rd_snoc ts fs]
  have e:t+1+fs.length=t+(g :: fs).length:=by simp;omega
  rw [e]
theorem take_succ_get {α:Type}{xs:List α}{i:Nat}{x:α} (h:xs[i]? = some x):xs.take (i+1)=xs.take i++[x]:=by
 rw [List.take_add_one,h]
 rfl
def figsIn (b:Int) (fs:List Int):Prop:=∀ f∈fs,0≤f∧f < b
theorem Ok.look {b:Int}{ts:List Tab} (o:Ok b ts) {t:Nat}{s f:Int} (ht:t < ts.length) (s0:0≤s) (s1:s < (nst ts:Int)) (f0:0≤f) (f1:f < b) :
  ∃ tab row,ts[t]? = some tab∧tab[s.toNat]? = some row∧row[f.toNat]? = some (ent ts t s f)∧0≤ent ts t s f∧ent ts t s f < (nst ts:Int):=by
 have h1:ts[t]∈ts:=List.getElem_mem ht
 have l1:=o.rows _ h1
 have hs:s.toNat < ts[t].length:=by omega
 have h2:ts[t][s.toNat]∈ts[t]:=List.getElem_mem hs
 have l2:=o.figs _ h1 _ h2
 have hf:f.toNat < ts[t][s.toNat].length:=by omega
 have h3:ts[t][s.toNat][f.toNat]∈ts[t][s.toNat]:=List.getElem_mem hf
 have e:ent ts t s f=ts[t][s.toNat][f.toNat]:=by
  unfold ent
  simp [List.getD_eq_getElem?_getD,ht,hs,hf]
 rw [e]
 exact ⟨ts[t],ts[t][s.toNat],by simp [ht],by simp [hs],by simp [hf],o.ents _ h1 _ h2 _ h3⟩
theorem Ok.rd_lt {b:Int}{ts:List Tab} (o:Ok b ts):∀ (fs:List Int) (t:Nat) (s:Int),0≤s→s < (nst ts:Int)→figsIn b fs→0≤rd ts t s fs∧rd ts t s fs < (nst ts:Int)
 | [],t,s,h0,h1,_=>⟨h0,h1⟩
 | f :: fs,t,s,h0,h1,hf=>by
  unfold rd
  have hm:t % ts.length < ts.length:=Nat.mod_lt _ o.t1
  obtain ⟨_,_,_,_,_,e0,e1⟩:=o.look hm h0 h1 (hf f List.mem_cons_self).1 (hf f List.mem_cons_self).2
  exact Ok.rd_lt o fs _ _ e0 e1 fun g hg=>hf g (List.mem_cons_of_mem _ hg)
theorem atI_int {α:Type}{xs:List α}{i:Int}{v:α} (h0:0≤i) (h:xs[i.toNat]? = some v):atI xs i=some v:=by
 have e:=atI_nat h
 rwa [Int.toNat_of_nonneg h0] at e
theorem TabsAt.look {H:Hp}{v:V}{b:Int}{ts:List Tab} (h:TabsAt H v ts) (o:Ok b ts) {t:Nat}{s f:Int} (ht:t < ts.length) (s0:0≤s) (s1:s < (nst ts:Int)) (f0:0≤f) (f1:f < b) :
  ∃ a1 x1 y1 a2 x2 y2 a3 x3,v=.ref a1∧H a1=some (.tup x1)∧atI x1 (t:Int)=some y1∧y1=.ref a2∧H a2=some (.tup x2)∧atI x2 s=some y2∧y2=.ref a3∧H a3=some (.tup x3)∧atI x3 f=some (.int (ent ts t s f)):=by
 obtain ⟨tab,row,e1,e2,e3,_,_⟩:=o.look ht s0 s1 f0 f1
 obtain ⟨a1,x1,rfl,h1,p1⟩:=h
 obtain ⟨y1,q1,⟨a2,x2,z1,h2,p2⟩⟩:=paired_get p1 _ _ e1
 obtain ⟨y2,q2,⟨a3,z2,h3⟩⟩:=paired_get p2 _ _ e2
 refine ⟨a1,x1,y1,a2,x2,y2,a3,_,rfl,h1,atI_nat q1,z1,h2,atI_int s0 q2,z2,h3,atI_int f0 ?_⟩
 rw [List.getElem?_map,e3]
 rfl
theorem TabsAt.len {H:Hp}{v:V}{ts:List Tab} (h:TabsAt H v ts):∃ a xs,v=.ref a∧H a=some (.tup xs)∧xs.length=ts.length:=by
 obtain ⟨a1,x1,e,h1,p1⟩:=h
 exact ⟨a1,x1,e,h1,paired_length p1⟩
end My
namespace L2
open PySem PySem.Spec PyProof.Rows
inductive KR (K:PySem.W.Frag) (H:Hp):V→PyData→Prop
 | int (i:Int):KR K H (.int i) (.int i)
 | bl (b:Bool):KR K H (.bl b) (.bool b)
 | non:KR K H .non .none
 | tup {a:Addr}{xs:List V}{ds:List PyData}:SqT K H a xs→xs.length=ds.length→(∀ (i:Nat) x d,xs[i]? = some x→ds[i]? = some d→KR K H x d)→KR K H (.ref a) (.tuple ds)
theorem KR.mono {K:PySem.W.Frag}{H H':Hp} (s:∀ a xs,SqT K H a xs→SqT K H' a xs) {v:V}{d:PyData} (h:KR K H v d):KR K H' v d:=by
 induction h with
 | int i=>exact .int i
 | bl b=>exact .bl b
 | non=>exact .non
 | tup h1 h2 _ ih=>exact .tup (s _ _ h1) h2 ih
theorem repAll_of {K:PySem.W.Frag}{H:Hp}:∀ {xs:List V}{ds:List PyData},xs.length=ds.length→(∀ (i:Nat) x d,xs[i]? = some x→ds[i]? = some d→Rep K H x d)→RepAll K H xs ds
 | [],[],_,_=>.nil
 | [],_ :: _,h,_=>by simp at h
 | _ :: _,[],h,_=>by simp at h
 | x :: xs,d :: ds,h,f=>.cons (f 0 x d rfl rfl) (repAll_of (by simpa using h) fun i y e h1 h2=>f (i+1) y e (by simpa using h1) (by simpa using h2))
theorem KR.rep {K:PySem.W.Frag}{H:Hp}{v:V}{d:PyData} (h:KR K H v d):Rep K H v d:=by
 induction h with
 | int i=>exact .int i
 | bl b=>exact .bl b
 | non=>exact .non
 | tup h1 h2 _ ih=>exact .tup h1 (repAll_of h2 ih)
structure KeyAt (K:PySem.W.Frag) (H:Hp) (c:Bool) (a:Addr) (k:PyData):Prop where
 kr:KR K H (.ref a) k
 key:keyD c k=true
 deep:k.depth≤8
theorem KeyAt.mono {K:PySem.W.Frag}{H H':Hp}{c:Bool}{a:Addr}{k:PyData} (s:∀ a xs,SqT K H a xs→SqT K H' a xs) (h:KeyAt K H c a k):KeyAt K H' c a k:=⟨h.kr.mono s,h.key,h.deep⟩
theorem KeyAt.same {K:PySem.W.Frag}{H H':Hp}{c:Bool}{a:Addr}{k:PyData} (s:Same H H') (h:KeyAt K H c a k):KeyAt K H' c a k:=h.mono fun _ _=>s.seqT
def dφ (P:Program) (w:World) (c:Bool) (d:Addr) (xs:List (PyData×Addr×Value)) (ep:Nat):Heap→Prop:=fun h=>(d == sysModules)=false∧∃ o es,h.get? d=some o∧o.ExactDict∧o.data=.dict es ep∧es.toList=xs.map (entryOfKey (nkKind P w c))∧(xs.map (·.1)).Nodup
theorem dφ_ok {P:Program}{w:World}{H:Hp}{h:Heap}{c:Bool}{d:Addr}{xs:List (PyData×Addr×Value)}{ep:Nat} (e:dφ P w c d xs ep h):ObjOk P w H h d (.ext (dφ P w c d xs ep)):=by
 obtain ⟨h0,o,es,h1,r⟩:=id e
 exact ⟨e,⟨o,h1⟩,fun g1 g2 ⟨h0,o,es,h1,r⟩ k=>⟨h0,o,es,k o h1,r⟩⟩
abbrev DRel (K:PySem.W.Frag) (H:Hp) (c:Bool):List (PyData×V)→List (PyData×Addr×Value)→Prop:=Paired fun p q=>p.1=q.1∧KeyAt K H c q.2.1 p.1∧RelV p.2 q.2.2
structure DAt (P:Program) (w:World) (K:PySem.W.Frag) (c:Bool) (H:Hp) (d:Addr) (kvs:List (PyData×V)):Prop where
 ex:∃ xs ep,H d=some (.ext (dφ P w c d xs ep))∧DRel K H c kvs xs
 few:kvs.length≤sizeLine
def valN (kvs:List (PyData×V)) (k:PyData):Option V:=(kvs.find? fun p=>decide (p.1=k)).map (·.2)
def putN (kvs:List (PyData×V)) (k:PyData) (v:V):List (PyData×V):=if (valN kvs k).isSome then kvs.map (fun p=>if p.1=k then (p.1,v) else p) else kvs++[(k,v)]
theorem DRel.val {K:PySem.W.Frag}{H:Hp}{c:Bool}{kvs:List (PyData×V)}{xs:List (PyData×Addr×Value)} (r:DRel K H c kvs xs) (k:PyData):RelO (valN kvs k) ((atKey xs k).map (·.2)):=by
 unfold DRel at r
 induction r with
 | nil=>exact True.intro
 | @cons p q ps qs h t ih =>
  unfold valN atKey at ih ⊢
  rw [List.find?_cons,List.find?_cons,← h.1]
  by_cases e:p.1=k
  ·rw [decide_eq_true e]
   exact h.2.2
  ·rw [decide_eq_false e]
   exact ih
theorem DRel.put {K:PySem.W.Frag}{H:Hp}{c:Bool}{kvs:List (PyData×V)}{xs:List (PyData×Addr×Value)} (r:DRel K H c kvs xs) {k:PyData}{b:Addr}{v:V}{u:Value} (hk:KeyAt K H c b k) (rv:RelV v u) :
  DRel K H c (putN kvs k v) (storedH xs k b u):=by
 have e:(valN kvs k).isSome=(atKey xs k).isSome:=by
  have:=r.val k
  cases h1:valN kvs k<;>cases h2:atKey xs k<;>rw [h1,h2] at this<;>simp_all [RelO]
 unfold putN storedH
 rw [e]
 by_cases q:(atKey xs k).isSome=true
 ·rw [if_pos q,if_pos q]
  clear e q
  unfold DRel at r ⊢
  induction r with
  | nil=>exact .nil
  | @cons p q ps qs h t ih =>
   refine .cons ?_ ih
   unfold putAt
   by_cases e:p.1=k
   ·simp only [if_pos e,if_pos (h.1.symm.trans e)]
    exact ⟨h.1,h.2.1,rv⟩
   ·simp only [if_neg e,if_neg (fun z=>e (h.1.trans z))]
    exact h
 ·rw [if_neg q,if_neg q]
  exact My.paired_snoc r ⟨rfl,hk,rv⟩
theorem DRel.mono {K:PySem.W.Frag}{H H':Hp}{c:Bool}{kvs:List (PyData×V)}{xs:List (PyData×Addr×Value)} (s:∀ a xs,SqT K H a xs→SqT K H' a xs) (r:DRel K H c kvs xs):DRel K H' c kvs xs :=
 My.paired_imp (fun _ _ h=>⟨h.1,h.2.1.mono s,h.2.2⟩) r
theorem DAt.same {P:Program}{w:World}{K:PySem.W.Frag}{c:Bool}{H H':Hp}{d:Addr}{kvs:List (PyData×V)} (s:Same H H') (h:DAt P w K c H d kvs):DAt P w K c H' d kvs:=by
 obtain ⟨⟨xs,ep,e,r⟩,z⟩:=h
 exact ⟨⟨xs,ep,s _ _ e,r.mono fun _ _=>s.seqT⟩,z⟩
theorem seqT_put {K:PySem.W.Frag}{H:Hp}{d:Addr}{φ:Heap→Prop}{o:HO} (h:H d=some (.ext φ)) (a:Addr) (xs:List V) (t:SqT K H a xs):SqT K (upd H d o) a xs:=by
 rcases t with (t | ⟨ob,t⟩) | t
 ·exact .inl (.inl (by rw [upd_ne (ne_of t h (by intro z;cases z))];exact t))
 ·exact .inl (.inr ⟨ob,by rw [upd_ne (ne_of t h (by intro z;cases z))];exact t⟩)
 ·exact .inr t
theorem seqT_putL {K:PySem.W.Frag}{H:Hp}{d:Addr}{ys:List V}{o:HO} (h:H d=some (.lst ys)) (a:Addr) (xs:List V) (t:SqT K H a xs):SqT K (upd H d o) a xs:=by
 rcases t with (t | ⟨ob,t⟩) | t
 ·exact .inl (.inl (by rw [upd_ne (ne_of t h (by intro z;cases z))];exact t))
 ·exact .inl (.inr ⟨ob,by rw [upd_ne (ne_of t h (by intro z;cases z))];exact t⟩)
 ·exact .inr t
theorem DAt.putL {P:Program}{w:World}{K:PySem.W.Frag}{c:Bool}{H:Hp}{d l:Addr}{kvs:List (PyData×V)}{ys:List V}{o:HO} (h:DAt P w K c H d kvs) (hl:H l=some (.lst ys)):DAt P w K c (upd H l o) d kvs:=by
 obtain ⟨⟨xs,ep,e,r⟩,z⟩:=h
 refine ⟨⟨xs,ep,?_,r.mono fun a xs t=>seqT_putL hl a xs t⟩,z⟩
 rw [upd_ne (ne_of e hl (by intro z;cases z))]
 exact e
theorem KeyAt.putL {K:PySem.W.Frag}{H:Hp}{c:Bool}{a l:Addr}{k:PyData}{ys:List V}{o:HO} (h:KeyAt K H c a k) (hl:H l=some (.lst ys)):KeyAt K (upd H l o) c a k:=h.mono fun a xs t=>seqT_putL hl a xs t
section
variable {X:Cx}{pins:List (Addr×Obj)}{σ:St}{H:Hp}{s:Shared}
theorem KeyAt.is {c:Bool}{a:Addr}{k:PyData} (I:Inv X pins σ H s) (h:KeyAt X.K H c a k):(nkKind X.prog X.w c).is s.heap k a:=by
 obtain ⟨as,r⟩:=Rep.reads I h.kr.rep (u:=.ref a) rfl
 exact ⟨h.key,h.deep,as,r⟩
theorem dn_of {c:Bool}{d:Addr}{xs:List (PyData×Addr×Value)}{ep:Nat}{kvs:List (PyData×V)} (I:Inv X pins σ H s) (e:H d=some (.ext (dφ X.prog X.w c d xs ep))) (r:DRel X.K H c kvs xs):(d == sysModules)=false∧s.heap.DictOfH (nkKind X.prog X.w c) d xs:=by
 obtain ⟨⟨h0,o,es,h1,h2,h3,h4,h5⟩,_,_⟩:=(show ObjOk X.prog X.w H s.heap d (.ext (dφ X.prog X.w c d xs ep)) from I.hok d _ e)
 refine ⟨h0,o,es,ep,h1,h2,h3,h4,fun x hx=>?_,h5⟩
 have all:∀ {l:List (PyData×V)}{m:List (PyData×Addr×Value)},DRel X.K H c l m→∀ x∈m,(nkKind X.prog X.w c).is s.heap x.1 x.2.1:=by
  intro l m q
  unfold DRel at q
  induction q with
  | nil=>intro x hx;cases hx
  | @cons p q ps qs hq t ih =>
   intro x hx
   rcases List.mem_cons.mp hx with e | hx
   ·subst e
    rw [← hq.1]
    exact hq.2.1.is I
   ·exact ih x hx
 exact all r x hx
end
def NGet (P:Program) (w:World) (K:PySem.W.Frag) (c:Bool) (H:Hp) (a:Addr) (y:V) (r:Option V):Prop:=∃ kvs k b,DAt P w K c H a kvs∧y=.ref b∧KeyAt K H c b k∧r=valN kvs k
section
variable {X:Cx}{o i e value:Expr}{pos pos' tpos:Pos}{td ty tv:TE}{c:Bool}
theorem nroom {X:Cx} (hu:X.A.units+64 < cLine):X.A.in1.units+8 < cLine:=by
 rw [Around.in1_units]
 omega
def tNGet (X:Cx) (c:Bool) (td ty:TE):TE:=fun σ H Q=>td σ H fun x H1=>ty σ H1 fun y H2=>∃ a v,x=.ref a∧NGet X.prog X.w X.K c H2 a y (some v)∧Q v H2
theorem subN_of {prog:Program}{w:World}{A:Around}{E:Value→Shared→Prop}{s:Shared}{env:Env}{value slice:Expr}{pos:Pos}{T id:String}{Q:Value→Shared→Prop}
  (hl:typeLookup (.type T) "__getitem__"=pure (some (.builtin id))) (hs:PlainIx slice)
  (h:wpAny (model prog w) A (eval value env) (fun o s₁=>wpAny (model prog w) A (eval slice env) (fun i s₂=>s₂.TypeIs o T∧wpAny (model prog w) A (getItem o i) Q E s₂) E s₁) E s) :
  wpAny (model prog w) A (eval (.Subscript value slice pos) env) Q E s:=by
 refine Subscript_ (wpAny_mono h (fun o s₁ h₁=>wpAny_mono h₁ (fun i s₂ h₂=>?_) fun _ _ x=>x) fun _ _ x=>x)
 obtain ⟨hT,h₂⟩:=h₂
 unfold subscriptTail
 refine wpAny_bind ?_
 rw [getitemInPython_of_ne hT.not_modules]
 refine wpAny_bind (wpAny_specialOf hT hl ?_)
 have fin:wpAny (model prog w) A (subscripted slice false o i) (fun r s₃=>wpAny (model prog w) A (letTemporaryGo value o r >>= fun _=>pure r) Q E s₃) E s₂:=by
  rw [hs o i]
  exact wpAny_operating (wpAny_mono h₂ (fun r s₃ h₃=>wpAny_bind (wpAny_letTemporaryGo (wpAny_pure h₃))) fun _ _ x=>x)
 first
  | exact wpAny_pure (wpAny_bind fin)
  | exact wpAny_bind (wpAny_pure (wpAny_bind fin))
  | exact wpAny_bind fin
theorem pe_nget (c:Bool) (hu:X.A.units+64 < cLine) (ho:PE X o td) (hi:PE X i ty) (hs:PlainIx i):PE X (.Subscript o i pos) (tNGet X c td ty):=by
 intro pins s σ H Q I h
 refine subN_of PySem.F.slot_dict_getitem.lookup hs (thnE (ho pins s σ H _ I h) fun u s1 x H1 I1 rx q1=>thnE (hi pins s1 σ H1 _ I1 q1) fun iv s2 y H2 I2 ry zz9=>?_)
 obtain ⟨a,v,ex,⟨kvs,k,b,⟨⟨xs,ep0,he,hr⟩,hz⟩,ey,hk,hv⟩,q2⟩:=zz9
 subst ex
 subst ey
 obtain rfl:u=Value.ref a:=rx
 obtain rfl:iv=Value.ref b:=ry
 obtain ⟨hd,dd⟩:=dn_of I2 he hr
 obtain ⟨w',hw,rw'⟩:=RelO.some_of (v:=v) (o:=(atKey xs k).map (·.2)) (by rw [hv];exact hr.val k)
 obtain ⟨p,hp,hp2⟩:=Option.map_eq_some_iff.mp hw
 refine ⟨dd.typeIs,wpAny_getItem_heap (nroom hu) (hk.is I2) dd hp ?_⟩
 rw [hp2]
 exact ⟨v,H2,I2.tok _,rw',q2⟩
theorem isSome_rel {kvs:List (PyData×V)}{xs:List (PyData×Addr×Value)}{K:PySem.W.Frag}{H:Hp} (r:DRel K H c kvs xs) (k:PyData):(atKey xs k).isSome=(valN kvs k).isSome:=by
 have:=r.val k
 cases h1:valN kvs k<;>cases h2:atKey xs k<;>rw [h1,h2] at this<;>simp_all [RelO]
theorem op_nnotin (c:Bool) (hu:X.A.units+64 < cLine):OpR X (compareOp .NotIn) (fun y x H Q=>∃ a r,x=.ref a∧NGet X.prog X.w X.K c H a y r∧Q (.bl (!r.isSome)) H):=by
 intro pins s σ H y x v u Q I ry rx h
 obtain ⟨a,r,rfl,⟨kvs,k,b,⟨⟨xs,ep0,he,hr⟩,hz⟩,rfl,hk,hv⟩,q⟩:=h
 cases rx
 cases ry
 obtain ⟨hd,dd⟩:=dn_of I he hr
 refine wpAny_notIn_heap (nroom hu) (hk.is I) hd dd ?_
 rw [isSome_rel hr,← hv]
 exact ⟨.bl _,H,I.tok _,rfl,q⟩
def sNPut (X:Cx) (c:Bool) (td ty tv:TE):TS:=fun D σ H=>tv σ H fun v H1=>td σ H1 fun x H2=>ty σ H2 fun y H3=>∃ a b kvs k,x=.ref a∧y=.ref b∧DAt X.prog X.w X.K c H3 a kvs∧KeyAt X.K H3 c b k∧kvs.length < sizeLine ∧
 ∀ xs ep,DAt X.prog X.w X.K c (upd H3 a (.ext (dφ X.prog X.w c a xs ep))) a (putN kvs k v)→D.nx σ (upd H3 a (.ext (dφ X.prog X.w c a xs ep)))
theorem length_putN (kvs:List (PyData×V)) (k:PyData) (v:V):(putN kvs k v).length≤kvs.length+1:=by
 unfold putN
 split
 ·rw [List.length_map];omega
 ·rw [List.length_append,List.length_singleton];exact Nat.le_refl _
theorem ps_nput (c:Bool) (hu:X.A.units+64 < cLine) (ho:PE X o td) (hi:PE X i ty) (hv:PE X value tv) (hs:swapsWith value (some (.Subscript o i pos')) pos.line X.env=pure false) :
  PS X (.Assign [.Subscript o i pos'] value pos) (sNPut X c td ty tv):=by
 intro pins s σ H D I h
 refine wpAny_Assign_Subscript (thnE (hv pins s σ H _ I h) fun r s1 v H1 I1 rv q1=>thnE (ho pins s1 σ H1 _ I1 q1) fun u s2 x H2 I2 rx q2=>thnE (hi pins s2 σ H2 _ I2 q2) fun iv s3 y H3 I3 ry zz10=>?_) hs
 obtain ⟨a,b,kvs,k,ex,ey,⟨⟨xs,ep0,he,hr⟩,hz⟩,hk,hl,q3⟩:=zz10
 subst ex
 subst ey
 obtain rfl:u=Value.ref a:=rx
 obtain rfl:iv=Value.ref b:=ry
 obtain ⟨hd,dd⟩:=dn_of I3 he hr
 have hz2:xs.length≤sizeLine:=by rw [← My.paired_length hr];exact hz
 refine wpAny_setItem_heap (hsz:=hz2) (nroom hu) (hk.is I3) dd fun h' dd' hs'=>?_
 obtain ⟨q,es,ep,hq,h2,h3,h4,_,h5⟩:=dd'
 have hp:=length_putN kvs k v
 refine ⟨σ,_,I3.write (t':=s3.toks+(nkKind X.prog X.w c).draws k) (x:=a) (e:=a) (o:=.ext (dφ X.prog X.w c a (storedH xs k b r) ep)) (by rw [he];exact True.intro) (.inl rfl) (fun b q hb z=>(hs'.2 b hb).trans z) ⟨q,hq⟩ (dφ_ok ⟨hd,q,es,hq,h2,h3,h4,h5⟩),q3 (storedH xs k b r) ep ?_⟩
 refine ⟨⟨_,_,upd_same,(hr.put hk rv).mono fun a xs t=>seqT_put he a xs t⟩,by omega⟩
def tNDisp1 (X:Cx) (c:Bool) (tk tv:TE):TE:=fun σ H Q=>∀ p,H p=none→tk σ (upd H p (.ext (dφ X.prog X.w c p [] 0))) fun y H1=>tv σ H1 fun v H2=>∃ b k,y=.ref b∧H2 p=some (.ext (dφ X.prog X.w c p [] 0))∧KeyAt X.K H2 c b k ∧
 ∀ xs ep,DAt X.prog X.w X.K c (upd H2 p (.ext (dφ X.prog X.w c p xs ep))) p [(k,v)]→Q (.ref p) (upd H2 p (.ext (dφ X.prog X.w c p xs ep)))
theorem big_of {pins:List (Addr×Obj)}{σ:St}{H:Hp}{s:Shared} (I:Inv X pins σ H s):sysModules < s.heap.objs.size:=by
 have h:mainGlobals < s.heap.objs.size:=(I.mod.glob.keeps I.bk).lt
 exact Nat.lt_trans (by decide) h
theorem Inv.newN {pins:List (Addr×Obj)}{σ:St}{H:Hp}{s:Shared}{t':Nat} (c:Bool) (I:Inv X pins σ H s):Inv X pins σ (upd H s.heap.objs.size (.ext (dφ X.prog X.w c s.heap.objs.size [] 0))) { s with heap:=s.heap.push { cls:=.type "dict",data:=.dict #[] },toks:=t' } :=
 I.laid (a:=s.heap.objs.size) (fun _ _ q=>Heap.get?_push_of_some _ q) (Nat.le_refl _) (dφ_ok ⟨beq_eq_false_iff_ne.mpr (Ne.symm (Nat.ne_of_lt (big_of I))),_,#[],Heap.get?_push_size _ rfl,⟨rfl,rfl,rfl⟩,rfl,rfl,List.nodup_nil⟩)
theorem pe_ndisp1 {k v:Expr}{tk tv:TE} (c:Bool) (hu:X.A.units+64 < cLine) (hk:PE X k tk) (hv:PE X v tv):PE X (.Dict [some k] [v] pos) (tNDisp1 X c tk tv):=by
 intro pins s σ H Q I h
 have hn:=I.hok.fresh (Nat.le_refl s.heap.objs.size)
 have I1:=I.newN (t':=s.toks) c
 refine wpAny_Dict_any rfl rfl (by simp) (by show 1≤15;decide) (pairTrees_cons_walk (thnE (hk pins _ σ _ _ I1 (h _ hn)) fun u s1 y H1 I2 ry q1=>thnE (hv pins s1 σ H1 _ I2 q1) fun w2 s2 z H2 I3 rz zz11=>pairTrees_nil_walk ?_))
 obtain ⟨b,kd,ey,e2,hkd,q2⟩:=zz11
 subst ey
 obtain rfl:u=Value.ref b:=ry
 obtain ⟨hd,dd⟩:=dn_of I3 e2 (kvs:=[]) .nil
 unfold storeAll
 rw [List.forIn_cons]
 refine wpAny_bind (wpAny_bind (wpAny_dictSet_heap (hsz:=by simp) (by show X.A.units+8 < cLine;omega) (hkd.is I3) dd fun h' dd' hs'=>wpAny_pure ?_))
 show wpAny _ _ (pure PUnit.unit) _ _ _
 refine wpAny_pure ?_
 obtain ⟨q,es,ep,hq,h2,h3,h4,_,h5⟩:=dd'
 refine ⟨.ref s.heap.objs.size,_,I3.write (t':=s2.toks+(nkKind X.prog X.w c).draws kd) (x:=s.heap.objs.size) (e:=s.heap.objs.size) (o:=.ext (dφ X.prog X.w c s.heap.objs.size (storedH [] kd b w2) ep)) (by rw [e2];exact True.intro) (.inl rfl) (fun b q hb z=>(hs'.2 b hb).trans z) ⟨q,hq⟩ (dφ_ok ⟨hd,q,es,hq,h2,h3,h4,h5⟩),rfl,q2 _ ep ?_⟩
 refine ⟨⟨_,_,upd_same,?_⟩,by show 1≤sizeLine;decide⟩
 exact .cons ⟨rfl,hkd.mono fun a xs t=>seqT_put e2 a xs t,rz⟩ .nil
def tNDisp0 (X:Cx) (c:Bool):TE:=fun _ H Q=>∀ p,H p=none→DAt X.prog X.w X.K c (upd H p (.ext (dφ X.prog X.w c p [] 0))) p []→Q (.ref p) (upd H p (.ext (dφ X.prog X.w c p [] 0)))
theorem pe_ndisp0 (c:Bool):PE X (.Dict [] [] pos) (tNDisp0 X c):=fun pins s σ H Q I h =>
 wpAny_Dict_empty ⟨.ref s.heap.objs.size,_,I.newN (t':=s.toks) c,rfl,h _ (I.hok.fresh (Nat.le_refl _)) ⟨⟨[],0,upd_same,.nil⟩,Nat.zero_le _⟩⟩
end
end L2
namespace My
section
variable {ν:Type}{lam:Type} (succ:ν→List (lam×ν))
inductive Wk:ν→List lam→ν→Prop
 | nil (n:ν):Wk n [] n
 | snoc {n m k:ν}{ls:List lam}{l:lam}:Wk n ls m→(l,k)∈succ m→Wk n (ls++[l]) k
end
section
variable {ν:Type}{lam:Type}{succ:ν→List (lam×ν)}{fin:ν→Bool}{start:ν}
structure Arr (succ:ν→List (lam×ν)) (start:ν) (arr:List (ν×List lam)):Prop where
 nd:(arr.map (·.1)).Nodup
 wk:∀ n ls,(n,ls)∈arr→Wk succ start ls n
 st:(start,[])∈arr
 par:∀ n ls l,(n,ls++[l])∈arr→∃ p,(p,ls)∈arr∧(l,n)∈succ p
def Has' (arr:List (ν×List lam)) (n:ν):Prop:=∃ ls,(n,ls)∈arr
def Done (succ:ν→List (lam×ν)) (fin:ν→Bool) (arr:List (ν×List lam)) (d:Nat) (n:ν):Prop:=fin n=false∧∀ l m,(l,m)∈succ n→∃ ls,(m,ls)∈arr∧ls.length≤d+1
theorem Done.more {arr arr':List (ν×List lam)}{d:Nat}{n:ν} (s:∀ x∈arr,x∈arr') (h:Done succ fin arr d n):Done succ fin arr' d n :=
 ⟨h.1,fun l m hm=>by obtain ⟨ls,h1,h2⟩:=h.2 l m hm;exact ⟨ls,s _ h1,h2⟩⟩
theorem nodup_le [DecidableEq ν]:∀ {l u:List ν},l.Nodup→(∀ x∈l,x∈u)→l.length≤u.length
 | [],_,_,_=>Nat.zero_le _
 | x :: l,u,h,s=>by
  rw [List.nodup_cons] at h
  have hx:=s x List.mem_cons_self
  have:=nodup_le (l:=l) (u:=u.erase x) h.2 fun y hy=>by
   have hne:y≠x:=fun e=>h.1 (by rw [← e];exact hy)
   exact (List.mem_erase_of_ne hne).mpr (s y (List.mem_cons_of_mem _ hy))
  rw [List.length_erase_of_mem hx] at this
  have hp:0 < u.length:=List.length_pos_of_mem hx
  rw [List.length_cons]
  omega
theorem cover {arr:List (ν×List lam)}{d:Nat} (A:Arr succ start arr) (done:∀ n ls,(n,ls)∈arr→ls.length < d→Done succ fin arr ls.length n) :
  ∀ {ls:List lam}{m:ν},Wk succ start ls m→ls.length≤d→∃ ls',(m,ls')∈arr∧ls'.length≤ls.length:=by
 intro ls m h
 induction h with
 | nil=>intro _;exact ⟨[],A.st,Nat.le_refl _⟩
 | @snoc m k ls l _ he ih =>
  intro hl
  rw [List.length_append,List.length_singleton] at hl ⊢
  obtain ⟨ls',h1,h2⟩:=ih (by omega)
  obtain ⟨ls2,h3,h4⟩:=(done m ls' h1 (by omega)).2 l k he
  exact ⟨ls2,h3,by omega⟩
theorem least {arr:List (ν×List lam)}{d:Nat} (A:Arr succ start arr) (done:∀ n ls,(n,ls)∈arr→ls.length < d→Done succ fin arr ls.length n) {ls:List lam}{m:ν} (h:Wk succ start ls m) (hf:fin m=true):d≤ls.length:=by
 by_cases hl:ls.length < d
 ·obtain ⟨ls',h1,h2⟩:=cover A done h (by omega)
  have:=(done m ls' h1 (by omega)).1
  rw [this] at hf
  cases hf
 ·omega
theorem none_left {arr:List (ν×List lam)} (A:Arr succ start arr) (done:∀ n ls,(n,ls)∈arr→Done succ fin arr ls.length n) {ls:List lam}{m:ν} (h:Wk succ start ls m):fin m=false:=by
 obtain ⟨ls',h1,_⟩:=cover (d:=ls.length) A (fun n ls h _=>done n ls h) h (Nat.le_refl _)
 exact (done m ls' h1).1
theorem Arr.add {arr:List (ν×List lam)} (A:Arr succ start arr) {p k:ν}{ls:List lam}{l:lam} (hp:(p,ls)∈arr) (he:(l,k)∈succ p) (hn:¬Has' arr k):Arr succ start (arr++[(k,ls++[l])]):=by
 refine ⟨?_,fun n ls' h=>?_,List.mem_append_left _ A.st,fun n ls' l' h=>?_⟩
 ·rw [List.map_append,List.nodup_append]
  refine ⟨A.nd,by simp,fun x hx y hy=>?_⟩
  rw [List.map_singleton,List.mem_singleton] at hy
  subst hy
  intro e
  subst e
  obtain ⟨q,hq,e⟩:=List.mem_map.mp hx
  exact hn ⟨q.2,by rw [← e];exact hq⟩
 ·rcases List.mem_append.mp h with h | h
  ·exact A.wk n ls' h
  ·have h':=List.mem_singleton.mp h
   cases h'
   exact .snoc (A.wk p ls hp) he
 ·rcases List.mem_append.mp h with h | h
  ·obtain ⟨q,h1,h2⟩:=A.par n ls' l' h
   exact ⟨q,List.mem_append_left _ h1,h2⟩
  ·have h':=Prod.mk.inj (List.mem_singleton.mp h)
   obtain ⟨e1,e2⟩:=h'
   obtain ⟨e3,e4⟩:=List.append_inj' e2 rfl
   cases e4
   subst e1 e3
   exact ⟨p,List.mem_append_left _ hp,he⟩
theorem Arr.pre {arr:List (ν×List lam)} (A:Arr succ start arr):∀ (k:Nat) (n:ν) (ls:List lam),ls.length=k→(n,ls)∈arr→∀ j,j≤k→∃ p ls',(p,ls')∈arr∧ls'.length=j
 | 0,n,ls,e,h,j,hj=>⟨n,ls,h,by omega⟩
 | k+1,n,ls,e,h,j,hj=>by
  by_cases hk:j=k+1
  ·exact ⟨n,ls,h,by omega⟩
  ·have hne:ls≠[]:=by
    intro z
    subst z
    simp at e
   have el:ls=ls.dropLast++[ls.getLast hne]:=(List.dropLast_concat_getLast hne).symm
   rw [el] at h
   obtain ⟨p,hp,_⟩:=A.par n _ _ h
   exact Arr.pre A k p ls.dropLast (by rw [List.length_dropLast];omega) hp j (by omega)
theorem Arr.path_lt {arr:List (ν×List lam)} (A:Arr succ start arr) {n:ν}{ls:List lam} (h:(n,ls)∈arr):ls.length < arr.length:=by
 have h1:(List.range (ls.length+1)).length≤(arr.map fun x=>x.2.length).length:=nodup_le List.nodup_range fun j hj=>by
  obtain ⟨p,ls',h1,h2⟩:=A.pre ls.length n ls rfl h j (by have:=List.mem_range.mp hj;omega)
  exact List.mem_map.mpr ⟨_,h1,h2⟩
 rw [List.length_range,List.length_map] at h1
 omega
theorem Arr.start' (succ:ν→List (lam×ν)) (start:ν):Arr succ start [(start,[])]:=by
 refine ⟨by simp,fun n ls h=>?_,List.mem_singleton.mpr rfl,fun n ls l h=>?_⟩
 ·have h':=List.mem_singleton.mp h
  cases h'
  exact .nil _
 ·have h':=(Prod.mk.inj (List.mem_singleton.mp h)).2
  simp at h'
theorem Arr.keys_le {arr:List (ν×List lam)} (A:Arr succ start arr) {univ:List ν} [DecidableEq ν] (h:∀ n ls,(n,ls)∈arr→n∈univ):arr.length≤univ.length:=by
 have h1:(arr.map (·.1)).length≤univ.length:=by
  have hs:∀ x∈arr.map (·.1),x∈univ:=fun x hx=>by
   obtain ⟨q,hq,e⟩:=List.mem_map.mp hx
   subst e
   exact h q.1 q.2 hq
  exact nodup_le A.nd hs
 rwa [List.length_map] at h1
end
end My
namespace L2
open PySem PySem.Spec PyProof.Rows
theorem ObjOk.there {P:Program}{w:World}{H:Hp}{h:Heap}{a:Addr}{o:HO} (x:ObjOk P w H h a o):∃ u,h.get? a=some u:=by
 cases o with
 | lst xs=>obtain ⟨_,_,_,_,e⟩:=x;exact ⟨_,e⟩
 | tup xs=>obtain ⟨_,_,_,u,e,_⟩:=x;exact ⟨_,e⟩
 | dK kvs=>obtain ⟨_,_,_,_,o,_,_,e,_⟩:=x;exact ⟨_,e⟩
 | dT kvs=>obtain ⟨_,_,_,_,o,_,_,e,_⟩:=x;exact ⟨_,e⟩
 | set S n=>obtain ⟨o,_,_,_,e,_⟩:=x;exact ⟨_,e⟩
 | ins C dx fs=>obtain ⟨_,_,_,e,_⟩:=x;exact ⟨_,e⟩
 | own y=>obtain ⟨_,e⟩:=x;exact ⟨_,e⟩
 | xd fs=>obtain ⟨_,⟨_,_,_,e,_⟩,_⟩:=x;exact ⟨_,e⟩
 | rng lo hi=>obtain ⟨_,_,_,e⟩:=x;exact ⟨_,e⟩
 | frz ob u=>obtain ⟨e,_⟩:=x;exact ⟨_,e⟩
 | tbl ps=>exact ⟨_,(show h.get? a=some _ from x)⟩
 | met f y=>exact ⟨_,(show h.get? a=some _ from x)⟩
 | ext φ=>obtain ⟨_,⟨_,e⟩,_⟩:=x;exact ⟨_,e⟩
structure Fly (outer:List Env) (H:Hp) (h0:Heap) (a C:Addr) (H':Hp) (h:Heap):Prop where
 ex:∃ B t,Heap.FlyingW B outer a (.ref C) (.ref t) h∧(∀ b o,h0.get? b=some o→b∉frs outer→∃ o',B.get? b=some o'∧(H b=none→o'=o))∧∀ b ob,H' b=some ob→∃ o,B.get? b=some o
def CXR (P:Program) (w:World):CXT:=fun outer H s E e s'=>∃ (a C:Addr) (H':Hp),e=.ref a∧s'.os=s.os∧AllBare s'.gens∧Un (frs outer) [] H H' s.heap s'.heap∧HOk P w H' s'.heap∧H' a=none∧s.heap.get? a=none∧Fly outer H s.heap a C H' s'.heap∧E (.ref C) none H'
theorem frs_cons {env:Env}{l:List Env}{L:Addr} (h:env.frame=some L):frs (env :: l)=L :: frs l:=by
 unfold frs
 rw [List.filterMap_cons,h]
theorem hok_stays {P:Program}{w:World}{H:Hp}{B h h':Heap} (ok:HOk P w H h) (c:∀ b ob,H b=some ob→∃ o,B.get? b=some o) (s1:B.StaysIn h) (s2:B.StaysIn h'):HOk P w H h':=fun b ob e=>by
 refine (ok b ob e).stay (fun d v hd q=>?_) (fun _ q=>q) fun _ _ q=>q
 have hd':∃ o,B.get? d=some o:=by
  rcases hd with rfl | hd
  ·exact c _ _ e
  ·exact c _ _ hd
 obtain ⟨o,ho⟩:=hd'
 have:=s1 _ _ ho
 rw [q] at this
 cases this
 exact s2 _ _ ho
section
variable {X:Cx}{pins:List (Addr×Obj)}{σ:St}{H:Hp}{s:Shared}
theorem Inv.old (I:Inv X pins σ H s) {b:Addr}{o:Obj} (e:X.s₀.heap.get? b=some o):b≠X.env.locals:=Nat.ne_of_lt (Nat.lt_of_lt_of_le (Heap.lt_size e) I.ok.above)
theorem Inv.flown {H':Hp}{B h h':Heap} (I:Inv X pins σ H' { s with heap:=h }) (hex:X.ex=[]) (cov:∀ b o,X.s₀.heap.get? b=some o→b∉X.fs→∃ o',B.get? b=some o'∧(X.H₀ b=none→o'=o)) (st:B.StaysIn h') (up:∀ b o,b∈X.fs→h.get? b=some o→(∀ vs,o.data≠.fields vs)→∃ sl,h'.get? b=some { o with slots:=sl }) :
  Un X.fs [] X.H₀ H' X.s₀.heap h':=by
 have nx:∀ b:Addr,b∉X.ex:=fun b=>by rw [hex];simp
 have slot:∀ b o,X.s₀.heap.get? b=some o→b∈X.fs→∃ sl,h'.get? b=some { o with slots:=sl }:=fun b o e hb=>by
  obtain ⟨sl,e1⟩:=I.base.slot b o e (I.ok.frf b hb) hb (nx b)
  obtain ⟨_,o',ho',hd⟩:=I.ok.funs.mem hb
  rw [e] at ho'
  cases ho'
  obtain ⟨sl',e2⟩:=up b _ hb e1 hd
  exact ⟨sl',e2⟩
 refine ⟨fun b o e n hb _=>?_,fun b o e n hb _=>slot b o e hb,fun b o e n _=>I.base.free b o e n (nx b),fun b o e _=>?_,I.base.tups,I.base.frzs,I.base.tbls⟩
 ·obtain ⟨o',e1,e2⟩:=cov b o e hb
  rw [e2 n] at e1
  exact st _ _ e1
 ·by_cases hb:b∈X.fs
  ·obtain ⟨sl,e1⟩:=slot b o e hb
   exact ⟨_,e1⟩
  ·obtain ⟨o',e1,_⟩:=cov b o e hb
   exact ⟨_,st _ _ e1⟩
theorem made_leaves {h':Heap}{e C:Addr}{vs:List Value}{E:XK}{E':Value→Shared→Prop} (I:Inv X pins σ H s) (hs:X.stack=X.env :: X.outer) (hf:X.env.frame=some X.env.locals) (hex:X.ex=[]) (hx:Heap.MadeExcOf s.heap h' e (.ref C) vs) (q:E (.ref C) none H) :
  wpAny (model X.prog X.w) X.A (leaving X.env (.ref e)) (fun _ s''=>CXR X.prog X.w X.outer X.H₀ X.s₀ E (.ref e) s'') E' { s with heap:=h' }:=by
 obtain ⟨B,hB⟩:∃ B,B=PySem.W.hideAll s.heap (frs X.stack):=⟨_,rfl⟩
 have hkb:B.StaysIn s.heap:=fun b o z=>PySem.W.of_hideAll _ (by rw [hB] at z;exact z)
 have inB:∀ b o,s.heap.get? b=some o→b∉frs X.stack→B.get? b=some o:=fun b o z n=>by rw [hB];exact PySem.W.hideAll_get _ z n
 have hl:s.heap.FunFrames B (X.env :: X.outer):=by
  have:=PySem.W.funFrames_hide (as:=frs X.stack) I.stack fun env he a ha=>List.mem_filterMap.mpr ⟨env,he,ha⟩
  rw [← hB,hs] at this
  exact this
 have fst:frs X.stack=X.env.locals :: X.fs:=by rw [hs];exact frs_cons hf
 refine wpAny_leaves_madeW (base:=B) (outer:=X.outer) (L:=X.env.locals) (by rw [I.ok.frames,hs]) hf hkb hl hx fun h2 t fl _ _ up=>?_
 have st:B.StaysIn h2:=fl.1
 have nx:∀ b:Addr,b∉X.ex:=fun b=>by rw [hex];simp
 have cov:∀ b o,X.s₀.heap.get? b=some o→b∉X.fs→∃ o',B.get? b=some o'∧(X.H₀ b=none→o'=o):=fun b o z n=>by
  have nb:b∉frs X.stack:=by
   rw [fst,List.mem_cons,not_or]
   exact ⟨I.old z,n⟩
  obtain ⟨o1,e1⟩:=I.base.there b o z (nx b)
  refine ⟨o1,inB _ _ e1 nb,fun n0=>?_⟩
  have:=I.base.keep b o z n0 n (nx b)
  rw [e1] at this
  exact Option.some.inj this
 have cov2:∀ b ob,H b=some ob→∃ o,B.get? b=some o:=fun b ob z=>by
  obtain ⟨u,hu⟩:=(I.hok b ob z).there
  refine ⟨u,inB _ _ hu fun n=>?_⟩
  rw [I.stkFree b n] at z
  cases z
 refine ⟨e,C,H,rfl,I.os,I.bare,?_,hok_stays I.hok cov2 hkb st,?_,?_,⟨B,t,fl,cov,cov2⟩,q⟩
 ·refine Inv.flown (s:=s) (h:=s.heap) I hex cov st fun b o hb z hd=>?_
  exact up b o (hx.keeps _ _ z) hd
 ·cases z:H e with
  | none=>rfl
  | some ob =>
   obtain ⟨u,hu⟩:=(I.hok e ob z).there
   rw [hx.new] at hu
   cases hu
 ·cases z:X.s₀.heap.get? e with
  | none=>rfl
  | some o =>
   obtain ⟨u,hu⟩:=I.base.there e o z (nx e)
   rw [hx.new] at hu
   cases hu
theorem flown_leaves {s':Shared}{e:Value}{E:XK}{E':Value→Shared→Prop} (I:Inv X pins σ H s) (hs:X.stack=X.env :: X.outer) (hf:X.env.frame=some X.env.locals) (hex:X.ex=[]) (hx:CXR X.prog X.w X.stack H s E e s') :
  wpAny (model X.prog X.w) X.A (leaving X.env e) (fun _ s''=>CXR X.prog X.w X.outer X.H₀ X.s₀ E e s'') E' s':=by
 obtain ⟨a,C,H',rfl,ho,hb,un,hok,na,sa,⟨B,t,fl,cov,cov2⟩,q⟩:=hx
 have I2:Inv X pins σ H' s':=I.call' (ch:=[]) ho un hok hb fun _ z=>by cases z
 have fst:frs X.stack=X.env.locals :: X.fs:=by rw [hs];exact frs_cons hf
 have nx:∀ b:Addr,b∉X.ex:=fun b=>by rw [hex];simp
 rw [hs] at fl
 refine wpAny_leaves_onW (L:=X.env.locals) (by rw [I.ok.frames,hs]) hf fl fun h2 fl2 up=>?_
 have st:B.StaysIn h2:=fl2.1
 have cov':∀ b o,X.s₀.heap.get? b=some o→b∉X.fs→∃ o',B.get? b=some o'∧(X.H₀ b=none→o'=o):=fun b o z n=>by
  have nb:b∉frs X.stack:=by
   rw [fst,List.mem_cons,not_or]
   exact ⟨I.old z,n⟩
  obtain ⟨o1,e1⟩:=I.base.there b o z (nx b)
  obtain ⟨o2,e2,e3⟩:=cov b o1 e1 nb
  refine ⟨o2,e2,fun n0=>?_⟩
  have h1:=I.base.keep b o z n0 n (nx b)
  rw [e1] at h1
  cases h1
  exact e3 (I.base.free b o z n0 (nx b))
 refine ⟨a,C,H',rfl,ho.trans I.os,hb,?_,hok_stays hok cov2 fl.1 st,na,?_,⟨B,t,fl2,cov',cov2⟩,q⟩
 ·refine Inv.flown (s:=s') (h:=s'.heap) I2 hex cov' st fun b o hb z hd=>?_
  exact up b o z hd
 ·cases z:X.s₀.heap.get? a with
  | none=>rfl
  | some o =>
   obtain ⟨u,hu⟩:=I.base.there a o z (nx a)
   rw [sa] at hu
   cases hu
end
structure Lets (X:Cx) (E:XK):Prop where
 made:∀ (pins:List (Addr×Obj)) (σ:St) (H:Hp) (s:Shared) (h':Heap) (e C:Addr) (vs:List Value),Inv X pins σ H s→Heap.MadeExcOf s.heap h' e (.ref C) vs→E (.ref C) none H→X.xe (.ref e) { s with heap:=h' }
 pass:Passes (CXR X.prog X.w) X E
theorem lets_of {P:Program}{w:World}{K:PySem.W.Frag}{mg:Str→Option Value}{base:Heap}{N:List Str}{qual:Str}{scope:Scope}{f:Addr}{cd:Value}{A:Around}{outer:List Env}{s0:Shared}{H0:Hp}{E:XK}:Lets (cxOf (CXR P w) P w K mg base N qual scope f cd A outer s0 H0 E) E where
 made:=fun pins σ H s h' e C vs I hx q=>made_leaves I rfl rfl rfl hx q
 pass:=fun pins σ H s e s' I hx=>flown_leaves I rfl rfl rfl hx
end L2
namespace L2
open PySem PySem.Spec PyProof.Rows
abbrev bmVE:List Value:=[.type "ValueError",.type "Exception",.type "BaseException",.type "object"]
def mroT (K:PySem.W.Frag) (C:Addr):List Value:=match K.lookup C with
 | some ⟨_,_,.cls cd,_⟩=>cd.mro.tail
 | _=>[]
structure ExcAt (K:PySem.W.Frag) (C:Addr) (tl:List Value):Prop where
 exc:PySem.W.excIn K C bmVE "ValueError.__new__"=true
 mro:mroT K C=tl
theorem ExcAt.obj {K:PySem.W.Frag}{C:Addr}{tl:List Value}{h:Heap} (X:K.In h) (x:ExcAt K C tl) :
  ∃ N nm q bs hdct sn sub ab col dd k0 k1 k2 k3 k5 mN,h.get? C=some (excClassObj nm q C N bs tl hdct sn sub ab col dd k0 k1 k2 k3 k5 "ValueError.__new__")∧h.Ns N mN∧mN "__init__"=none∧OwnTail h bmVE tl∧∀ h2,K.In h2→h2.get? C=h.get? C∧h2.get? N=h.get? N:=by
 obtain ⟨q,m⟩:=x
 unfold PySem.W.excIn at q
 unfold mroT at m
 split at q
 ·rename_i dd cd sl ho
  rw [ho] at m
  split at q
  ·rename_i C' bm k0 k1 k2 k3 n k5 hm hs
   simp only [Bool.and_eq_true,beq_iff_eq,Bool.not_eq_true'] at q
   obtain ⟨⟨⟨⟨⟨rfl,rfl⟩,hdel⟩,ht⟩,hok⟩,hni⟩:=q
   obtain ⟨nm,bs,mro,ns,qn,hd,sn,sub,ab,col,del⟩:=cd
   dsimp only at hm hdel hok hni m
   subst hm hdel
   have hsl:sl=#[k0,k1,k2,k3,some (.builtin "ValueError.__new__"),k5]:=by
    obtain ⟨l⟩:=sl
    simp only at hs
    rw [hs]
   subst hsl
   have m':bm=tl:=m
   subst m'
   refine ⟨ns,nm,qn,bs,hd,sn,sub,ab,col,dd,k0,k1,k2,k3,k5,_,X _ _ ho,.of_isNs (PySem.W.isNs_of_in X hok),PySem.W.nsMap_none_of_in X hok hni,PySem.W.tail_of_in X ht,fun h2 X2=>⟨(X2 _ _ ho).trans (X _ _ ho).symm,?_⟩⟩
   unfold PySem.W.nsOkIn at hok
   split at hok
   ·rename_i hN
    exact (X2 _ _ hN).trans (X _ _ hN).symm
   ·cases hok
  ·cases q
 ·cases q
theorem ExcAt.tail {K:PySem.W.Frag}{C:Addr}{tl:List Value} (x:ExcAt K C tl):PySem.W.tailIn K bmVE tl=true:=by
 obtain ⟨q,m⟩:=x
 unfold PySem.W.excIn at q
 unfold mroT at m
 split at q
 ·rename_i dd cd sl ho
  rw [ho] at m
  split at q
  ·rename_i C' bm k0 k1 k2 k3 n k5 hm hs
   simp only [Bool.and_eq_true,beq_iff_eq,Bool.not_eq_true'] at q
   have m':bm=tl:=by
    rw [← m]
    show bm=cd.mro.tail
    rw [hm]
    rfl
   rw [← m']
   exact q.1.1.2
  ·cases q
 ·cases q
section
variable {X:Cx}{x:Str}{e:Expr}{es:List Expr}{t:TA}{p pos np cpos:Pos}{C:Addr}{tl:List Value}{E:XK}
def sRaise (C:Addr) (E:XK) (t:TA):TS:=fun _ σ H=>t σ H fun vs H1=>vs.length≤sizeLine∧E (.ref C) none H1
theorem ps_raise (L:Lets X E) (hc:X.calm=true) (hg:Gl X x) (hm:X.mg x=some (.ref C)) (ex:ExcAt X.K C tl) (ha:PA X (e :: es) t) (hdb:(x == ("__debug__" : Str))=false:=by decide)
  (he:starEach (e :: es) X.env=(false,eval e X.env) :: starEach es X.env:=by rfl) (hpl:(backTo cpos (starEach es X.env)).any (·.1)=false:=by rfl) :
  PS X (.Raise (some (.Call (.Name x np) (e :: es) [] cpos)) none pos) (sRaise C E t):=by
 intro pins s σ H D I h
 obtain ⟨N,nm,q,bs,hdct,sn,sub,ab,col,dd,k0,k1,k2,k3,k5,mN,hC,hN,hni,T,two⟩:=ex.obj I.kIn
 refine wpAny_Raise_call_subT (C:=C) (nm:=nm) (q:=q) (N:=N) (bs:=bs) (bm:=tl) (hdct:=hdct) (sn:=sn) (sub:=sub) (ab:=ab) (col:=col) (dd:=dd) (k0:=k0) (k1:=k1) (k2:=k2) (k3:=k3) (k5:=k5)
  PySem.F.excBase_ValueError (mN:=mN) (T.hasType PySem.F.excBase_ValueError.hasBase) (I.ok.hd hc) (by rw [he];show (false||(backTo cpos (starEach es X.env)).any (·.1))=false;rw [hpl];rfl) hni (ld_glob I hg hm ⟨rfl,?_⟩ hdb)
 have hA:=ha cpos pins s σ H _ I h
 rw [he] at hA ⊢
 refine Calls.evalArgs_plain (thn hA fun us s2 z=>?_)
 obtain ⟨vs,H2,I2,r2,q2,q3⟩:=z
 obtain ⟨eC,eN⟩:=two s2.heap I2.kIn
 have hNN:s2.heap.Ns N mN:=by
  obtain ⟨o,es,ep,ho,r⟩:=hN
  exact ⟨o,es,ep,eN.trans ho,r⟩
 exact ⟨rfl,by rw [← r2.length];exact q2,eC.trans hC,hNN,PySem.W.tail_of_in I2.kIn ex.tail,fun h' e' hm'=>L.made pins σ H2 s2 h' e' C us I2 hm' q3⟩
def HasX (P:Program) (w:World) (K:PySem.W.Frag) (mg:Str→Option Value) (base:Heap) (x:Str) (k:Nat) (ps:List Str) (sp:Sp):Prop :=
 ∃ f fd,mg x=some (.ref f)∧PySem.W.keepIn K (.ref f)=true∧Binds K fd ps []∧FnOk P w K mg base (CXR P w) k f fd ps sp
theorem pe_fnX {k:Nat}{ps:List Str}{sp:Sp} (h:HasX X.prog X.w X.K X.mg X.base x k ps sp) (hr:Room k X.A) (hp:Passes (CXR X.prog X.w) X E) (ha:PA X (e :: es) t) (hg:Gl X x:=by rfl) (hdb:(x == ("__debug__" : Str))=false:=by decide)
  (he:starEach (e :: es) X.env=(false,eval e X.env) :: starEach es X.env:=by rfl) (hpl:(backTo pos (starEach es X.env)).any (·.1)=false:=by rfl):PE X (.Call (.Name x p) (e :: es) [] pos) (tCall sp [] E t):=by
 obtain ⟨f,fd,hm,hk,hb,F⟩:=h
 exact pe_call F hr hg hm hk hb .nil hp ha hdb he hpl
end
section
variable {P:Program}{w:World}{K:PySem.W.Frag}{mg:Str→Option Value}{base:Heap}
theorem Fun.okX {x qual:Str}{st:Stmt}{f:Addr}{fd:FuncData}{N ps:List Str}{k:Nat}{sp:Sp} (F:Fun K x qual st f fd) (S:FnScope N ps (defScope st)) (len:∀ vs H Q E,sp vs H Q E→vs.length=ps.length)
  (hbody:∀ (cdv:Value) (A:Around) (outer:List Env) (s:Shared) (H:Hp) (vs:List V) (Q:VK) (E:XK),Room k (A.deeper (envOfC qual (defScope st) s.heap.objs.size f cdv))→sp vs H Q E →
   Lets (cxOf (CXR P w) P w K mg base N qual (defScope st) f cdv A outer s H E) E →
   ∃ t,PSs (cxOf (CXR P w) P w K mg base N qual (defScope st) f cdv A outer s H E) (defBody st) t∧t { nx:=fun _ H'=>Q .non H',rt:=Q } (start N vs) H):FnOk P w K mg base (CXR P w) (k+1) f fd ps sp:=by
 obtain ⟨oc,od,kV,doc,pm,an,cdv,ct,osl,rfl,lk,hcd⟩:=F.ex
 exact fn_of lk hcd S len fun A outer s H vs Q E hr hsp=>hbody cdv A outer s H vs Q E hr hsp lets_of
theorem FnOk.toX {k:Nat}{f:Addr}{fd:FuncData}{ps:List Str}{sp:Sp} (F:FnOk P w K mg base CX0 k f fd ps sp):FnOk P w K mg base (CXR P w) k f fd ps sp :=
 ⟨F.len,fun A outer s H args us vs Q E hr e0 hb hv hs=>codeAny_mono (F.run A outer s H args us vs Q E hr e0 hb hv hs) fun r s' z=>by
  cases r with
  | error e=>exact False.elim z
  | ok fl=>cases fl<;>exact z⟩
end
end L2
namespace L2
open PySem PySem.Spec PyProof.Rows
section
variable {M:Model}{A:Around}{E:Value→Shared→Prop}
variable {nm q nm' q':Str}{C N S N':Addr}{bs bm bs' bm':List Value}{hdct hdct':Bool}{sn sn':List Str}{sub sub':List Value}{ab ab':Bool}{col col':Option Bool}{dd dd':Option Addr}{k0 k1 k2 k3 k5 k0' k1' k2' k3' k5':Option Value}{newId newId':String}
theorem excMatches_sup {h:Heap}{g:Array GenState}{d:Drawn}{t:Nat}{os:OsState}{e:Addr}{oe:Obj}{Q:Bool→Shared→Prop}
  (hC:h.get? C=some (excClassObj nm q C N bs bm hdct sn sub ab col dd k0 k1 k2 k3 k5 newId)) (hS:h.get? S=some (excClassObj nm' q' S N' bs' bm' hdct' sn' sub' ab' col' dd' k0' k1' k2' k3' k5' newId')) (he:h.get? e=some oe) (hcls:oe.cls=.ref C)
  (hbase:bm'.contains (.type "BaseException")=true) (hin:bm.contains (.ref S)=true) (hq:Q true ⟨h,g,d,t,os⟩):wpAny M A (excMatches (.ref e) (.ref S)) Q E ⟨h,g,d,t,os⟩:=by
 have hcB:(Value.ref S :: bm').contains (.type "BaseException")=true:=by rw [List.contains_cons,hbase,Bool.or_true]
 have hcC:(Value.ref C :: bm).contains (.ref S)=true:=by rw [List.contains_cons,hin,Bool.or_true]
 have f:=tc_notTuple
 unfold excMatches
 repeat (first | (with_reducible refine wpAny_loadPart_at he ?_;rw [hcls]) | with_reducible refine wpAny_loadPart_at hS ?_ | (with_reducible refine wpAny_isSubtype_exc hS ?_;rw [hcB]) | (with_reducible refine wpAny_isSubtype_exc hC ?_;rw [hcC]) | wp_step)
 exact hq
end
section
variable {prog:Program}{w:World}{A:Around}{E:Value→Shared→Prop}{s:Shared}{env:Env}
theorem handleBy_sup_as {e C S:Addr}{tlC tlS:List Value}{K:PySem.W.Frag}{t:Expr}{n:Str}{b₀:Stmt}{suite:List Stmt}{pos:Pos}{rest:List ExceptHandler}{Q:Flow→Shared→Prop}
  (xC:ExcAt K C tlC) (xS:ExcAt K S tlS) (hin:tlC.contains (.ref S)=true)
  (h:wpAny (model prog w) (A.mark (some (.ref e))) (eval t env) (fun c s₁=>c=.ref S∧K.In s₁.heap∧(∃ oe,s₁.heap.get? e=some oe∧oe.cls=.ref C) ∧
   wpAny (model prog w) (A.mark (some (.ref e))) (setFlight (.ref e) none) (fun _ s₂ =>
     wpAny (model prog w) (A.mark (some (.ref e))) (storeName env n (.ref e)) (fun _ s₃ =>
      wpAny (model prog w) (A.mark (some (.ref e))) (execs (b₀ :: suite) env)
       (fun f s₄=>wpAny (model prog w) A (do bindName env n .none;unbindBehindTheSuite env n pos) (fun _ s₅=>Q f s₅) E s₄)
       (fun _ _=>False) s₃) (fun _ _=>False) s₂) (fun _ _=>False) s₁) (fun _ _=>False) s) :
  wpAny (model prog w) A (handleBy (.ref e) env (.ExceptHandler (some t) (some n) (b₀ :: suite) pos :: rest)) Q E s:=by
 refine wpAny_handleBy_cons (codeAny_handlers_test (wpAny_mono h (fun c s₁ h₁=>?_) fun _ _ y=>y.elim)) (by intro q;cases q)
 obtain ⟨rfl,hK,⟨oe,he,hcls⟩,hk⟩:=h₁
 obtain ⟨N,nm,q,bs,hdct,sn,sub,ab,col,dd,k0,k1,k2,k3,k5,mN,hC,_,_,_,_⟩:=xC.obj hK
 obtain ⟨N',nm',q',bs',hdct',sn',sub',ab',col',dd',k0',k1',k2',k3',k5',mN',hS,_,_,T',_⟩:=xS.obj hK
 obtain ⟨hh,g,d,tk,os⟩:=s₁
 refine excMatches_sup hC hS he hcls (T'.hasType PySem.F.excBase_ValueError.hasBase) hin (codeAny_handlers_suite_as ?_)
 exact wpAny_mono hk (fun _ s₂ h₂=>wpAny_mono h₂ (fun _ s₃ h₃=>wpAny_mono h₃ (fun _ _ z=>z) fun _ _ y=>y.elim) fun _ _ y=>y.elim) fun _ _ y=>y.elim
end
def excφ (a C:Addr):Heap→Prop:=fun h=>∃ o,h.get? a=some o∧o.cls=.ref C
abbrev Cx.tries (X:Cx) (pn:List (Addr×Obj)) (xe:Value→Shared→Prop):Cx:={ X with pn:=pn,xe:=xe }
abbrev Cx.suite (X:Cx) (pn:List (Addr×Obj)) (e:Addr):Cx:={ X with A:=X.A.mark (some (.ref e)),calm:=false,pn:=pn,xe:=fun _ _=>False }
section
variable {X:Cx}{pins:List (Addr×Obj)}{σ:St}{H H':Hp}{s:Shared}
theorem Inv.tries (I:Inv X pins σ H s) (xe:Value→Shared→Prop):Inv (X.tries (X.pn++pins) xe) [] σ H s :=
 ⟨⟨I.ok.mod,I.ok.kind,I.ok.glob,I.ok.blt,I.ok.above,I.ok.inj,I.ok.has,I.ok.cab,I.ok.hd,I.ok.frames,I.ok.stk,I.ok.exf,I.ok.bs,I.ok.bsz,I.ok.noex,I.ok.exfs,I.ok.funs,I.ok.frf⟩,I.os,I.bare,I.base,I.loc,I.cell,I.free,I.freeC,fun p hp=>I.pin p (by simpa using hp),I.hok,I.len⟩
theorem Inv.untries {pn pins':List (Addr×Obj)}{xe:Value→Shared→Prop} (ok:X.Ok) (I:Inv (X.tries pn xe) pins' σ H s) (hp:∀ p∈X.pn++pins,p∈pn++pins'):Inv X pins σ H s :=
 ⟨ok,I.os,I.bare,I.base,I.loc,I.cell,I.free,I.freeC,fun p q=>I.pin p (hp p q),I.hok,I.len⟩
theorem Inv.suite (I:Inv X pins σ H s) (e:Addr):Inv (X.suite (X.pn++pins) e) [] σ H s :=
 ⟨⟨I.ok.mod,I.ok.kind,I.ok.glob,I.ok.blt,I.ok.above,I.ok.inj,I.ok.has,I.ok.cab,(fun z=>by cases z),I.ok.frames,I.ok.stk,I.ok.exf,I.ok.bs,I.ok.bsz,I.ok.noex,I.ok.exfs,I.ok.funs,I.ok.frf⟩,I.os,I.bare,I.base,I.loc,I.cell,I.free,I.freeC,fun p hp=>I.pin p (by simpa using hp),I.hok,I.len⟩
theorem Inv.unsuite {e:Addr} (ok:X.Ok) (I:Inv (X.suite (X.pn++pins) e) [] σ H s):Inv X pins σ H s :=
 ⟨ok,I.os,I.bare,I.base,I.loc,I.cell,I.free,I.freeC,fun p q=>I.pin p (by simpa using q),I.hok,I.len⟩
theorem SP.untries {xe:Value→Shared→Prop}{D:Ends}{f:Flow}{s':Shared} (ok:X.Ok) (h:SP (X.tries (X.pn++pins) xe) [] D f s'):SP X pins D f s':=by
 have w:∀ {σ' H'},Inv (X.tries (X.pn++pins) xe) [] σ' H' s'→Inv X pins σ' H' s':=fun I=>I.untries ok fun p q=>by simpa using q
 cases f with
 | next=>obtain ⟨σ',H',I,q⟩:=h;exact ⟨σ',H',w I,q⟩
 | brk=>obtain ⟨σ',H',I,q⟩:=h;exact ⟨σ',H',w I,q⟩
 | cont=>obtain ⟨σ',H',I,q⟩:=h;exact ⟨σ',H',w I,q⟩
 | ret u=>obtain ⟨v,σ',H',I,r,q⟩:=h;exact ⟨v,σ',H',w I,r,q⟩
theorem Inv.track {a C:Addr}{o:Obj} (I:Inv X pins σ H s) (ha:X.s₀.heap.get? a=none) (hn:H a=none) (ho:s.heap.get? a=some o) (hc:o.cls=.ref C) (hL:a≠X.env.locals) (hcl:∀ x c,X.env.cells.lookup x=some c→c≠a) (hp:∀ p∈X.pn++pins,p.1≠a) :
  Inv X pins σ (upd H a (.ext (excφ a C))) s:=by
 have ne:∀ b ob,H b=some ob→b≠a:=fun b ob e z=>by rw [z,hn] at e;cases e
 have ne0:∀ b ob,X.s₀.heap.get? b=some ob→b≠a:=fun b ob e z=>by rw [z,ha] at e;cases e
 refine ⟨I.ok,I.os,I.bare,⟨I.base.keep,I.base.slot,fun b ob e n hx=>?_,I.base.there,fun b xs e=>?_,fun b ob u e=>?_,fun b ps e=>?_⟩,I.loc,I.cell,?_,fun x c e=>?_,fun p q=>?_,fun b ob e=>?_,I.len⟩
 ·rw [upd_ne (ne0 b ob e)]
  exact I.base.free b ob e n hx
 ·have:=I.base.tups b xs e
  rw [upd_ne (ne _ _ this)]
  exact this
 ·have:=I.base.frzs b ob u e
  rw [upd_ne (ne _ _ this)]
  exact this
 ·obtain ⟨m,e1⟩:=I.base.tbls b ps e
  exact ⟨m,by rw [upd_ne (ne _ _ e1)];exact e1⟩
 ·rw [upd_ne (Ne.symm hL)]
  exact I.free
 ·rw [upd_ne (hcl x c e)]
  exact I.freeC x c e
 ·obtain ⟨e,n,r⟩:=I.pin p q
  exact ⟨e,by rw [upd_ne (hp p q)];exact n,r⟩
 ·by_cases hb:b=a
  ·subst hb
   rw [upd_same] at e
   cases e
   exact ⟨⟨o,ho,hc⟩,⟨o,ho⟩,fun h1 h2 ⟨u,hu,hcu⟩ k=>⟨u,k u hu,hcu⟩⟩
  ·rw [upd_ne hb] at e
   exact (I.hok b ob e).stay (fun _ _ _ q=>q) (fun c q=>by rw [upd_ne (ne _ _ q)];exact q) fun c xs q=>by rw [upd_ne (ne _ _ q)];exact q
theorem Inv.landed {s':Shared}{a C:Addr}{B h5:Heap} (I:Inv X pins σ H s) (ho:s'.os=s.os) (hb:AllBare s'.gens) (un:Un (frs X.stack) [] H H' s.heap s'.heap) (hok:HOk X.prog X.w H' s'.heap)
  (cov:∀ b o,s.heap.get? b=some o→b∉frs X.stack→∃ o',B.get? b=some o'∧(H b=none→o'=o)) (cov2:∀ b ob,H' b=some ob→∃ o,B.get? b=some o) (st:B.StaysIn s'.heap) (st5:B.StaysIn h5) (up:s'.heap.UpToSlots h5) :
  Inv X pins σ H' { s' with heap:=h5 }:=by
 have slot:∀ b o,s.heap.get? b=some o→b∈frs X.stack→∃ sl,h5.get? b=some { o with slots:=sl }:=fun b o e hb=>by
  obtain ⟨sl,e1⟩:=un.slot b o e (I.stkFree b hb) hb (by simp)
  obtain ⟨_,o',ho',hd⟩:=I.stack.mem hb
  rw [e] at ho'
  cases ho'
  obtain ⟨sl',e2⟩:=up b _ e1 hd
  exact ⟨sl',e2⟩
 refine I.call' (s':={ s' with heap:=h5 }) (ch:=[]) ho ⟨fun b o e n hb _=>?_,fun b o e n hb _=>slot b o e hb,un.free,fun b o e _=>?_,un.tups,un.frzs,un.tbls⟩ (hok_stays hok cov2 st st5) hb fun _ z=>by cases z
 ·obtain ⟨o',e1,e2⟩:=cov b o e hb
  rw [e2 n] at e1
  exact st5 _ _ e1
 ·by_cases hb:b∈frs X.stack
  ·obtain ⟨sl,e1⟩:=slot b o e hb
   exact ⟨_,e1⟩
  ·obtain ⟨o',e1,_⟩:=cov b o e hb
   exact ⟨_,st5 _ _ e1⟩
theorem Inv.forget {h':Heap}{t':Nat}{m':Str→Option Value} (I:Inv X pins σ H s) (hn:h'.Ns X.env.locals m') (hs:Heap.SameBut X.env.locals s.heap h'):Inv X pins (List.replicate X.N.length none) H { s with heap:=h',toks:=t' }:=by
 have old:∀ b o,X.s₀.heap.get? b=some o→b≠X.env.locals:=fun b o e=>Nat.ne_of_lt (Nat.lt_of_lt_of_le (Heap.lt_size e) I.ok.above)
 refine ⟨I.ok,I.os,I.bare,⟨fun b o e n hb hx=>?_,fun b o e n hb hx=>?_,I.base.free,fun b o e hx=>?_,I.base.tups,I.base.frzs,I.base.tbls⟩,⟨m',hn,fun i x v _ e2 _=>?_⟩,fun y c e=>?_,I.free,I.freeC,fun p hp=>?_,fun b ob e=>?_,by simp⟩
 ·exact (hs.2 b (old b o e)).trans (I.base.keep b o e n hb hx)
 ·obtain ⟨sl,e1⟩:=I.base.slot b o e n hb hx
  exact ⟨sl,(hs.2 b (old b o e)).trans e1⟩
 ·obtain ⟨o',e1⟩:=I.base.there b o e hx
  exact ⟨o',(hs.2 b (old b o e)).trans e1⟩
 ·rw [List.getElem?_replicate] at e2
  split at e2<;>cases e2
 ·obtain ⟨w',z⟩:=I.cell y c e
  exact ⟨w',z.sameBut hs (I.cne y c e)⟩
 ·obtain ⟨e,n,ne,nf,d⟩:=I.pin p hp
  exact ⟨(hs.2 p.1 ne).trans e,n,ne,nf,d⟩
 ·refine (I.hok b ob e).stay (fun c v hc z=>(hs.2 c ?_).trans z) (fun _ z=>z) fun _ _ z=>z
  rintro rfl
  rcases hc with rfl | hc
  ·rw [I.free] at e
   cases e
  ·rw [I.free] at hc
   cases hc
end
def xTry (K:PySem.W.Frag) (N:List Str) (i:Nat) (S:Addr) (ts:List (Addr×Obj)→Addr→TS) (D:Ends):XK:=fun Cv _ H'=>∃ C tl,Cv=.ref C∧ExcAt K C tl∧tl.contains (.ref S)=true ∧
 ∀ pn a,H' a=none→ts pn a { nx:=fun _ _=>False,rt:=D.rt } ((List.replicate N.length none).set i (some (.ref a))) (upd H' a (.ext (excφ a C)))
def tTry (K:PySem.W.Frag) (N:List Str) (i:Nat) (S:Addr) (tb:XK→TS) (ts:List (Addr×Obj)→Addr→TS):TS:=fun D σ H=>tb (xTry K N i S ts D) D σ H
theorem ps_try {X:Cx}{body suite:List Stmt}{b₀:Stmt}{x n:Str}{np hpos pos:Pos}{i:Nat}{S:Addr}{tlS:List Value}{tb:XK→TS}{ts:List (Addr×Obj)→Addr→TS}
  (hb:∀ pn xe E,Passes (CXR X.prog X.w) (X.tries pn xe) E→PSs (X.tries pn xe) body (tb E)) (hs:∀ pn e,PSs (X.suite pn e) (b₀ :: suite) (ts pn e))
  (hk:X.stack=X.env :: X.outer) (hf:X.env.frame=some X.env.locals) (hex:X.ex=[]) (hN:X.N.Nodup) (hi:X.N[i]? = some n) (hn:X.env.scope.names.lookup n=some .local) (hg:Gl X x) (hm:X.mg x=some (.ref S)) (xS:ExcAt X.K S tlS) (hdb:(x == ("__debug__" : Str))=false:=by decide) :
  PS X (.Try body [.ExceptHandler (some (.Name x np)) (some n) (b₀ :: suite) hpos] [] [] pos) (tTry X.K X.N i S tb ts):=by
 intro pins s σ H D I h
 refine wpAny_Try_except ?_
 have key:∀ xe,Passes (CXR X.prog X.w) (X.tries (X.pn++pins) xe) (xTry X.K X.N i S ts D)→wpAny (model X.prog X.w) X.A (execs body X.env) (SP (X.tries (X.pn++pins) xe) [] D) xe s:=fun xe hp=>hb _ xe _ hp [] s σ H D (I.tries xe) h
 refine wpAny_mono (key _ ?_) (fun f s1 z=>?_) fun _ _ z=>z
 ·intro pins' σ' H1 s1 e s2 Iv hx
  obtain ⟨a,C,H2,rfl,ho,hbr,un,hok,na,sa,⟨B,t,fl,cov,cov2⟩,C',tl,eC,xC,hin,q⟩:=hx
  cases eC
  have fl':Heap.FlyingW B (X.env :: X.outer) a (.ref C) (.ref t) s2.heap:=by rw [← hk];exact fl
  show wpAny _ _ (noteFrame (.ref a) X.env) _ _ _
  refine wpAny_looks_onW (L:=X.env.locals) (by rw [← hk];exact I.ok.frames) hf fl' fun h4 held up4=>?_
  refine wpAny_landsW held fun h5 fl5 up5=>?_
  have up45:s2.heap.UpToSlots h5:=up4.trans up5
  have I5:Inv X pins σ' H2 { s2 with heap:=h5 }:=(Iv.landed (a:=a) (C:=C) ho hbr un hok cov cov2 fl'.1 fl5.1 up45).untries I.ok fun p z=>List.mem_append_left _ z
  have I5s:=I5.suite a
  obtain ⟨oe,vs,he,hcl,hd,_⟩:=fl5.first
  refine handleBy_sup_as xC xS hin (ld_glob (X:=X.suite (X.pn++pins) a) I5s hg hm ⟨rfl,I5.kIn,⟨oe,he,hcl⟩,?_⟩ hdb)
  refine lands_againW fl5 fun h6 fl6 up6=>?_
  have I6:Inv X pins σ' H2 { s2 with heap:=h6 }:=(Iv.landed (a:=a) (C:=C) ho hbr un hok cov cov2 fl'.1 fl6.1 (up45.trans up6)).untries I.ok fun p z=>List.mem_append_left _ z
  obtain ⟨oe6,vs6,he6,hcl6,hd6,_⟩:=fl6.first
  have I7:Inv X pins σ' (upd H2 a (.ext (excφ a C))) { s2 with heap:=h6 }:=by
   refine I6.track ?_ na he6 hcl6 ?_ (fun y c e z=>?_) fun p hp z=>?_
   ·cases z:X.s₀.heap.get? a with
    | none=>rfl
    | some o =>
     obtain ⟨u,hu⟩:=Iv.base.there a o z (by show a∉X.ex;rw [hex];simp)
     rw [sa] at hu
     cases hu
   ·intro z
    obtain ⟨m,⟨o,_,_,ho',_⟩,_⟩:=Iv.loc
    have:s1.heap.get? a=some o:=by rw [z];exact ho'
    rw [sa] at this
    cases this
   ·obtain ⟨_,o,ho',_⟩:=Iv.cell y c e
    rw [z,sa] at ho'
    cases ho'
   ·obtain ⟨e,_⟩:=Iv.pin p (List.mem_append_left _ hp)
    rw [z,sa] at e
    cases e
  refine store_ok (X:=X.suite (X.pn++pins) a) (I7.suite a) hN hi (Or.inl hn) (v:=.ref a) (u:=.ref a) rfl (fun s7 I8=>?_) (Or.inr hn)
  have I9:Inv (X.suite (X.pn++pins) a) [] ((List.replicate X.N.length none).set i (some (.ref a))) (upd H2 a (.ext (excφ a C))) s7:=by
   have hl:σ'.length=X.N.length:=I6.len
   refine I8.weak (by simp [hl]) fun j v e=>?_
   by_cases hj:i=j
   ·subst hj
    have hlt:i < σ'.length:=by rw [hl];exact (List.getElem?_eq_some_iff.mp hi).1
    rw [List.getElem?_set_self (by simpa [hl] using hlt)] at e
    rw [List.getElem?_set_self hlt]
    exact e
   ·rw [List.getElem?_set_ne hj,List.getElem?_replicate] at e
    split at e<;>cases e
  refine wpAny_mono (hs (X.pn++pins) a [] s7 _ _ _ I9 (q (X.pn++pins) a na)) (fun f s8 z=>?_) fun _ _ z=>z
  cases f with
  | next=>exact False.elim z.choose_spec.choose_spec.2
  | brk=>exact False.elim z.choose_spec.choose_spec.2
  | cont=>exact False.elim z.choose_spec.choose_spec.2
  | ret u =>
   obtain ⟨v,σ8,H8,I10,r,qr⟩:=z
   have I11:=I10.unsuite I.ok
   obtain ⟨m,hm',_⟩:=I11.loc
   refine wpAny_nameGoes hn hm' (by rw [I.ok.kind];rfl) fun h9 m9 hn9 hs9=>?_
   exact ⟨v,_,H8,I11.forget hn9 hs9,r,qr⟩
 ·have z':=SP.untries I.ok z
  cases f with
  | next =>
   obtain ⟨σ',H',I',q⟩:=z'
   exact pss_nil pins s1 σ' H' D I' q
  | brk=>exact z'
  | cont=>exact z'
  | ret u=>exact z'
end L2
namespace L2
open PySem PySem.Spec PyProof.Rows
structure ExcIs (K:PySem.W.Frag) (C:Addr):Prop where
 ga:PySem.W.findIn K (.ref C) "__getattribute__"=some (some (.builtin "BaseException.__getattribute__"))
 gt:PySem.W.findIn K (.ref C) "__getattr__"=some none
 cl:PySem.W.findIn K (.ref C) "__class__"=some (some (.builtin "object.__class__"))
 mb:PySem.W.mroIn K C (.type "BaseException")=some true
 mo:PySem.W.mroIn K C (.type "object")=some true
 is:(PySem.W.clsIn K C).isSome=true
section
variable {prog:Program}{w:World}{A:Around}{E:Value→Shared→Prop}{h:Heap}{g:Array GenState}{d:Drawn}{t:Nat}{os:OsState}{a C:Addr}{o:Obj}{K:PySem.W.Frag}
theorem xcls_get {R:Result→Shared→Prop} (X:K.In h) (z:ExcIs K C) (hx:h.get? a=some o) (hc:o.cls=.ref C) (hq:R (.ok (.ret (.ref C))) ⟨h,g,d,t,os⟩) :
  codeAny (model prog w) A (.call (.builtin "getset_descriptor.__get__") ⟨[.builtin "object.__class__",.ref a,.ref C],[]⟩) R ⟨h,g,d,t,os⟩:=by
 have hT5:(⟨h,g,d,t,os⟩:Shared).TypeIs (.builtin "object.__class__") "getset_descriptor":=F.typeOf_object_class
 have LS:PySem.W.Looks (model prog w) h (isSubtype (.ref C) (.type (".".intercalate ("object.__class__".cutAt '.').dropLast))) true:=by rw [F.owner_object_class];exact PySem.W.looks_mroIn X z.mo
 refine codeAny_call_builtin F.slot_gs_get.plain F.entry_gs_get (F.slot_gs_get.check _ _ _ _ _ _ _ _ hT5 (F.args_gs_get _ _ _) ?_)
 repeat (any_goals (first | assumption | (with_reducible refine wpAny_loadPart_at hx ?_;rw [hc]) | with_reducible refine LS.at ?_ | wp_step))
 refine ⟨Code.quiet_builtin _ (by decide +kernel),codeAny_builtin F.entry_object_class ?_⟩
 repeat (any_goals (first | assumption | (with_reducible refine wpAny_loadPart_at hx ?_;rw [hc]) | wp_step))
theorem xcls_check {nameV:Value}{Q:Unit→Shared→Prop} (X:K.In h) (z:ExcIs K C) (hx:h.get? a=some o) (hc:o.cls=.ref C) (hq:Q () ⟨h,g,d,t,os⟩) :
  wpAny (model prog w) A (checkBuiltinCall "BaseException.__getattribute__" ⟨[.ref a,nameV],[]⟩) Q E ⟨h,g,d,t,os⟩:=by
 have hk:builtinKind "BaseException.__getattribute__"=some .slot:=by decide +kernel
 have hsplit:splitId "BaseException.__getattribute__"=some ("BaseException","__getattribute__"):=by decide +kernel
 have LB:PySem.W.Looks (model prog w) h (isSubtype (.ref C) (.type "BaseException")) true:=PySem.W.looks_mroIn X z.mb
 have ha:=F.args_bexc_ga (.ref a) nameV
 simp only [checkBuiltinCall,hk,hsplit]
 refine wpAny_bind ?_
 ·unfold isInstance
  repeat (first | (with_reducible refine wpAny_loadPart_at hx ?_;rw [hc]) | with_reducible refine LB.at ?_ | wp_step)
  exact hq
theorem xcls_entry {tk:Tok}{Q:Fin→Shared→Prop} (X:K.In h) (z:ExcIs K C) (hx:h.get? a=some o) (hc:o.cls=.ref C) (hq:Q (.done (.ret (.ref C))) ⟨h,g,d,t,os⟩) :
  wpAny (model prog w) A (Builtin.«object.__getattribute__» ⟨[.ref a,.str "__class__" tk],[]⟩) Q E ⟨h,g,d,t,os⟩:=by
 have hT5:(⟨h,g,d,t,os⟩:Shared).TypeIs (.builtin "object.__class__") "getset_descriptor":=F.typeOf_object_class
 have f5:=F.typeOf_object_class
 have f6:=F.slot_gs_get.lookup
 have f7:=F.slot_gs_set.lookup
 have LC:PySem.W.Looks (model prog w) h (typeLookup (.ref C) "__class__") (some (.builtin "object.__class__")):=PySem.W.looks_findIn X z.cl
 repeat (any_goals (first | assumption | (with_reducible refine wpAny_loadPart_at hx ?_;rw [hc]) | with_reducible refine LC.at ?_ | wp_step))
 refine xcls_get X z hx hc ?_
 repeat (any_goals (first | assumption | wp_step))
theorem xcls_call {tk:Tok}{R:Result→Shared→Prop} (X:K.In h) (z:ExcIs K C) (hx:h.get? a=some o) (hc:o.cls=.ref C) (hq:R (.ok (.ret (.ref C))) ⟨h,g,d,t,os⟩) :
  codeAny (model prog w) A (.call (.builtin "BaseException.__getattribute__") ⟨[.ref a,.str "__class__" tk],[]⟩) R ⟨h,g,d,t,os⟩ :=
 codeAny_call_builtin PySem.F.attrBase_ValueError.ga.plain F.entry_bexc_ga (xcls_check X z hx hc (xcls_entry X z hx hc hq))
theorem xcls_by {tk:Tok}{fill expr:Bool}{Q:Value→Shared→Prop} (X:K.In h) (z:ExcIs K C) (hx:h.get? a=some o) (hc:o.cls=.ref C) (hq:Q (.ref C) ⟨h,g,d,t,os⟩) :
  wpAny (model prog w) A (getAttrBy (.ref a) (.str "__class__" tk) fill expr) Q E ⟨h,g,d,t,os⟩:=by
 have f3:=PySem.F.attrBase_ValueError.ga.bind (.ref a)
 have hx0:(expr&&onTheHeap (Value.builtin "BaseException.__getattribute__"))=false:=by cases expr<;>rfl
 have hx2:(Value.builtin "BaseException.__getattribute__" == Value.builtin "object.__getattribute__")=false:=by decide +kernel
 have hx1:(onTheHeap (Value.ref C)&&Value.builtin "BaseException.__getattribute__" == Value.builtin "object.__getattribute__")=false:=by rw [hx2];rfl
 have LG:PySem.W.Looks (model prog w) h (typeLookup (.ref C) "__getattribute__") (some (.builtin "BaseException.__getattribute__")):=PySem.W.looks_findIn X z.ga
 have LH:PySem.W.Looks (model prog w) h (typeLookup (.ref C) "__getattr__") none:=PySem.W.looks_findIn X z.gt
 repeat (any_goals (first | assumption | (with_reducible refine wpAny_loadPart_at hx ?_;rw [hc]) | with_reducible refine LG.at ?_ | with_reducible refine LH.at ?_ | wp_step))
 refine xcls_call X z hx hc ?_
 repeat (any_goals (first | assumption | wp_step))
theorem xcls_attr {Q:Option Value→Shared→Prop} (X:K.In h) (z:ExcIs K C) (hx:h.get? a=some o) (hc:o.cls=.ref C) (hq:Q (some (.ref C)) ⟨h,g,d,t+1,os⟩):wpAny (model prog w) A (getAttr? (.ref a) "__class__") Q E ⟨h,g,d,t,os⟩:=by
 unfold getAttr? getAttrBy?
 repeat (any_goals (first | assumption | with_reducible apply xcls_by X z hx hc | wp_step))
theorem kitx_exc (z:ExcIs K C):PySem.W.KitX K (.ref a) (.ref C) (excφ a C) where
 ty:=fun _ _ _ p=>by
  obtain ⟨o,h1,h2⟩:=p
  exact h2 ▸ (PySem.W.Looks.ld h1).andThen .now
 it:=fun _ _ X _=>by
  obtain ⟨cd,hcD⟩:=Option.isSome_iff_exists.mp z.is
  unfold PySem.W.clsIn at hcD
  split at hcD
  ·rename_i c' d' cd' sl' ho
   intro A' Q' E' s' k q
   unfold isType loadHead
   exact wpAny_bind (wpAny_loadPart (k _ _ (X _ _ ho)) (wpAny_pure q))
  ·cases hcD
 ne:=fun h tp dd its n sl X htp=>by
  obtain ⟨cd,hcD⟩:=Option.isSome_iff_exists.mp z.is
  refine Bool.eq_false_iff.mpr fun q=>?_
  have e:C=tp:=Value.ref.inj (beq_iff_eq.mp q)
  subst e
  unfold PySem.W.clsIn at hcD
  split at hcD
  ·rename_i c' d' cd' sl' ho
   have z:=(X _ _ ho).symm.trans htp
   cases z
  ·cases hcD
 ca:=fun {prog w A E Q s} X p k=>by
  obtain ⟨h,g,d,t,os⟩:=s
  obtain ⟨o,h1,h2⟩:=p
  exact xcls_attr X z h1 h2 k
end
section
variable {X:Cx}
theorem call_isexc:CallR X (.builtin "isinstance") (fun xs H Q=>∃ a C y b,xs=[.ref a,y]∧H a=some (.ext (excφ a C))∧ExcIs X.K C∧(∀ u,RelV y u→PySem.W.kitOne X.K (.ref C) u=some b)∧Q (.bl b) H):=by
 intro pins s σ H xs us Q I r h
 obtain ⟨a,C,y,b,rfl,ha,z,hk,q⟩:=h
 obtain ⟨u,w',rfl,rx,ry⟩:=vals2 r
 obtain rfl:u=Value.ref a:=rx
 have p:excφ a C s.heap:=(show ObjOk X.prog X.w H s.heap a (.ext (excφ a C)) from I.hok a _ ha).1
 exact PySem.W.kia_one (kitx_exc z) I.kIn p (hk w' ry) (fun z=>nomatch z) fun tk=>⟨.bl b,H,I.tok tk,rfl,q⟩
end
end L2
namespace ZT
open PySem PyProof.Rows
abbrev tIt (t:Addr):Obj:={ cls:=.type "tuple_iterator",data:=.fields #[.ref t,.int 0 0] }
abbrev pr2 (a b:Value):Obj:={ cls:=.type "tuple",data:=.seq #[a,b] }
abbrev zH (h:Heap) (t u:Addr):Heap:=((((h.push (tIt t)).push (tIt u)).push (pr2 (.ref h.objs.size) (.ref (h.push (tIt t)).objs.size))).push (pr2 .none .none)).push
 { cls:=.type "zip",data:=.fields #[.none,.bool false,.bool false,.ref ((h.push (tIt t)).push (tIt u)).objs.size,.ref (((h.push (tIt t)).push (tIt u)).push (pr2 (.ref h.objs.size) (.ref (h.push (tIt t)).objs.size))).objs.size] }
theorem made_zipT (t u:Addr) (xs ys:Array Value) :
  Meets (Builtin.«zip.__new__» ⟨[.type "zip",.ref t,.ref u],[]⟩) (fun _ R s=>s.heap.IsTuple t xs∧s.heap.IsTuple u ys ∧
   R (.ok (.ret (.ref ((((s.heap.push (tIt t)).push (tIt u)).push (pr2 (.ref s.heap.objs.size) (.ref (s.heap.push (tIt t)).objs.size))).push (pr2 .none .none)).objs.size))) { s with heap:=zH s.heap t u }) :=
 .of_wp fun prog w A R s h=>by
  obtain ⟨hp,g,d,tk,os⟩:=s
  obtain ⟨h1,h2,h⟩:=h
  have hsub:=sub_zip
  have hT1:Heap.IsTuple (Shared.heap ⟨hp,g,d,tk,os⟩) t xs:=h1
  have hT2:Heap.IsTuple (Shared.heap ⟨hp.push (tIt t),g,d,tk,os⟩) u ys:=Heap.IsTuple.push h2 _
  wp_walk using wpAny_pyIter_tuple hT1,wpAny_pyIter_tuple hT2
  exact ⟨_,rfl,h⟩
section
variable {prog:Program}{w:World}{A:Around}{E:Value→Shared→Prop}{s:Shared}
theorem call_zipT {t u:Addr}{xs ys:Array Value}{Q:Value→Shared→Prop} (h1:s.heap.IsTuple t xs) (h2:s.heap.IsTuple u ys)
  (h:∀ h',IsZip h' (s.heap.objs.size+4) (s.heap.objs.size+2) (s.heap.objs.size+3) .none→IsPair h' (s.heap.objs.size+2) (.ref s.heap.objs.size) (.ref (s.heap.objs.size+1)) →
   IsPair h' (s.heap.objs.size+3) .none .none→h'.IsTupleIter s.heap.objs.size t 0→h'.IsTupleIter (s.heap.objs.size+1) u 0 →
   (∀ c o,s.heap.get? c=some o→h'.get? c=some o)→Q (.ref (s.heap.objs.size+4)) { s with heap:=h' }) :
  wpAny (model prog w) A (call (.type "zip") [.ref t,.ref u]) Q E s:=by
 refine callType_new F.called_zip (by decide) (F.typeCall_zip_2 _ _) (F.newCall_zip_2 _ _) (fun obj=>F.args_object_init_3 obj _ _) F.entry_zip_new (made_zipT t u xs ys) ⟨h1,h2,?_⟩
 have up:∀ {h:Heap}{o p:Obj}{b:Addr},h.get? b=some p→(h.push o).get? b=some p:=fun e=>Heap.get?_push_of_some _ e
 have q0:(zH s.heap t u).get? s.heap.objs.size=some (tIt t):=up (up (up (up (Heap.get?_push_size _ rfl))))
 have q1:(zH s.heap t u).get? (s.heap.push (tIt t)).objs.size=some (tIt u):=up (up (up (Heap.get?_push_size _ rfl)))
 have q2:(zH s.heap t u).get? ((s.heap.push (tIt t)).push (tIt u)).objs.size=some _:=up (up (Heap.get?_push_size _ rfl))
 have q3:(zH s.heap t u).get? (((s.heap.push (tIt t)).push (tIt u)).push (pr2 (.ref s.heap.objs.size) (.ref (s.heap.push (tIt t)).objs.size))).objs.size=some _:=up (Heap.get?_push_size _ rfl)
 have q4:(zH s.heap t u).get? ((((s.heap.push (tIt t)).push (tIt u)).push (pr2 (.ref s.heap.objs.size) (.ref (s.heap.push (tIt t)).objs.size))).push (pr2 .none .none)).objs.size=some _:=Heap.get?_push_size _ rfl
 have qk:∀ c o,s.heap.get? c=some o→(zH s.heap t u).get? c=some o:=fun c o e=>up (up (up (up (up e))))
 show _∧_
 generalize zH s.heap t u=h5 at q0 q1 q2 q3 q4 qk ⊢
 simp only [Heap.size_push] at q1 q2 q3 q4 ⊢
 exact ⟨⟨_,q4,rfl⟩,h h5 q4 q2 q3 ⟨_,q0,rfl,rfl⟩ ⟨_,q1,rfl,rfl⟩ qk⟩
theorem zipT_next {z TI TO i1 i2 l1 l2:Addr}{k:Nat}{xs ys:Array Value}{x y a b:Value}{Q:Option Value→Shared→Prop} (D:ZipApart z TI TO i1 i2 l1 l2)
  (hz:IsZip s.heap z TI TO .none) (hTI:IsPair s.heap TI (.ref i1) (.ref i2)) (hTO:IsPair s.heap TO a b)
  (h1:s.heap.IsTupleIter i1 l1 k) (h2:s.heap.IsTupleIter i2 l2 k) (hl1:s.heap.IsTuple l1 xs) (hl2:s.heap.IsTuple l2 ys) (hx:xs[k]? = some x) (hy:ys[k]? = some y)
  (hQ:∀ h',IsZip h' z TI TO (rawInt s.heap.objs.size)→IsPair h' TO x y→h'.IsTupleIter i1 l1 (k+1)→h'.IsTupleIter i2 l2 (k+1)→IsPair h' s.heap.objs.size x y →
   (∀ c o,c≠z→c≠TO→c≠i1→c≠i2→s.heap.get? c=some o→h'.get? c=some o)→Q (some (.ref s.heap.objs.size)) { s with heap:=h' }) :
  wpAny (model prog w) A (pyNext (.ref z)) Q E s:=by
 have hT:s.TypeIs (.ref z) "zip":=⟨_,hz,rfl⟩
 unfold pyNext
 refine wpAny_bind (wpAny_attempt (wpAny_callSpecial?_slot (name:=Str.ofString "__next__") hT F.slot_zip_next (wpAny_call_entry F.slot_zip_next hT F.entry_zip_next ?_ (F.args_zip_next_1 _))))
 show wpAny _ _ (field (.ref z) 2 >>= _) _ _ _
 refine wpAny_bind (wpAny_field hz rfl (x:=.bool false) rfl ?_)
 show wpAny _ _ (field (.ref z) 3 >>= _) _ _ _
 refine wpAny_bind (wpAny_field hz rfl (x:=.ref TI) rfl (wpAny_bind (wpAny_seqItems hTI rfl ?_)))
 show wpAny _ _ (Builtin.SmallTypes.ownedTupleIsFree (.ref z) >>= _) _ _ _
 refine wpAny_bind ?_
 unfold Builtin.SmallTypes.ownedTupleIsFree
 refine wpAny_bind (wpAny_field hz rfl (x:=.none) rfl (wpAny_pure ?_))
 simp only [if_true]
 refine wpAny_bind (wpAny_rule (wpAny_bind (wpAny_field hz rfl (x:=.ref TO) rfl (wpAny_bind (wpAny_setField_rec hz (by simp) fun g1 hz1 s1=>?_)))))
 replace hz1:IsZip g1 z TI TO .ellipsis:=hz1
 refine wpAny_bind ?_
 simp only [List.zipIdx_cons,List.zipIdx_nil,List.forIn_cons,List.forIn_nil]
 refine wpAny_bind (wpAny_bind (wpAny_onRaise ?_))
 show wpAny _ _ (Builtin.SmallTypes.nextOf (.ref i1) >>= _) _ _ _
 refine wpAny_bind (ET.nextT_item (h1.extBut s1.extBut D.i1z) (hl1.extBut s1.extBut D.l1z) hx fun g2 a2 s2=>wpAny_pure ?_)
 have o2:IsPair g2 TO a b:=s2.extBut _ _ D.TOi1 (s1.extBut _ _ D.TOz hTO)
 refine wpAny_bind (wpAny_seqItems o2 rfl (wpAny_bind (wpAny_updateSeq_pair o2 fun g3 o3 s3=>?_)))
 replace o3:IsPair g3 TO x b:=o3
 refine wpAny_bind (wpAny_letGo (wpAny_pure ?_))
 refine wpAny_bind (wpAny_bind (wpAny_onRaise ?_))
 show wpAny _ _ (Builtin.SmallTypes.nextOf (.ref i2) >>= _) _ _ _
 refine wpAny_bind (ET.nextT_item (((h2.extBut s1.extBut D.i2z).extBut s2.extBut D.i12.symm).extBut s3.extBut D.TOi2.symm) (((hl2.extBut s1.extBut D.l2z).extBut s2.extBut D.l2i1).extBut s3.extBut D.l2TO) hy fun g4 a4 s4=>wpAny_pure ?_)
 have o4:IsPair g4 TO x b:=s4.extBut _ _ D.TOi2 o3
 refine wpAny_bind (wpAny_seqItems o4 rfl (wpAny_bind (wpAny_updateSeq_pair o4 fun g5 o5 s5=>?_)))
 replace o5:IsPair g5 TO x y:=o5
 refine wpAny_bind (wpAny_letGo (wpAny_pure (wpAny_pure ?_)))
 refine wpAny_bind (wpAny_seqItems o5 rfl (wpAny_bind (wpAny_newTuple ?_)))
 have hsz:g5.objs.size=s.heap.objs.size:=by rw [s5.1,s4.1,s3.1,s2.1,s1.1]
 have hz5:IsZip g5 z TI TO .ellipsis:=s5.extBut _ _ D.TOz.symm (s4.extBut _ _ D.i2z.symm (s3.extBut _ _ D.TOz.symm (s2.extBut _ _ D.i1z.symm hz1)))
 have k5:∀ c o,c≠z→c≠TO→c≠i1→c≠i2→s.heap.get? c=some o→g5.get? c=some o:=fun c o n1 n2 n3 n4 e=>s5.extBut _ _ n2 (s4.extBut _ _ n4 (s3.extBut _ _ n2 (s2.extBut _ _ n3 (s1.extBut _ _ n1 e))))
 have b1:g5.IsTupleIter i1 l1 (k+1):=((a2.extBut s3.extBut D.TOi1.symm).extBut s4.extBut D.i12).extBut s5.extBut D.TOi1.symm
 have b2:g5.IsTupleIter i2 l2 (k+1):=a4.extBut s5.extBut D.TOi2.symm
 have hlt:z < g5.objs.size:=Heap.lt_size hz5
 show wpAny _ _ (Builtin.SmallTypes.ownedTupleHandOut (.ref z) (.ref g5.objs.size) >>= _) _ _ _
 refine wpAny_bind ?_
 unfold Builtin.SmallTypes.ownedTupleHandOut
 have hz6:IsZip (g5.push (pr2 x y)) z TI TO .ellipsis:=Heap.get?_push_of_some _ hz5
 refine wpAny_bind (wpAny_setField_rec hz6 (by simp) fun g7 hz7 s7=>?_)
 replace hz7:IsZip g7 z TI TO (rawInt g5.objs.size):=hz7
 refine wpAny_setField_rec hz7 (by simp) fun g8 hz8 s8=>?_
 replace hz8:IsZip g8 z TI TO (rawInt g5.objs.size):=hz8
 have up:∀ c o,c≠z→g5.get? c=some o→g8.get? c=some o:=fun c o n e=>s8.extBut _ _ n (s7.extBut _ _ n (Heap.get?_push_of_some _ e))
 have t8:IsPair g8 g5.objs.size x y:=s8.extBut _ _ (Nat.ne_of_gt hlt) (s7.extBut _ _ (Nat.ne_of_gt hlt) (Heap.get?_push_size _ rfl))
 rw [hsz] at hz8 t8
 refine wpAny_pure ⟨_,rfl,wpAny_pure ?_⟩
 show Q (some (.ref g5.objs.size)) _
 rw [hsz]
 exact hQ g8 hz8 (up _ _ D.TOz o5) (b1.at fun o e=>up _ o D.i1z e) (b2.at fun o e=>up _ o D.i2z e) t8 fun c o n1 n2 n3 n4 e=>up c o n1 (k5 c o n1 n2 n3 n4 e)
theorem zipT_end {z TI TO i1 i2 l1 l2:Addr}{k:Nat}{xs:Array Value}{Q:Option Value→Shared→Prop} (hh:A.handled=none) (D:ZipApart z TI TO i1 i2 l1 l2)
  (hz:IsZip s.heap z TI TO .none) (hTI:IsPair s.heap TI (.ref i1) (.ref i2)) (h1:s.heap.IsTupleIter i1 l1 k) (hl1:s.heap.IsTuple l1 xs) (hx:xs[k]? = none)
  (hQ:∀ h',(∀ c o,c≠z→c≠i1→s.heap.get? c=some o→h'.get? c=some o)→Q none { s with heap:=h' }):wpAny (model prog w) A (pyNext (.ref z)) Q E s:=by
 have hT:s.TypeIs (.ref z) "zip":=⟨_,hz,rfl⟩
 unfold pyNext
 refine wpAny_bind (wpAny_attempt (wpAny_callSpecial?_slot (name:=Str.ofString "__next__") hT F.slot_zip_next (wpAny_call_entry F.slot_zip_next hT F.entry_zip_next ?_ (F.args_zip_next_1 _))))
 show wpAny _ _ (field (.ref z) 2 >>= _) _ _ _
 refine wpAny_bind (wpAny_field hz rfl (x:=.bool false) rfl ?_)
 show wpAny _ _ (field (.ref z) 3 >>= _) _ _ _
 refine wpAny_bind (wpAny_field hz rfl (x:=.ref TI) rfl (wpAny_bind (wpAny_seqItems hTI rfl ?_)))
 show wpAny _ _ (Builtin.SmallTypes.ownedTupleIsFree (.ref z) >>= _) _ _ _
 refine wpAny_bind ?_
 unfold Builtin.SmallTypes.ownedTupleIsFree
 refine wpAny_bind (wpAny_field hz rfl (x:=.none) rfl (wpAny_pure ?_))
 simp only [if_true]
 refine wpAny_bind (wpAny_rule (wpAny_bind (wpAny_field hz rfl (x:=.ref TO) rfl (wpAny_bind (wpAny_setField_rec hz (by simp) fun g1 hz1 s1=>?_)))))
 replace hz1:IsZip g1 z TI TO .ellipsis:=hz1
 refine wpAny_bind ?_
 simp only [List.zipIdx_cons,List.zipIdx_nil,List.forIn_cons,List.forIn_nil]
 refine wpAny_bind (wpAny_bind (wpAny_onRaise ?_))
 show wpAny _ _ (Builtin.SmallTypes.nextOf (.ref i1) >>= _) _ _ _
 refine wpAny_bind (ET.nextT_end hh (h1.extBut s1.extBut D.i1z) (hl1.extBut s1.extBut D.l1z) hx fun g2 e s2 he=>?_)
 obtain ⟨oe,hoe,hce⟩:=he
 have hz2:IsZip g2 z TI TO .ellipsis:=s2 _ _ D.i1z.symm hz1
 have hez:e≠z:=fun x=>by subst x;rw [hz2] at hoe;cases hoe;simp at hce
 refine wpAny_setField_rec hz2 (by simp) fun g3 _ s3=>?_
 refine wpAny_bind (wpAny_isInstance (T:="StopIteration") (b:=true) ⟨oe,s3.extBut _ _ hez hoe,hce⟩ isSubtype_stop (wpAny_pure (hQ _ fun c o n1 n2 x=>s3.extBut _ _ n1 (s2 _ _ n2 (s1.extBut _ _ n1 x)))))
end
end ZT
namespace L2
open PySem PySem.Spec PyProof.Rows
def Itz (K:PySem.W.Frag) (a c:Addr):It :=
 ⟨fun i H=>∃ xs ys x y,SqT K H a xs∧SqT K H c ys∧xs[i]? = some x∧ys[i]? = some y,fun i H x H'=>∃ p y z,x=.ref p∧H p=none∧(∀ xs,SqT K H a xs→xs[i]? = some y)∧(∀ ys,SqT K H c ys→ys[i]? = some z)∧H'=upd H p (.tup [y,z]),fun i H=>(∃ xs,SqT K H a xs∧xs.length≤i)∧∃ ys,SqT K H c ys⟩
theorem turn_zipT {P:Program}{w:World}{K:PySem.W.Frag}{es:List Expr}{kk:Nat}{tp:Pos} (a c z TI TO i1 i2:Addr) (n1:TI≠z) (n2:TO≠z) (n3:i1≠z) (n4:i2≠z) (n5:TI≠TO) (n6:TI≠i1) (n7:TI≠i2) (n8:TO≠i1) (n9:TO≠i2) (n10:i1≠i2)
  (ha:a∉[z,TI,TO,i1,i2]) (hc':c∉[z,TI,TO,i1,i2]) :
  Turn P w K (.Tuple es kk tp) (Itz K a c) [z,TI,TO,i1,i2] z (fun i h=>IsZip h z TI TO .none∧IsPair h TI (.ref i1) (.ref i2)∧(∃ x y,IsPair h TO x y)∧h.IsTupleIter i1 a i∧h.IsTupleIter i2 c i) where
 mem:=by simp
 obj:=fun i h st b hb=>by
  obtain ⟨hz,hTI,⟨_,_,hTO⟩,⟨o1,q1,_,d1⟩,⟨o2,q2,_,d2⟩⟩:=st
  simp only [List.mem_cons,List.not_mem_nil,or_false] at hb
  rcases hb with rfl | rfl | rfl | rfl | rfl
  ·exact ⟨_,hz,fun v e=>by
    have e':Data.fields _=Data.cell v:=e
    cases e'⟩
  ·exact ⟨_,hTI,fun v e=>by
    have e':Data.seq _ _=Data.cell v:=e
    cases e'⟩
  ·exact ⟨_,hTO,fun v e=>by
    have e':Data.seq _ _=Data.cell v:=e
    cases e'⟩
  ·exact ⟨o1,q1,fun v e=>by rw [d1] at e;cases e⟩
  ·exact ⟨o2,q2,fun v e=>by rw [d2] at e;cases e⟩
 keep:=fun i h h' st k=>by
  obtain ⟨hz,hTI,⟨x,y,hTO⟩,h1,h2⟩:=st
  exact ⟨k z (by simp) _ hz,k TI (by simp) _ hTI,⟨x,y,k TO (by simp) _ hTO⟩,h1.at fun o e=>k i1 (by simp) o e,h2.at fun o e=>k i2 (by simp) o e⟩
 item:=by
  intro X hP hw hK hc i pins s σ H E I hf st hg
  subst hP hw hK
  obtain ⟨hz,hTI,⟨x0,y0,hTO⟩,h1,h2⟩:=st
  obtain ⟨xs,ys,x,y,hqx,hqy,hx,hy⟩:=hg
  obtain ⟨its,rv,p,_⟩:=I.tuple hqx
  obtain ⟨its2,rv2,p2,_⟩:=I.tuple hqy
  obtain ⟨u,hu,ru⟩:=rv.get hx
  obtain ⟨v,hv,rv'⟩:=rv2.get hy
  simp only [List.mem_cons,List.not_mem_nil,or_false,not_or] at ha hc'
  have D:ZipApart z TI TO i1 i2 a c:=⟨n1,n2,n3,n4,n5,n6,n7,n8,n9,n10,ha.1,ha.2.2.1,ha.2.2.2.1,ha.2.2.2.2,hc'.1,hc'.2.2.1,hc'.2.2.2.1,hc'.2.2.2.2⟩
  refine ZT.zipT_next D hz hTI hTO h1 h2 (show s.heap.IsTuple a its.toArray from p) (show s.heap.IsTuple c its2.toArray from p2) (x:=u) (y:=v) (by simpa using hu) (by simpa using hv) fun h' ho oT b1 b2 htp kp=>⟨_,rfl,?_⟩
  refine wpAny_letOwnedTupleGo_zip ho fun g he2 hs2=>?_
  have kp2:∀ b o,b∉[z,TI,TO,i1,i2]→s.heap.get? b=some o→g.get? b=some o:=fun b o hb e1=>by
   simp only [List.mem_cons,List.not_mem_nil,or_false,not_or] at hb
   exact (hs2.2 b hb.1).trans (kp b o hb.1 hb.2.2.1 hb.2.2.2.1 hb.2.2.2.2 e1)
  have fr:H s.heap.objs.size=none:=I.fresh
  have nit:∀ {b:Addr}{o:HO},H b=some o→b∉[z,TI,TO,i1,i2]:=fun {b o} q m=>by
   rw [(hf b m).1] at q
   cases q
  have ltz:z < s.heap.objs.size:=Heap.lt_size hz
  have ht2:g.get? s.heap.objs.size=some { cls:=.type "tuple",data:=.seq #[u,v] }:=(hs2.2 _ (Nat.ne_of_gt ltz)).trans htp
  have I1:Inv X pins σ (upd H s.heap.objs.size (.tup [x,y])) { s with heap:=g }:=by
   have un:Un (frs X.stack) [z,TI,TO,i1,i2] H (upd H s.heap.objs.size (.tup [x,y])) s.heap g :=
    ⟨fun b o q _ _ hx=>kp2 b o hx q,fun b o q _ _ hx=>⟨o.slots,kp2 b o hx q⟩,fun b o q n _=>by rw [upd_ne (Nat.ne_of_lt (Heap.lt_size q))];exact n,fun b o q hx=>⟨o,kp2 b o hx q⟩,
     fun b ys q=>by rw [upd_ne (ne_of_none q fr)];exact q,fun b o v q=>by rw [upd_ne (ne_of_none q fr)];exact q,fun b ps q=>⟨#[],by rw [upd_ne (ne_of_none q fr),q];simp⟩⟩
   refine I.call (g':=s.gens) (d':=s.drawn) (t':=s.toks) un (fun b o q=>?_) I.bare fun b hb=>?_
   ·by_cases hb:b=s.heap.objs.size
    ·subst hb
     rw [upd_same] at q
     cases q
     exact ⟨by show 2≤sizeLine;decide,[u,v],.cons ru (.cons rv' .nil),⟨_,ht2,⟨rfl,_,rfl⟩,rfl⟩⟩
    ·rw [upd_ne hb] at q
     refine (I.hok b o q).stay (fun d o' hd e1=>kp2 d o' ?_ e1) (fun d e1=>?_) fun d ys e1=>?_
     ·rcases hd with e | e
      ·rw [e];exact nit q
      ·exact nit e
     ·rw [upd_ne (ne_of_none e1 fr)];exact e1
     ·rw [upd_ne (ne_of_none e1 fr)];exact e1
   ·obtain ⟨_,f1,_,f3,f4,f5⟩:=hf b hb
    exact ⟨f3,f1,f4,f5⟩
  have up:∀ b o,b≠z→h'.get? b=some o→g.get? b=some o:=fun b o n e=>(hs2.2 b n).trans e
  refine ⟨.ref s.heap.objs.size,_,I1,rfl,⟨_,x,y,rfl,fr,fun xs' hy'=>by rw [I.tuple_inj hy' hqx];exact hx,fun ys' hy'=>by rw [I.tuple_inj hy' hqy];exact hy,rfl⟩,
   ⟨he2,up _ _ n1 (kp _ _ n1 n5 n6 n7 hTI),⟨_,_,up _ _ n2 oT⟩,b1.at fun o e=>up _ o n3 e,b2.at fun o e=>up _ o n4 e⟩,fun b hb=>?_⟩
  have hlt:b < s.heap.objs.size:=by
   obtain ⟨o1,q1,_⟩:=h1
   obtain ⟨o2,q2,_⟩:=h2
   simp only [List.mem_cons,List.not_mem_nil,or_false] at hb
   rcases hb with rfl | rfl | rfl | rfl | rfl
   ·exact ltz
   ·exact Heap.lt_size hTI
   ·exact Heap.lt_size hTO
   ·exact Heap.lt_size q1
   ·exact Heap.lt_size q2
  rw [upd_ne (Nat.ne_of_lt hlt)]
  exact (hf b hb).1
 done:=by
  intro X hP hw hK hc i pins s σ H E I hf st hg
  subst hP hw hK
  obtain ⟨hz,hTI,⟨x0,y0,hTO⟩,h1,h2⟩:=st
  obtain ⟨⟨xs,hqx,hlen⟩,_⟩:=hg
  obtain ⟨its,rv,p,_⟩:=I.tuple hqx
  have hl:=rv.length
  simp only [List.mem_cons,List.not_mem_nil,or_false,not_or] at ha hc'
  have D:ZipApart z TI TO i1 i2 a c:=⟨n1,n2,n3,n4,n5,n6,n7,n8,n9,n10,ha.1,ha.2.2.1,ha.2.2.2.1,ha.2.2.2.2,hc'.1,hc'.2.2.1,hc'.2.2.2.1,hc'.2.2.2.2⟩
  refine ZT.zipT_end (I.ok.hd hc) D hz hTI h1 (show s.heap.IsTuple a its.toArray from p) (by simp;omega) fun h' kp=>⟨rfl,?_⟩
  have kp2:∀ b o,b∉[z,TI,TO,i1,i2]→s.heap.get? b=some o→h'.get? b=some o:=fun b o hb e1=>by
   simp only [List.mem_cons,List.not_mem_nil,or_false,not_or] at hb
   exact kp b o hb.1 hb.2.2.2.1 e1
  have nit:∀ {b:Addr}{o:HO},H b=some o→b∉[z,TI,TO,i1,i2]:=fun {b o} q m=>by
   rw [(hf b m).1] at q
   cases q
  have un:Un (frs X.stack) [z,TI,TO,i1,i2] H H s.heap h' :=
   ⟨fun b o q _ _ hx=>kp2 b o hx q,fun b o q _ _ hx=>⟨o.slots,kp2 b o hx q⟩,fun b o q n _=>n,fun b o q hx=>⟨o,kp2 b o hx q⟩,fun b ys q=>q,fun b o v q=>q,fun b ps q=>⟨#[],by rw [q];simp⟩⟩
  refine I.call (g':=s.gens) (d':=s.drawn) (t':=s.toks) un (fun b o q=>?_) I.bare fun b hb=>?_
  ·refine (I.hok b o q).stay (fun d o' hd e1=>kp2 d o' ?_ e1) (fun d e1=>e1) fun d ys e1=>e1
   rcases hd with e | e
   ·rw [e];exact nit q
   ·exact nit e
  ·obtain ⟨_,f1,_,f3,f4,f5⟩:=hf b hb
   exact ⟨f3,f1,f4,f5⟩
 self:=fun _ _ _ _ _ st h=>wpAny_pyIter_zip st.1 h
section
variable {X:Cx}
def iZipT (K:PySem.W.Frag) (ta:TA):TI:=fun σ H R=>ta σ H fun vs H1=>∃ a c,vs=[.ref a,.ref c]∧(∃ xs,SqT K H1 a xs)∧(∃ ys,SqT K H1 c ys)∧R (Itz K a c) H1
theorem zn (i j n:Nat) (h:i≠j):n+i≠n+j:=by omega
theorem zm {n b:Nat} (h:b < n):b∉[n+4,n+2,n+3,n,n+1]:=by
 simp only [List.mem_cons,List.not_mem_nil,or_false]
 omega
theorem zb {n b:Nat} (h:b∈[n+4,n+2,n+3,n,n+1]):n≤b:=by
 simp only [List.mem_cons,List.not_mem_nil,or_false] at h
 omega
theorem pi_zipT {l r:Expr}{ta:TA}{p pos tp:Pos}{es:List Expr}{kk:Nat} (hg:Gl X "zip") (hm:X.mg "zip"=none) (ha:PA X [l,r] ta) (hs:starEach [l,r] X.env=(false,eval l X.env) :: starEach [r] X.env:=by rfl) (hs2:starEach [r] X.env=[(false,eval r X.env)]:=by rfl) :
  PI X (.Tuple es kk tp) (.Call (.Name "zip" p) [l,r] [] pos) (iZipT X.K ta):=by
 intro pins s σ H R I h
 refine Call_ (ld_blt I hg hm boot_zip (PyProof.Rows.callWith_type1 (thnA (ha pos pins s σ H _ I h) fun us s1 vs H1 I1 r1 q1=>?_) hs (by rw [hs2];rfl)))
 obtain ⟨a,c,e,⟨xs,hq⟩,⟨ys,hq2⟩,q⟩:=q1
 subst e
 obtain ⟨u,v,rfl,ru,rv⟩:=vals2 r1
 cases ru
 cases rv
 obtain ⟨its,_,pl,_⟩:=I1.tuple hq
 obtain ⟨its2,_,pl2,_⟩:=I1.tuple hq2
 refine ZT.call_zipT (show s1.heap.IsTuple a its.toArray from pl) (show s1.heap.IsTuple c its2.toArray from pl2) fun h' he hTI hTO k1 k2 kp=>?_
 have I2:Inv X pins σ H1 { s1 with heap:=h' }:=I1.kept (t':=s1.toks) kp
 have la:a < s1.heap.objs.size:=by
  obtain ⟨_,z,_⟩:=pl
  exact Heap.lt_size z
 have lc:c < s1.heap.objs.size:=by
  obtain ⟨_,z,_⟩:=pl2
  exact Heap.lt_size z
 refine wpAny_pyIter_zip (s:={ s1 with heap:=h' }) he ⟨s1.heap.objs.size+4,[s1.heap.objs.size+4,s1.heap.objs.size+2,s1.heap.objs.size+3,s1.heap.objs.size,s1.heap.objs.size+1],_,_,H1,rfl,I2,turn_zipT a c _ _ _ _ _ (zn 2 4 _ (by decide)) (zn 3 4 _ (by decide)) (zn 0 4 _ (by decide)) (zn 1 4 _ (by decide)) (zn 2 3 _ (by decide)) (zn 2 0 _ (by decide)) (zn 2 1 _ (by decide)) (zn 3 0 _ (by decide)) (zn 3 1 _ (by decide)) (zn 0 1 _ (by decide)) (zm la) (zm lc),⟨he,hTI,⟨_,_,hTO⟩,k1,k2⟩,fun b hb=>?_,q⟩
 have hb':s1.heap.objs.size≤b:=zb hb
 have:=I1.fpOk (H':=H1) hb' (I1.hok.fresh hb')
 exact ⟨this.1,this.2⟩
theorem Walk.zipT {K:PySem.W.Frag}{H1:Hp}{a c:Addr}{xs ys:List V} (h:SqT K H1 a xs) (h2:SqT K H1 c ys) (he:ys.length=xs.length):Walk (Itz K a c) H1 xs.length (fun k x H3=>∃ p,x=.ref p∧H3 p=some (.tup [xs.getD k .non,ys.getD k .non])) where
 go:=fun k H2 s hk=>⟨xs,ys,_,_,s.seqT h,s.seqT h2,getD_some (d:=V.non) hk,getD_some (d:=V.non) (by omega)⟩
 yld:=fun k H2 x H3 s hk y=>by
  obtain ⟨p,u,v,rfl,hp,hu,hv,rfl⟩:=y
  have e:=hu xs (s.seqT h)
  rw [getD_some (d:=V.non) hk] at e
  have e2:=hv ys (s.seqT h2)
  rw [getD_some (d:=V.non) (by omega)] at e2
  cases e
  cases e2
  exact ⟨Same.new hp,p,rfl,upd_same⟩
 stop:=fun H2 s=>⟨⟨xs,s.seqT h,Nat.le_refl _⟩,ys,s.seqT h2⟩
end
end L2
namespace L2
open PySem PySem.Spec PyProof.Rows
section
variable {X:Cx}
theorem vals_strs:∀ {ts:List Str}{us:List Value},Vals (ts.map V.str) us→∃ l:List (Str×Tok),us=strValues l∧l.map (·.1)=ts
 | [],_,.nil=>⟨[],rfl,rfl⟩
 | x :: ts,_,.cons h r=>by
  obtain ⟨t,rfl⟩:=h
  obtain ⟨l,rfl,e⟩:=vals_strs (ts:=ts) r
  exact ⟨(x,t) :: l,rfl,by rw [List.map_cons,e]⟩
def rJoin (K:PySem.W.Frag):V→List V→Hp→VK→Prop:=fun x vs H Q=>∃ (sep:Str) (b:Addr) (ts:List Str),x=.str sep∧vs=[.ref b]∧SqL K H b (ts.map V.str)∧(ts.map (·.length)).sum+ts.length * sep.length≤16777216∧Q (.str (Str.join sep ts)) H
theorem mt_join:MtR X "str.join" (rJoin X.K):=by
 intro pins s σ H x vs v us Q I rx rv h
 obtain ⟨sep,b,ts,rfl,rfl,hb,hz,q⟩:=h
 obtain ⟨t,rfl⟩:=rx
 obtain ⟨u,rfl,ru⟩:=rv.one
 cases ru
 obtain ⟨its,r,pl,_⟩:=I.list hb
 obtain ⟨l,rfl,e⟩:=vals_strs r
 refine SC.join (show s.heap.IsList b (strValues l).toArray from pl.isList) e (joinOk_of hz) fun t' k=>⟨.str (Str.join sep ts),H,I.tok _,⟨t',by rw [Txt.join,StrLaws.glued_eq_join]⟩,q⟩
end
end L2
namespace DP
open PySem PyProof.Rows
section
variable {prog:Program}{w:World}
end
end DP
namespace DP
open PySem
open Sem (wp)
section
variable {prog:Program}{w:World}{A:Around}{E:Value→Shared→Prop}{h:Heap}{g:Array GenState}{d:Drawn}{t:Nat}{os:OsState}{a:Addr}{its:Array Value}{n:Nat}
end
section
variable {prog:Program}{w:World}{A:Around}{E:Value→Shared→Prop}{s:Shared}
end
end DP
namespace L2
open PySem PySem.Spec PyProof.Rows
section
variable {X:Cx}
end
end L2
namespace L2
open PySem PySem.Spec PyProof.Rows
section
variable {X:Cx}{tg:Expr}
end
end L2
namespace My
open PySem L2 PyProof.Rows
def top (i:Nat):Stmt:=PySem.Challenge.pw_slipseen_k16_schemes_refused.main.body.getD i (.Pass ⟨0,0,0,0⟩)
abbrev sWhole:Stmt:=top 20
abbrev sTupOf:Stmt:=top 21
abbrev sRow:Stmt:=top 22
abbrev sTab:Stmt:=top 23
abbrev sTabs:Stmt:=top 24
abbrev sCheck:Stmt:=top 25
abbrev sFigs:Stmt:=top 26
abbrev sMoved:Stmt:=top 27
abbrev sSpot:Stmt:=top 29
abbrev sState:Stmt:=top 31
abbrev sGood:Stmt:=top 32
abbrev sCell:Stmt:=top 61
abbrev sStir:Stmt:=top 62
abbrev sWeight:Stmt:=top 63
abbrev sScheme:Stmt:=top 64
abbrev sLaw:Stmt:=top 72
def spWhole:Sp:=fun vs H Q _=>∃ v l m:Int,vs=[.int v,.int l,.int m]∧Q (.bl (wholeB v l m)) H
def spTupOf:Sp:=fun vs H Q _=>∃ (a:Addr) (xs:List V) (l m:Int),vs=[.ref a,.int l,.int m]∧H a=some (.tup xs)∧Q (.bl (lenB xs l m)) H
def spRow:Sp:=fun vs H Q _=>∃ (v:V) (r:List Int) (b n:Int),vs=[v,.int b,.int n]∧RowAt H v r∧r.length≤1000∧∀ H',Same H H'→Q (.bl (rowB b n r)) H'
def spTab:Sp:=fun vs H Q _=>∃ (v:V) (t:Tab) (b n:Int),vs=[v,.int b,.int n]∧TabAt H v t∧t.length≤1000∧(∀ r∈t,r.length≤1000)∧∀ H',Same H H'→Q (.bl (tabB b n t)) H'
def spTabs:Sp:=fun vs H Q _=>∃ (v:V) (ts:List Tab) (b:Int),vs=[v,.int b]∧TabsAt H v ts∧ts.length≤1000∧(∀ t∈ts,t.length≤1000∧∀ r∈t,r.length≤1000)∧∀ H',Same H H'→Q (.bl (tabsB b ts)) H'
def spCheck:Sp:=fun vs H Q _=>∃ (v:V) (ts:List Tab) (b:Int),vs=[v]∧SchAt H v b ts∧Ok b ts∧∀ H',Same H H'→Q .non H'
def spFigs (K:PySem.W.Frag):Sp:=fun vs H Q _=>∃ (v:V) (ts:List Tab) (b:Int) (a:Addr) (fs:List Int),vs=[v,.ref a]∧SchAt H v b ts∧SqL K H a (fs.map V.int)∧figsIn b fs∧∀ H',Same H H'→Q .non H'
def spMoved (K:PySem.W.Frag):Sp:=fun vs H Q _=>∃ (v:V) (ts:List Tab) (b:Int) (p a:Addr) (t:Nat) (s:Int) (fs:List Int),vs=[v,.ref p,.ref a]∧TabsAt H v ts∧Ok b ts∧SqT K H p [.int t,.int s]∧SqL K H a (fs.map V.int) ∧
 t < ts.length∧0≤s∧s < (nst ts:Int)∧figsIn b fs∧∀ q H',Same H H'→H' q=some (.tup [.int (((t+fs.length) % ts.length:Nat):Int),.int (rd ts t s fs)])→Q (.ref q) H'
def spSpot (K:PySem.W.Frag):Sp:=fun vs H Q _=>∃ (v:V) (ts:List Tab) (b:Int) (a:Addr) (fs:List Int),vs=[v,.ref a]∧SchAt H v b ts∧Ok b ts∧SqL K H a (fs.map V.int)∧figsIn b fs ∧
 ∀ q H',Same H H'→H' q=some (.tup [.int ((fs.length % ts.length:Nat):Int),.int (rd ts 0 0 fs)])→Q (.ref q) H'
def spState (K:PySem.W.Frag):Sp:=fun vs H Q _=>∃ (v:V) (ts:List Tab) (b:Int) (a:Addr) (fs:List Int),vs=[v,.ref a]∧SchAt H v b ts∧Ok b ts∧SqL K H a (fs.map V.int)∧figsIn b fs ∧
 ∀ H',Same H H'→Q (.int (rd ts 0 0 fs)) H'
def spGood (K:PySem.W.Frag):Sp:=fun vs H Q _=>∃ (v:V) (ts:List Tab) (b:Int) (a:Addr) (fs:List Int),vs=[v,.ref a]∧SchAt H v b ts∧Ok b ts∧SqL K H a (fs.map V.int)∧figsIn b fs ∧
 ∀ H',Same H H'→Q (.bl (decide (rd ts 0 0 fs=0))) H'
structure StartAt (K:PySem.W.Frag) (mg:Str→Option Value):Prop where
 at':∃ a,mg "START"=some (.ref a)∧∀ H,SqT K H a [.int 0,.int 0]
structure Nums (mg:Str→Option Value):Prop where
 lb:∃ t,mg "LEAST_BASE"=some (.int 2 t)
 mb:∃ t,mg "MOST_BASE"=some (.int 10 t)
 mt:∃ t,mg "MOST_TABLES"=some (.int 6 t)
 ms:∃ t,mg "MOST_STATES"=some (.int 12 t)
section
variable {P:Program}{w:World}{K:PySem.W.Frag}{mg:Str→Option Value}{base:Heap}
theorem scWhole:FnScope ["value","least","most"] ["value","least","most"] (defScope sWhole):=fS
theorem ok_whole {f:Addr}{fd:FuncData} (F:Fun K "is_whole" "is_whole" sWhole f fd) (B:Blt mg):FnOk P w K mg base CX0 1 f fd ["value","least","most"] spWhole:=by
 refine F.ok scWhole (fun vs H Q E h=>?_) (fun cdv A outer s H vs Q E hr h=>?_)
 ·obtain ⟨v,l,m,rfl,_⟩:=h
  rfl
 ·obtain ⟨v,l,m,rfl,k⟩:=h
  refine ⟨_,pss_cons (ps_if (PW.pt (pw_or (pt_val (pe_callB call_isinst rfl B.isi boot_isinstance (pa_cons (pv 0) (pa_cons (pe_ty B.tBool boot_bool) pa_nil))))
    (pw_or1 (pt_not (pt_val (pe_callB call_isinst rfl B.isi boot_isinstance (pa_cons (pv 0) (pa_cons (pe_ty B.tInt boot_int) pa_nil)))))))) (pss_one (ps_ret pe_bl)) pss_nil)
   (pss_one (ps_ret (pe_chain op_le op_le (pv 1) (pv 0) (pv 2)))),?_⟩
  refine ⟨_,rfl,_,_,_,_,rfl,.int _,kit_int_bool,_,rfl,iteF ?_⟩
  refine ⟨_,rfl,_,_,_,_,rfl,.int _,kit_int_int,_,rfl,iteF ?_⟩
  refine ⟨_,rfl,_,rfl,_,_,rfl,rfl,_,rfl,?_⟩
  refine ite2 (fun c=>⟨_,rfl,_,_,rfl,rfl,?_⟩) (fun c=>?_)
  ·have e:wholeB v l m=decide (v≤m):=by unfold wholeB;rw [c,Bool.true_and]
   rw [e] at k
   exact k
  ·have e:wholeB v l m=false:=by unfold wholeB;rw [Bool.eq_false_iff.mpr c,Bool.false_and]
   rw [e] at k
   exact k
theorem scTupOf:FnScope ["value","least","most"] ["value","least","most"] (defScope sTupOf):=fS
theorem ok_tupOf {f:Addr}{fd:FuncData} (F:Fun K "is_tuple_of" "is_tuple_of" sTupOf f fd) (B:Blt mg):FnOk P w K mg base CX0 1 f fd ["value","least","most"] spTupOf:=by
 refine F.ok scTupOf (fun vs H Q E h=>?_) (fun cdv A outer s H vs Q E hr h=>?_)
 ·obtain ⟨a,xs,l,m,rfl,_⟩:=h
  rfl
 ·obtain ⟨a,xs,l,m,rfl,ha,k⟩:=h
  refine ⟨_,pss_one (ps_ret (pe_and (pe_callB call_isinst rfl B.isi boot_isinstance (pa_cons (pv 0) (pa_cons (pe_ty B.tTuple boot_tuple) pa_nil)))
   (pe_one (pe_chain op_le op_le (pv 1) (pe_callB call_len_seq rfl B.len PySem.boot_len (pa_cons (pv 0) pa_nil)) (pv 2))))),?_⟩
  refine ⟨_,rfl,_,_,_,_,rfl,.tup ha,kit_tup_tup,_,rfl,iteT ?_⟩
  refine ⟨_,rfl,_,rfl,_,_,rfl,.inr (SqT.of ha),_,_,rfl,rfl,_,rfl,?_⟩
  refine ite2 (fun c=>⟨_,rfl,_,_,rfl,rfl,?_⟩) (fun c=>?_)
  ·have e:lenB xs l m=decide ((xs.length:Int)≤m):=by unfold lenB;rw [c,Bool.true_and]
   rw [e] at k
   exact k
  ·have e:lenB xs l m=false:=by unfold lenB;rw [Bool.eq_false_iff.mpr c,Bool.false_and]
   rw [e] at k
   exact k
theorem scRow:FnScope ["row","base","states"] ["row","base","states"] (defScope sRow):=fS
theorem ok_row {f:Addr}{fd:FuncData} (F:Fun K "is_row" "is_row" sRow f fd) (B:Blt mg) (h1:Has P w K mg base "is_tuple_of" 1 ["value","least","most"] spTupOf) (h2:Has P w K mg base "is_whole" 1 ["value","least","most"] spWhole) :
  FnOk P w K mg base CX0 2 f fd ["row","base","states"] spRow:=by
 refine F.ok scRow (fun vs H Q E h=>?_) (fun cdv A outer s H vs Q E hr h=>?_)
 ·obtain ⟨v,r,b,n,rfl,_⟩:=h
  rfl
 ·obtain ⟨v,r,b,n,rfl,⟨a,rfl,ha⟩,hl,k⟩:=h
  refine ⟨_,pss_one (ps_ret (pe_and (pe_fn h1 hr (pa_cons (pv 0) (pa_cons (pv 1) (pa_cons (pv 1) pa_nil))))
   (pe_one (pe_callB (call_all rfl) rfl B.all boot_all (pa_cons (pe_comp (N:=["state","states"]) (js:=[none,some 2]) rfl rfl (pi_tup (pv 0))
    (fun _ _ _ _=>pg_name (i:=0) (ndOf (N:=["state","states"]) (by decide +kernel)) rfl (Or.inl rfl)) (fun _ _ _ _=>pts_nil)
    (fun _ _ _ _=>pe_fn h2 hr (pa_cons (pv 0) (pa_cons pe_int (pa_cons (pe_op op_sub (pv 1) pe_int) pa_nil))))) pa_nil))))),?_⟩
  refine ⟨_,rfl,_,rfl,_,rfl,a,_,b,b,rfl,ha,?_⟩
  refine ⟨_,rfl,ite2 (fun c=>?_) (fun c=>?_)⟩
  ·refine ⟨_,rfl,a,rfl,⟨_,SqT.of ha⟩,?_⟩
   have wk:=Walk.tup (K:=K) (SqT.of ha)
   rw [List.length_map] at wk
   refine block_map wk hl rfl (fun k=>.bl (wholeB (r.getD k 0) 0 (n-1))) (fun k H2 Q' hk s2 q=>?_) (fun D H2 hD s2 hD2=>?_)
   ·refine ⟨_,rfl,_,rfl,_,_,rfl,rfl,r.getD k 0,0,n-1,?_,q _ (Same.refl _)⟩
    rw [show (r.map V.int).getD k .non=V.int (r.getD k 0) by simp [List.getD_eq_getElem?_getD,List.getElem?_map,List.getElem?_eq_getElem hk]]
    rfl
   ·refine ⟨D,r.map fun e=>wholeB e 0 (n-1),rfl,SqL.of ?_,?_⟩
    ·rw [hD2,← range_map_getD r 0 (fun e=>wholeB e 0 (n-1)),List.map_map]
     rfl
    ·have e:rowB b n r=(r.map fun e=>wholeB e 0 (n-1)).all id:=by
      unfold rowB
      rw [show lenB r b b=true by rw [← c];simp [lenB],Bool.true_and]
     rw [e] at k
     exact k H2 s2
  ·have e:rowB b n r=false:=by
    unfold rowB
    rw [show lenB r b b=false by rw [← Bool.eq_false_iff.mpr c];simp [lenB],Bool.false_and]
   rw [e] at k
   exact k H (Same.refl _)
theorem scTab:FnScope ["table","base","states"] ["table","base","states"] (defScope sTab):=fS
theorem ok_tab {f:Addr}{fd:FuncData} (F:Fun K "is_table" "is_table" sTab f fd) (B:Blt mg) (h1:Has P w K mg base "is_tuple_of" 1 ["value","least","most"] spTupOf) (h2:Has P w K mg base "is_row" 2 ["row","base","states"] spRow) :
  FnOk P w K mg base CX0 3 f fd ["table","base","states"] spTab:=by
 refine F.ok scTab (fun vs H Q E h=>?_) (fun cdv A outer s H vs Q E hr h=>?_)
 ·obtain ⟨v,t,b,n,rfl,_⟩:=h
  rfl
 ·obtain ⟨v,t,b,n,rfl,⟨a,xs,rfl,ha,hp⟩,hl,hl2,k⟩:=h
  have el:=paired_length hp
  refine ⟨_,pss_one (ps_ret (pe_and (pe_fn h1 (hm hr) (pa_cons (pv 0) (pa_cons (pv 2) (pa_cons (pv 2) pa_nil))))
   (pe_one (pe_callB (call_all rfl) rfl B.all boot_all (pa_cons (pe_comp (N:=["row","base","states"]) (js:=[none,some 1,some 2]) rfl rfl (pi_tup (pv 0))
    (fun _ _ _ _=>pg_name (i:=0) (ndOf (N:=["row","base","states"]) (by decide +kernel)) rfl (Or.inl rfl)) (fun _ _ _ _=>pts_nil)
    (fun _ _ _ _=>pe_fn h2 hr (pa_cons (pv 0) (pa_cons (pv 1) (pa_cons (pv 2) pa_nil))))) pa_nil))))),?_⟩
  refine ⟨_,rfl,_,rfl,_,rfl,a,_,n,n,rfl,ha,?_⟩
  refine ⟨_,rfl,ite2 (fun c=>?_) (fun c=>?_)⟩
  ·refine ⟨_,rfl,a,rfl,⟨_,SqT.of ha⟩,?_⟩
   have wk:=Walk.tup (K:=K) (SqT.of ha)
   rw [el] at wk
   refine block_map wk hl rfl (fun k=>.bl (rowB b n (t.getD k []))) (fun k H2 Q' hk s2 q=>?_) (fun D H2 hD s2 hD2=>?_)
   ·have ek:t[k]? = some (t.getD k []):=getD_some hk
    obtain ⟨x,ex,hx⟩:=paired_get hp k _ ek
    refine ⟨_,rfl,_,rfl,_,rfl,x,t.getD k [],b,n,?_,hx.same s2,hl2 _ (List.mem_of_getElem? ek),fun H3 s3=>q H3 s3⟩
    rw [show xs.getD k .non=x by rw [List.getD_eq_getElem?_getD,ex];rfl]
    rfl
   ·refine ⟨D,t.map fun r=>rowB b n r,rfl,SqL.of ?_,?_⟩
    ·rw [hD2,← range_map_getD t [] (fun r=>rowB b n r),List.map_map]
     rfl
    ·have e:tabB b n t=(t.map fun r=>rowB b n r).all id:=by
      unfold tabB
      rw [show lenB t n n=true by rw [← c];simp [lenB,el],Bool.true_and]
     rw [e] at k
     exact k H2 s2
  ·have e:tabB b n t=false:=by
    unfold tabB
    rw [show lenB t n n=false by rw [← Bool.eq_false_iff.mpr c];simp [lenB,el],Bool.false_and]
   rw [e] at k
   exact k H (Same.refl _)
theorem scTabs:FnScope ["tables","base","states"] ["tables","base"] (defScope sTabs):=fS
theorem ok_tabs {f:Addr}{fd:FuncData} (F:Fun K "are_tables" "are_tables" sTabs f fd) (B:Blt mg) (Nm:Nums mg) (h1:Has P w K mg base "is_tuple_of" 1 ["value","least","most"] spTupOf) (h2:Has P w K mg base "is_table" 3 ["table","base","states"] spTab) :
  FnOk P w K mg base CX0 4 f fd ["tables","base"] spTabs:=by
 refine F.ok scTabs (fun vs H Q E h=>?_) (fun cdv A outer s H vs Q E hr h=>?_)
 ·obtain ⟨v,ts,b,rfl,_⟩:=h
  rfl
 ·obtain ⟨v,ts,b,rfl,⟨a,xs,rfl,ha,hp⟩,hl,hl2,k⟩:=h
  have el:=paired_length hp
  obtain ⟨t6,m6⟩:=Nm.mt
  obtain ⟨t12,m12⟩:=Nm.ms
  have r1:Room 1 _:=hr.mono (by decide)
  refine ⟨_,pss_cons (ps_if (PW.pt (pw_or (pt_not (pt_val (pe_fn h1 r1 (pa_cons (pv 0) (pa_cons pe_int (pa_cons (pe_glob (v:=.int 6) rfl m6 ⟨_,rfl⟩) pa_nil))))))
    (pw_or1 (pt_not (pt_val (pe_fn h1 r1 (pa_cons (pe_ix ix_tup (pv 0) pe_int (fun _ _=>rfl)) (pa_cons pe_int (pa_cons (pe_glob (v:=.int 12) rfl m12 ⟨_,rfl⟩) pa_nil))))))))) (pss_one (ps_ret pe_bl)) pss_nil)
   (pss_cons (ps_set (i:=2) scTabs.nd rfl (Or.inr rfl) (pe_callB call_len_seq rfl B.len PySem.boot_len (pa_cons (pe_ix ix_tup (pv 0) pe_int (fun _ _=>rfl)) pa_nil)))
   (pss_one (ps_ret (pe_callB (call_all rfl) rfl B.all boot_all (pa_cons (pe_comp (N:=["table","base","states"]) (js:=[none,some 1,some 2]) rfl rfl (pi_tup (pv 0))
    (fun _ _ _ _=>pg_name (i:=0) (ndOf (N:=["table","base","states"]) (by decide +kernel)) rfl (Or.inl rfl)) (fun _ _ _ _=>pts_nil)
    (fun _ _ _ _=>pe_fn h2 hr (pa_cons (pv 0) (pa_cons (pv 1) (pa_cons (pv 2) pa_nil))))) pa_nil))))),?_⟩
  refine ⟨_,rfl,a,xs,1,6,rfl,ha,_,rfl,ite2 (fun c=>?_) (fun c=>?_)⟩
  ·have e:tabsB b ts=false:=by
    unfold tabsB
    have c':lenB xs 1 6=false:=by simpa using c
    rw [show lenB ts 1 6=false by rw [← c'];simp [lenB,el]]
    simp
   rw [e] at k
   exact k H (Same.refl _)
  ·have c':lenB ts 1 6=true:=by
    have:lenB xs 1 6=true:=by simpa using c
    rw [← this]
    simp [lenB,el]
   have hne:0 < ts.length:=by
    have:=(lenB_iff.mp c').1
    omega
   have e0:ts[0]? = some (ts.headD []):=by
    cases ts with
    | nil=>simp at hne
    | cons t r=>rfl
   obtain ⟨x0,ex0,⟨a0,ys,rfl,ha0,hp0⟩⟩:=paired_get hp 0 _ e0
   have el0:=paired_length hp0
   refine ⟨_,rfl,a,xs,0,_,rfl,rfl,SqT.of ha,atI_nat ex0,a0,ys,1,12,rfl,ha0,_,rfl,ite2 (fun d=>?_) (fun d=>?_)⟩
   ·have e:tabsB b ts=false:=by
     unfold tabsB
     have d':lenB ys 1 12=false:=by simpa using d
     rw [show lenB (ts.headD []) 1 12=false by rw [← d'];simp [lenB,el0]]
     simp
    rw [e] at k
    exact k H (Same.refl _)
   ·have d':lenB (ts.headD []) 1 12=true:=by
     have:lenB ys 1 12=true:=by simpa using d
     rw [← this]
     simp [lenB,el0]
    refine ⟨_,rfl,a,xs,0,_,rfl,rfl,SqT.of ha,atI_nat ex0,a0,ys,rfl,.inr (SqT.of ha0),?_⟩
    refine ⟨_,rfl,a,rfl,⟨_,SqT.of ha⟩,?_⟩
    have wk:=Walk.tup (K:=K) (SqT.of ha)
    rw [el] at wk
    refine block_map wk hl rfl (fun k=>.bl (tabB b (ys.length:Int) (ts.getD k []))) (fun k H2 Q' hk s2 q=>?_) (fun D H2 hD s2 hD2=>?_)
    ·have ek:ts[k]? = some (ts.getD k []):=getD_some hk
     obtain ⟨x,ex,hx⟩:=paired_get hp k _ ek
     refine ⟨_,rfl,_,rfl,_,rfl,x,ts.getD k [],b,(ys.length:Int),?_,hx.same s2,(hl2 _ (List.mem_of_getElem? ek)).1,(hl2 _ (List.mem_of_getElem? ek)).2,fun H3 s3=>q H3 s3⟩
     rw [show xs.getD k .non=x by rw [List.getD_eq_getElem?_getD,ex];rfl]
     rfl
    ·refine ⟨D,ts.map fun t=>tabB b (ys.length:Int) t,rfl,SqL.of ?_,?_⟩
     ·rw [hD2,← range_map_getD ts [] (fun t=>tabB b (ys.length:Int) t),List.map_map]
      rfl
     ·have e:tabsB b ts=(ts.map fun t=>tabB b (ys.length:Int) t).all id:=by
       unfold tabsB
       rw [c',d',el0]
       simp
      rw [e] at k
      exact k H2 s2
theorem scCheck:FnScope ["scheme"] ["scheme"] (defScope sCheck):=fS
theorem ok_check {f:Addr}{fd:FuncData} (F:Fun K "check_scheme" "check_scheme" sCheck f fd) (B:Blt mg) (Nm:Nums mg) (h1:Has P w K mg base "is_tuple_of" 1 ["value","least","most"] spTupOf) (h2:Has P w K mg base "is_whole" 1 ["value","least","most"] spWhole)
  (h3:Has P w K mg base "are_tables" 4 ["tables","base"] spTabs):FnOk P w K mg base CX0 5 f fd ["scheme"] spCheck:=by
 refine F.ok scCheck (fun vs H Q E h=>?_) (fun cdv A outer s H vs Q E hr h=>?_)
 ·obtain ⟨v,ts,b,rfl,_⟩:=h
  rfl
 ·obtain ⟨v,ts,b,rfl,⟨a,wv,rfl,ha,hT⟩,ok,k⟩:=h
  obtain ⟨t2,m2⟩:=Nm.lb
  obtain ⟨t10,m10⟩:=Nm.mb
  have r1:Room 1 _:=hr.mono (by decide)
  have hB:=schB_iff.mpr ok
  unfold schB at hB
  rw [Bool.and_eq_true] at hB
  refine ⟨_,pss_cons (ps_if (pt_not (pt_val (pe_fn h1 r1 (pa_cons (pv 0) (pa_cons pe_int (pa_cons pe_int pa_nil)))))) (pss_one ps_never) pss_nil)
   (pss_cons (ps_if (pt_not (pt_val (pe_fn h2 r1 (pa_cons (pe_ix ix_tup (pv 0) pe_int (fun _ _=>rfl)) (pa_cons (pe_glob (v:=.int 2) rfl m2 ⟨_,rfl⟩) (pa_cons (pe_glob (v:=.int 10) rfl m10 ⟨_,rfl⟩) pa_nil)))))) (pss_one ps_never) pss_nil)
   (pss_one (ps_if (pt_not (pt_val (pe_fn h3 hr (pa_cons (pe_ix ix_tup (pv 0) pe_int (fun _ _=>rfl)) (pa_cons (pe_ix ix_tup (pv 0) pe_int (fun _ _=>rfl)) pa_nil))))) (pss_one ps_never) pss_nil))),?_⟩
  refine ⟨_,rfl,a,_,2,2,rfl,ha,_,rfl,iteF ?_⟩
  refine ⟨_,rfl,a,_,0,_,rfl,rfl,SqT.of ha,rfl,b,2,10,rfl,_,rfl,?_⟩
  rw [hB.1]
  refine iteF ?_
  refine ⟨_,rfl,a,_,1,_,rfl,rfl,SqT.of ha,rfl,_,rfl,a,_,0,_,rfl,rfl,SqT.of ha,rfl,wv,ts,b,rfl,hT,?_,?_,fun H' s'=>⟨_,rfl,?_⟩⟩
  ·have:=ok.t2
   omega
  ·intro t ht
   have h1:=ok.rows t ht
   have h2:=ok.n2
   refine ⟨by omega,fun r hr=>?_⟩
   have h3:=ok.figs t ht r hr
   have h4:=ok.b2
   omega
  ·rw [hB.2]
   refine iteF ?_
   exact k H' s'
theorem get_ints {fs:List Int}{i:Nat}{x:V} (h:(fs.map V.int)[i]? = some x):∃ f,fs[i]? = some f∧x=.int f:=by
 rw [List.getElem?_map] at h
 cases e:fs[i]? with
 | none=>rw [e] at h;cases h
 | some f=>rw [e] at h;exact ⟨f,rfl,(Option.some.inj h).symm⟩
theorem scFigs:FnScope ["scheme","figures","figure"] ["scheme","figures"] (defScope sFigs):=fS
theorem ok_figs {f:Addr}{fd:FuncData} (F:Fun K "check_figures" "check_figures" sFigs f fd) (h2:Has P w K mg base "is_whole" 1 ["value","least","most"] spWhole):FnOk P w K mg base CX0 2 f fd ["scheme","figures"] (spFigs K):=by
 refine F.ok scFigs (fun vs H Q E h=>?_) (fun cdv A outer s H vs Q E hr h=>?_)
 ·obtain ⟨v,ts,b,a,fs,rfl,_⟩:=h
  rfl
 ·obtain ⟨v,ts,b,a,fs,rfl,⟨a0,wv,rfl,ha0,hT⟩,hS,hf,k⟩:=h
  refine ⟨_,pss_one (ps_for PassesOwn.never rfl (pi_list (pv 1)) (pg_name (i:=2) scFigs.nd rfl (Or.inl rfl))
   (pss_one (ps_if (pt_not (pt_val (pe_fn h2 hr (pa_cons (pv 2) (pa_cons pe_int (pa_cons (pe_op op_sub (pe_ix ix_tup (pv 0) pe_int (fun _ _=>rfl)) pe_int) pa_nil)))))) (pss_one ps_never) pss_nil))),?_⟩
  refine ⟨_,rfl,a,rfl,⟨_,hS⟩,for_list (K:=K) (a:=a) (xs:=fs.map V.int) (fun i σ H2=>(∃ x,σ=[some (.ref a0),some (.ref a),x])∧H2=H) ⟨⟨_,rfl⟩,rfl⟩ (fun i σ H2 _ ⟨_,e⟩=>e ▸ hS) ?_ ?_⟩
  ·rintro i y σ H2 hi ⟨⟨x,rfl⟩,rfl⟩
   obtain ⟨z,ez,rfl⟩:=get_ints hi
   have hz:=hf z (List.mem_of_getElem? ez)
   refine ⟨_,rfl,_,rfl,a0,_,0,_,rfl,rfl,SqT.of ha0,rfl,_,_,rfl,rfl,z,0,b-1,rfl,_,rfl,?_⟩
   rw [wholeB_iff.mpr ⟨hz.1,by omega⟩]
   exact iteF ⟨⟨_,rfl⟩,rfl⟩
  ·rintro σ H2 ⟨_,rfl⟩
   exact k _ (Same.refl _)
theorem turn_next (a n:Nat):(((a % n:Nat):Int)+1) % (n:Int)=(((a+1) % n:Nat):Int):=by
 have e:(((a % n:Nat):Int)+1)=((a % n+1:Nat):Int):=by simp
 rw [e,← Int.natCast_emod,Nat.mod_add_mod]
theorem scMoved:FnScope ["tables","spot","figures","turn","state","figure"] ["tables","spot","figures"] (defScope sMoved):=fS
theorem ok_moved {f:Addr}{fd:FuncData} (F:Fun K "moved" "moved" sMoved f fd) (B:Blt mg):FnOk P w K mg base CX0 1 f fd ["tables","spot","figures"] (spMoved K):=by
 refine F.ok scMoved (fun vs H Q E h=>?_) (fun cdv A outer s H vs Q E hr h=>?_)
 ·obtain ⟨v,ts,b,p,a,t,st,fs,rfl,_⟩:=h
  rfl
 ·obtain ⟨v,ts,b,p,a,t,st,fs,rfl,hT,ok,hp,hS,ht,s0,s1,hf,k⟩:=h
  refine ⟨_,pss_cons (ps_set (i:=3) scMoved.nd rfl (Or.inl rfl) (pe_ix ix_tup (pv 1) pe_int (fun _ _=>rfl)))
   (pss_cons (ps_set (i:=4) scMoved.nd rfl (Or.inl rfl) (pe_ix ix_tup (pv 1) pe_int (fun _ _=>rfl)))
   (pss_cons (ps_for PassesOwn.never rfl (pi_list (pv 2)) (pg_name (i:=5) scMoved.nd rfl (Or.inl rfl))
    (pss_cons (ps_set (i:=4) scMoved.nd rfl (Or.inl rfl) (pe_ix ix_tup (pe_ix ix_tup (pe_ix ix_tup (pv 0) (pv 3) (fun _ _=>rfl)) (pv 4) (fun _ _=>rfl)) (pv 5) (fun _ _=>rfl)))
    (pss_one (ps_set (i:=3) scMoved.nd rfl (Or.inl rfl) (pe_op op_mod (pe_op op_add (pv 3) pe_int) (pe_callB call_len_seq rfl B.len PySem.boot_len (pa_cons (pv 0) pa_nil)))))))
   (pss_one (ps_ret (pe_tup (pa_cons (pv 3) (pa_cons (pv 4) pa_nil))))))),?_⟩
  refine ⟨_,rfl,p,_,0,_,rfl,rfl,hp,rfl,?_⟩
  refine ⟨_,rfl,p,_,1,_,rfl,rfl,hp,rfl,?_⟩
  refine ⟨_,rfl,a,rfl,⟨_,hS⟩,for_list (K:=K) (a:=a) (xs:=fs.map V.int)
   (fun i σ H2=>(∃ x,σ=[some v,some (.ref p),some (.ref a),some (.int (((t+i) % ts.length:Nat):Int)),some (.int (rd ts t st (fs.take i))),x])∧H2=H) ⟨⟨none,?_⟩,rfl⟩ (fun i σ H2 _ ⟨_,e⟩=>e ▸ hS) ?_ ?_⟩
  ·rw [Nat.add_zero,Nat.mod_eq_of_lt ht]
   rfl
  ·rintro i y σ H2 hi ⟨⟨x,rfl⟩,rfl⟩
   obtain ⟨z,ez,rfl⟩:=get_ints hi
   have hz:=hf z (List.mem_of_getElem? ez)
   have hlt:=ok.rd_lt (fs.take i) t st s0 s1 fun g hg=>hf g (List.mem_of_mem_take hg)
   have hm:(t+i) % ts.length < ts.length:=Nat.mod_lt _ ok.t1
   obtain ⟨a1,x1,y1,a2,x2,y2,a3,x3,rfl,q1,q2,rfl,q3,q4,rfl,q5,q6⟩:=hT.look ok hm hlt.1 hlt.2 hz.1 hz.2
   obtain ⟨a1',x1',e1',q1',el⟩:=hT.len
   cases e1'
   have hil:i < fs.length:=(List.getElem?_eq_some_iff.mp ez).1
   have enx:ent ts ((t+i) % ts.length) (rd ts t st (fs.take i)) z=rd ts t st (fs.take (i+1)):=by
    rw [take_succ_get ez,rd_snoc,List.length_take_of_le (by omega)]
   rw [enx] at q6
   refine ⟨_,rfl,_,rfl,a1,x1,_,_,rfl,rfl,SqT.of q1,q2,_,rfl,a2,x2,_,_,rfl,rfl,SqT.of q3,q4,_,rfl,a3,x3,_,_,rfl,rfl,SqT.of q5,q6,?_⟩
   refine ⟨_,rfl,_,_,rfl,rfl,_,rfl,a1,x1',rfl,.inr (SqT.of q1'),_,_,rfl,rfl,?_,?_⟩
   ·have:=ok.t1
    omega
   ·refine ⟨⟨some (.int z),?_⟩,rfl⟩
    rw [el]
    show [some (V.ref a1),some (V.ref p),some (V.ref a),some (V.int (((((t+i) % ts.length:Nat):Int)+1) % (ts.length:Int))),some (V.int (rd ts t st (fs.take (i+1)))),some (V.int z)]=_
    rw [turn_next]
    rfl
  ·rintro σ H2 ⟨⟨x,rfl⟩,rfl⟩
   rw [List.length_map,List.take_length]
   refine ⟨_,rfl,_,rfl,zl,fun q hq=>?_⟩
   exact k q _ (Same.new hq) upd_same
theorem scSpot:FnScope ["scheme","figures"] ["scheme","figures"] (defScope sSpot):=fS
theorem ok_spot {f:Addr}{fd:FuncData} (F:Fun K "spot_after" "spot_after" sSpot f fd) (St:StartAt K mg) (h1:Has P w K mg base "check_scheme" 5 ["scheme"] spCheck) (h2:Has P w K mg base "check_figures" 2 ["scheme","figures"] (spFigs K))
  (h3:Has P w K mg base "moved" 1 ["tables","spot","figures"] (spMoved K)):FnOk P w K mg base CX0 6 f fd ["scheme","figures"] (spSpot K):=by
 refine F.ok scSpot (fun vs H Q E h=>?_) (fun cdv A outer s H vs Q E hr h=>?_)
 ·obtain ⟨v,ts,b,a,fs,rfl,_⟩:=h
  rfl
 ·obtain ⟨v,ts,b,a,fs,rfl,hC,ok,hS,hf,k⟩:=h
  obtain ⟨aS,mS,hSt⟩:=St.at'
  refine ⟨_,pss_cons (ps_expr (pe_fn h1 hr (pa_cons (pv 0) pa_nil)))
   (pss_cons (ps_expr (pe_fn h2 (hm hr) (pa_cons (pv 0) (pa_cons (pv 1) pa_nil))))
   (pss_one (ps_ret (pe_fn h3 (hm hr) (pa_cons (pe_ix ix_tup (pv 0) pe_int (fun _ _=>rfl)) (pa_cons (pe_glob (v:=.ref aS) rfl mS rfl) (pa_cons (pv 1) pa_nil))))))),?_⟩
  refine ⟨_,rfl,v,ts,b,rfl,hC,ok,fun H1 s1=>?_⟩
  refine ⟨_,rfl,_,rfl,v,ts,b,a,fs,rfl,hC.same s1,s1.seq hS,hf,fun H2 s2=>?_⟩
  obtain ⟨a0,wv,rfl,ha0,hT⟩:=hC.same (s1.trans s2)
  refine ⟨_,rfl,a0,_,1,_,rfl,rfl,SqT.of ha0,rfl,_,rfl,wv,ts,b,aS,a,0,0,fs,rfl,hT,ok,hSt _,(s1.trans s2).seq hS,ok.t1,Int.le_refl _,?_,hf,fun q H3 s3 hq=>?_⟩
  ·have:=ok.n1
   omega
  ·rw [Nat.zero_add] at hq
   exact k q H3 ((s1.trans s2).trans s3) hq
theorem scState:FnScope ["scheme","figures"] ["scheme","figures"] (defScope sState):=fS
theorem ok_state {f:Addr}{fd:FuncData} (F:Fun K "state_after" "state_after" sState f fd) (h1:Has P w K mg base "spot_after" 6 ["scheme","figures"] (spSpot K)):FnOk P w K mg base CX0 7 f fd ["scheme","figures"] (spState K):=by
 refine F.ok scState (fun vs H Q E h=>?_) (fun cdv A outer s H vs Q E hr h=>?_)
 ·obtain ⟨v,ts,b,a,fs,rfl,_⟩:=h
  rfl
 ·obtain ⟨v,ts,b,a,fs,rfl,hC,ok,hS,hf,k⟩:=h
  refine ⟨_,pss_one (ps_ret (pe_ix ix_tup (pe_fn h1 hr (pa_cons (pv 0) (pa_cons (pv 1) pa_nil))) pe_int (fun _ _=>rfl))),?_⟩
  refine ⟨_,rfl,_,rfl,v,ts,b,a,fs,rfl,hC,ok,hS,hf,fun q H1 s1 hq=>⟨q,_,1,_,rfl,rfl,SqT.of hq,rfl,k H1 s1⟩⟩
theorem scGood:FnScope ["scheme","figures"] ["scheme","figures"] (defScope sGood):=fS
theorem ok_good {f:Addr}{fd:FuncData} (F:Fun K "good" "good" sGood f fd) (h1:Has P w K mg base "state_after" 7 ["scheme","figures"] (spState K)):FnOk P w K mg base CX0 8 f fd ["scheme","figures"] (spGood K):=by
 refine F.ok scGood (fun vs H Q E h=>?_) (fun cdv A outer s H vs Q E hr h=>?_)
 ·obtain ⟨v,ts,b,a,fs,rfl,_⟩:=h
  rfl
 ·obtain ⟨v,ts,b,a,fs,rfl,hC,ok,hS,hf,k⟩:=h
  refine ⟨_,pss_one (ps_ret (pe_cmpR op_eq (pe_fn h1 hr (pa_cons (pv 0) (pa_cons (pv 1) pa_nil))) pe_int (nomark _))),?_⟩
  refine ⟨_,rfl,_,rfl,v,ts,b,a,fs,rfl,hC,ok,hS,hf,fun H1 s1=>⟨rfl,?_⟩⟩
  have e:decide (V.int (rd ts 0 0 fs)=V.int 0)=decide (rd ts 0 0 fs=0):=by simp
  rw [e]
  exact k H1 s1
end
end My
namespace My
open PySem L2 PyProof.Rows
def cel (ns:List Int) (k:Int):Int:=ns.getD k.toNat 0
def spCell (K:PySem.W.Frag):Sp:=fun vs H Q _=>∃ (a:Addr) (ns:List Int) (k:Int),vs=[.ref a,.int k]∧SqL K H a (ns.map V.int)∧0≤k∧Q (.int (cel ns k)) H
def spStir:Sp:=fun vs H Q _=>∃ c k:Int,vs=[.int c,.int k]∧∀ r,Q (.int r) H
def spWeight (K:PySem.W.Frag):Sp:=fun vs H Q _=>∃ (a:Addr) (ns:List Int) (at':Int) (t:Nat) (n:Int),vs=[.ref a,.int at',.int t,.int n]∧SqL K H a (ns.map V.int)∧0≤at'∧t≤1000∧1≤n∧n≤12 ∧
 ∀ r,0≤r→r < n→Q (.int r) H
def spScheme (K:PySem.W.Frag):Sp:=fun vs H Q _=>∃ (a m:Addr) (ns:List Int) (at' m0 m1 m2:Int),vs=[.ref a,.int at',.ref m]∧SqL K H a (ns.map V.int)∧0≤at'∧H m=some (.tup [.int m0,.int m1,.int m2]) ∧
 2≤m0∧m0≤10∧1≤m1∧m1≤12∧1≤m2∧m2≤6∧∀ v b ts H',Same H H'→SchAt H' v b ts→Ok b ts→b≤m0→(nst ts:Int)≤m1→(ts.length:Int)≤m2→Q v H'
section
variable {P:Program}{w:World}{K:PySem.W.Frag}{mg:Str→Option Value}{base:Heap}
theorem scCell:FnScope ["script","k"] ["script","k"] (defScope sCell):=fS
theorem ok_cell {f:Addr}{fd:FuncData} (F:Fun K "_law_cell_at" "_law_cell_at" sCell f fd) (B:Blt mg):FnOk P w K mg base CX0 1 f fd ["script","k"] (spCell K):=by
 refine F.ok scCell (fun vs H Q E h=>?_) (fun cdv A outer s H vs Q E hr h=>?_)
 ·obtain ⟨a,ns,k,rfl,_⟩:=h
  rfl
 ·obtain ⟨a,ns,k,rfl,hS,h0,q⟩:=h
  refine ⟨_,pss_cons (ps_if (pt_cmpR op_lt (pv 1) (pe_callB call_len_seq rfl B.len PySem.boot_len (pa_cons (pv 0) pa_nil)) (nomark _)) (pss_one (ps_ret (pe_ix ix_list (pv 0) (pv 1) (fun _ _=>rfl)))) pss_nil)
   (pss_one (ps_ret pe_int)),?_⟩
  refine ⟨_,rfl,_,rfl,a,_,rfl,.inl hS,_,_,rfl,rfl,_,rfl,ite2 (fun c=>?_) (fun c=>?_)⟩
  ·have hk:k.toNat < ns.length:=by
    have:=of_decide_eq_true c
    rw [List.length_map] at this
    omega
   refine ⟨_,rfl,_,rfl,a,_,k,.int (cel ns k),rfl,rfl,hS,atI_int h0 ?_,q⟩
   rw [List.getElem?_map,getD_some (d:=0) hk]
   rfl
  ·have e:cel ns k=0:=by
    have hk:ns.length≤k.toNat:=by
     have:=of_decide_eq_false (Bool.eq_false_iff.mpr c)
     rw [List.length_map] at this
     omega
    unfold cel
    rw [List.getD_eq_getElem?_getD,List.getElem?_eq_none hk]
    rfl
   rw [e] at q
   exact q
theorem scStir:FnScope ["cell","k","mixed"] ["cell","k"] (defScope sStir):=fS
theorem ok_stir {f:Addr}{fd:FuncData} (F:Fun K "_law_stirred" "_law_stirred" sStir f fd):FnOk P w K mg base CX0 1 f fd ["cell","k"] spStir:=by
 refine F.ok scStir (fun vs H Q E h=>?_) (fun cdv A outer s H vs Q E hr h=>?_)
 ·obtain ⟨c,k,rfl,_⟩:=h
  rfl
 ·obtain ⟨c,k,rfl,q⟩:=h
  refine ⟨_,pss_cons (ps_set (i:=2) scStir.nd rfl (Or.inl rfl) (pe_op op_mod (pe_op op_mul (pe_op op_add (pe_op op_add (pv 0) (pe_op op_mul pe_int (pv 1))) pe_int) pe_int) pe_int))
   (pss_cons (ps_set (i:=2) scStir.nd rfl (Or.inl rfl) (pe_op op_mod (pe_op op_mul (pv 2) (pv 2)) pe_int))
   (pss_one (ps_ret (pe_op op_fdiv (pe_op op_mod (pe_op op_mul (pv 2) pe_int) pe_int) pe_int)))),?_⟩
  refine ⟨_,rfl,_,rfl,_,_,rfl,rfl,.inl ⟨by decide,by decide⟩,_,_,rfl,rfl,_,_,rfl,rfl,_,_,rfl,rfl,.inr ⟨by decide,by decide⟩,_,_,rfl,rfl,(by show (0:Int) < 2147483647;decide),?_⟩
  generalize e:(c+1009 * k+17) * 48271 % 2147483647=x
  have hx:0≤x∧x < 2147483647:=by omega
  refine ⟨_,rfl,_,rfl,_,_,rfl,rfl,.inl ⟨by omega,by omega⟩,_,_,rfl,rfl,(by show (0:Int) < 2147483647;decide),?_⟩
  refine ⟨_,rfl,_,_,rfl,rfl,.inr ⟨by decide,by decide⟩,_,_,rfl,rfl,(by show (0:Int) < 2147483647;decide),_,_,rfl,rfl,⟨by decide,by decide⟩,?_⟩
  exact q _
theorem scWeight:FnScope ["script","at","turn","states","cell","k"] ["script","at","turn","states"] (defScope sWeight):=fS
theorem ok_weight {f:Addr}{fd:FuncData} (F:Fun K "_law_weight" "_law_weight" sWeight f fd) (B:Blt mg) (h1:Has P w K mg base "_law_cell_at" 1 ["script","k"] (spCell K)) :
  FnOk P w K mg base CX0 2 f fd ["script","at","turn","states"] (spWeight K):=by
 refine F.ok scWeight (fun vs H Q E h=>?_) (fun cdv A outer s H vs Q E hr h=>?_)
 ·obtain ⟨a,ns,at',t,n,rfl,_⟩:=h
  rfl
 ·obtain ⟨a,ns,at',t,n,rfl,hS,h0,ht,n1,n2,q⟩:=h
  refine ⟨_,pss_cons (ps_set (i:=4) scWeight.nd rfl (Or.inl rfl) (pe_fn h1 hr (pa_cons (pv 0) (pa_cons (pe_op op_add (pv 1) pe_int) pa_nil))))
   (pss_cons (ps_for PassesOwn.never rfl (pi_range1 rfl B.range (pa_cons (pv 2) pa_nil)) (pg_name (i:=5) scWeight.nd rfl (Or.inl rfl))
    (pss_one (ps_set (i:=4) scWeight.nd rfl (Or.inl rfl) (pe_op op_fdiv (pv 4) (pv 3)))))
   (pss_one (ps_ret (pe_op op_mod (pv 4) (pv 3))))),?_⟩
  refine ⟨_,rfl,_,rfl,_,_,rfl,rfl,a,ns,at' + 2,rfl,hS,by omega,?_⟩
  refine ⟨_,rfl,(t:Int),rfl,by omega,by omega,for_range (fun i σ H2=>(∃ c x,σ=[some (.ref a),some (.int at'),some (.int t),some (.int n),some (.int c),x])∧H2=H) ⟨⟨_,_,rfl⟩,rfl⟩ ?_ ?_⟩
  ·rintro i σ H2 hi ⟨⟨c,x,rfl⟩,rfl⟩
   exact ⟨_,rfl,_,rfl,_,_,rfl,rfl,⟨by omega,by omega⟩,⟨_,_,rfl⟩,rfl⟩
  ·rintro σ H2 ⟨⟨c,x,rfl⟩,rfl⟩
   refine ⟨_,rfl,_,rfl,_,_,rfl,rfl,(by show (0:Int) < n;omega),q _ (Int.emod_nonneg _ (by omega)) (Int.emod_lt_of_pos _ (by omega))⟩
theorem hide {A:Prop} (h:∀ G:Prop,(A→G)→G):A:=h A id
theorem sealE {a u:TS}{D:Ends}{σ:L2.St}{H:Hp} (h:∀ E:Ends,(∀ σ H,D.nx σ H→E.nx σ H)→(∀ v H,D.rt v H→E.rt v H)→tSeq a u E σ H):tSeq a u D σ H:=h D (fun _ _ x=>x) fun _ _ x=>x
theorem cut1 {a1 u:TS}{D:Ends}{σ:L2.St}{H:Hp} (h:∀ T:TS,(∀ σ H,u D σ H→T D σ H)→(tSeq a1 T) D σ H):(tSeq a1 u) D σ H:=h u fun _ _ x=>x
theorem cut2 {a1 a2 u:TS}{D:Ends}{σ:L2.St}{H:Hp} (h:∀ T:TS,(∀ σ H,u D σ H→T D σ H)→(tSeq a1 (tSeq a2 T)) D σ H):(tSeq a1 (tSeq a2 u)) D σ H:=h u fun _ _ x=>x
theorem cut3 {a1 a2 a3 u:TS}{D:Ends}{σ:L2.St}{H:Hp} (h:∀ T:TS,(∀ σ H,u D σ H→T D σ H)→(tSeq a1 (tSeq a2 (tSeq a3 T))) D σ H):(tSeq a1 (tSeq a2 (tSeq a3 u))) D σ H:=h u fun _ _ x=>x
theorem cut6 {a1 a2 a3 a4 a5 a6 u:TS}{D:Ends}{σ:L2.St}{H:Hp} (h:∀ T:TS,(∀ σ H,u D σ H→T D σ H)→(tSeq a1 (tSeq a2 (tSeq a3 (tSeq a4 (tSeq a5 (tSeq a6 T)))))) D σ H):(tSeq a1 (tSeq a2 (tSeq a3 (tSeq a4 (tSeq a5 (tSeq a6 u)))))) D σ H:=h u fun _ _ x=>x
def rowIn (b n:Int) (r:List Int):Prop:=(r.length:Int)=b∧∀ e∈r,0≤e∧e < n
def tabIn (b n:Int) (t:Tab):Prop:=(t.length:Int)=n∧∀ r∈t,rowIn b n r
theorem ok_of {b n:Int}{ts:List Tab} (b1:2≤b) (b2:b≤10) (n1:1≤n) (n2:n≤12) (t1:1≤ts.length) (t2:ts.length≤6) (h:∀ t∈ts,tabIn b n t):Ok b ts∧(nst ts:Int)=n:=by
 have hn:(nst ts:Int)=n:=by
  cases ts with
  | nil=>simp at t1
  | cons t r=>exact (h t List.mem_cons_self).1
 refine ⟨⟨b1,b2,t1,t2,by omega,by omega,fun t ht=>?_,fun t ht r hr=>((h t ht).2 r hr).1,fun t ht r hr e he=>?_⟩,hn⟩
 ·have:=(h t ht).1
  omega
 ·have:=((h t ht).2 r hr).2 e he
  omega
theorem mem_snoc {α:Type}{P:α→Prop}{xs:List α}{x:α} (h:∀ y∈xs,P y) (hx:P x):∀ y∈xs++[x],P y:=fun y hy=>by
 rcases List.mem_append.mp hy with hy | hy
 ·exact h y hy
 ·rw [List.mem_singleton.mp hy]
  exact hx
theorem scScheme:FnScope ["script","at","most","head","base","states","way","digits","tables","turn","table","weight","state","row","figure","drawn","some"] ["script","at","most"] (defScope sScheme) :=
 fS
def stS (a m:Addr) (at' hd b n w d:Int) (lT:Addr) (o9 o10 o11 o12 o13 o14 o15 o16:Option V):L2.St :=
 [some (.ref a),some (.int at'),some (.ref m),some (.int hd),some (.int b),some (.int n),some (.int w),some (.int d),some (.ref lT),o9,o10,o11,o12,o13,o14,o15,o16]
theorem ok_scheme {f:Addr}{fd:FuncData} (F:Fun K "_law_scheme" "_law_scheme" sScheme f fd) (B:Blt mg) (h1:Has P w K mg base "_law_cell_at" 1 ["script","k"] (spCell K)) (h2:Has P w K mg base "_law_stirred" 1 ["cell","k"] spStir)
  (h3:Has P w K mg base "_law_weight" 2 ["script","at","turn","states"] (spWeight K)):FnOk P w K mg base CX0 3 f fd ["script","at","most"] (spScheme K):=by
 refine F.ok scScheme (fun vs H Q E h=>?_) (fun cdv A outer s H vs Q E hr h=>?_)
 ·obtain ⟨a,m,ns,at',m0,m1,m2,rfl,_⟩:=h
  rfl
 ·obtain ⟨a,m,ns,at',m0,m1,m2,rfl,hS,h0,hm,a0,a1,b0,b1,c0,c1,q⟩:=h
  have r1:Room 1 _:=hr.mono (by decide)
  have nd:=scScheme.nd
  refine ⟨_,pss_cons (ps_set (i:=3) nd rfl (Or.inl rfl) (pe_fn h1 r1 (pa_cons (pv 0) (pa_cons (pv 1) pa_nil))))
   (pss_cons (ps_set (i:=4) nd rfl (Or.inl rfl) (pe_op op_add pe_int (pe_op op_mod (pe_op op_mod (pv 3) pe_int) (pe_op op_sub (pe_ix ix_tup (pv 2) pe_int (fun _ _=>rfl)) pe_int))))
   (pss_cons (ps_set (i:=5) nd rfl (Or.inl rfl) (pe_op op_add pe_int (pe_op op_mod (pe_op op_fdiv (pv 3) pe_int) (pe_ix ix_tup (pv 2) pe_int (fun _ _=>rfl)))))
   (pss_cons (ps_set (i:=6) nd rfl (Or.inl rfl) (pe_op op_mod (pe_fn h1 r1 (pa_cons (pv 0) (pa_cons (pe_op op_add (pv 1) pe_int) pa_nil))) pe_int))
   (pss_cons (ps_set (i:=7) nd rfl (Or.inl rfl) (pe_fn h1 r1 (pa_cons (pv 0) (pa_cons (pe_op op_add (pv 1) pe_int) pa_nil))))
   (pss_cons (ps_set (i:=8) nd rfl (Or.inl rfl) (pe_lst pa_nil))
   (pss_cons (ps_for PassesOwn.never rfl (pi_range1 rfl B.range (pa_cons (pe_op op_add pe_int (pe_op op_mod (pe_op op_fdiv (pv 3) pe_int) (pe_ix ix_tup (pv 2) pe_int (fun _ _=>rfl)))) pa_nil)) (pg_name (i:=9) nd rfl (Or.inl rfl))
    (pss_cons (ps_set (i:=10) nd rfl (Or.inl rfl) (pe_lst pa_nil))
    (pss_cons (ps_set (i:=11) nd rfl (Or.inl rfl) (pe_fn h3 hr (pa_cons (pv 0) (pa_cons (pv 1) (pa_cons (pv 9) (pa_cons (pv 5) pa_nil))))))
    (pss_cons (ps_for PassesOwn.never rfl (pi_range1 rfl B.range (pa_cons (pv 5) pa_nil)) (pg_name (i:=12) nd rfl (Or.inl rfl))
     (pss_cons (ps_set (i:=13) nd rfl (Or.inl rfl) (pe_lst pa_nil))
     (pss_cons (ps_for PassesOwn.never rfl (pi_range1 rfl B.range (pa_cons (pv 4) pa_nil)) (pg_name (i:=14) nd rfl (Or.inl rfl))
      (pss_cons (ps_set (i:=15) nd rfl (Or.inl rfl) (pe_fn h2 r1 (pa_cons (pe_fn h1 r1 (pa_cons (pv 0) (pa_cons (pe_op op_add (pv 1) pe_int) pa_nil)))
       (pa_cons (pe_op op_add (pe_op op_add (pe_op op_mul pe_int (pv 9)) (pe_op op_mul pe_int (pv 12))) (pv 14)) pa_nil))))
      (pss_cons (ps_set (i:=16) nd rfl (Or.inl rfl) (pe_lst (pa_cons (pe_op op_add (pv 12) (pe_op op_mul (pv 11) (pv 14))) (pa_cons (pe_op op_sub (pe_op op_mul (pv 11) (pv 14)) (pv 12)) (pa_cons (pv 15) (pa_cons (pv 7) pa_nil))))))
      (pss_cons (ps_expr (pe_bm PySem.F.plainAttrs_list PySem.F.slot_list_append PySem.F.type_list_append mt_append (pv 13) (pa_cons (pe_op op_mod (pe_ix ix_list (pv 16) (pv 6) (fun _ _=>rfl)) (pv 5)) pa_nil)))
      (pss_one (ps_set (i:=7) nd rfl (Or.inl rfl) (pe_op op_fdiv (pv 7) (pv 5))))))))
     (pss_one (ps_expr (pe_bm PySem.F.plainAttrs_list PySem.F.slot_list_append PySem.F.type_list_append mt_append (pv 10) (pa_cons (pe_callTy call_tuple_of rfl B.tTuple boot_tuple (pa_cons (pv 13) pa_nil)) pa_nil)))))))
    (pss_one (ps_expr (pe_bm PySem.F.plainAttrs_list PySem.F.slot_list_append PySem.F.type_list_append mt_append (pv 8) (pa_cons (pe_callTy call_tuple_of rfl B.tTuple boot_tuple (pa_cons (pv 10) pa_nil)) pa_nil))))))))
   (pss_one (ps_ret (pe_tup (pa_cons (pv 4) (pa_cons (pe_callTy call_tuple_of rfl B.tTuple boot_tuple (pa_cons (pv 8) pa_nil)) pa_nil))))))))))),?_⟩
  -- head,base,states,way,digits,tables
  refine sealE fun D0 hN0 hR0=>?_
  refine cut6 fun T1 hT1=>?_
  refine ⟨_,rfl,_,rfl,a,ns,at',rfl,hS,h0,?_⟩
  generalize cel ns at'=hd
  refine ⟨_,rfl,_,_,rfl,rfl,(by show (0:Int) < 9;decide),_,rfl,m,_,0,_,rfl,rfl,SqT.of hm,rfl,_,_,rfl,rfl,_,_,rfl,rfl,(by show (0:Int) < m0-1;omega),_,_,rfl,rfl,?_⟩
  have eb:∃ b,b=2+hd % 9 % (m0-1)∧2≤b∧b≤m0:=⟨_,rfl,by
   have:=Int.emod_nonneg (hd % 9) (show m0-1≠0 by omega)
   omega,by
   have:=Int.emod_lt_of_pos (hd % 9) (show 0 < m0-1 by omega)
   omega⟩
  obtain ⟨b,e,hb1,hb2⟩:=eb
  show gName 4 (V.int (2+hd % 9 % (m0-1))) _ _ _
  rw [← e]
  clear e
  refine ⟨_,rfl,_,_,rfl,rfl,⟨by decide,by decide⟩,_,rfl,m,_,1,_,rfl,rfl,SqT.of hm,rfl,_,_,rfl,rfl,(by show (0:Int) < m1;omega),_,_,rfl,rfl,?_⟩
  have en:∃ n,n=1+hd / 9 % m1∧1≤n∧n≤m1:=⟨_,rfl,by
   have:=Int.emod_nonneg (hd / 9) (show m1≠0 by omega)
   omega,by
   have:=Int.emod_lt_of_pos (hd / 9) (show 0 < m1 by omega)
   omega⟩
  obtain ⟨n,e,hn1,hn2⟩:=en
  show gName 5 (V.int (1+hd / 9 % m1)) _ _ _
  rw [← e]
  clear e
  refine ⟨_,rfl,_,rfl,_,_,rfl,rfl,a,ns,at' + 1,rfl,hS,by omega,_,_,rfl,rfl,(by show (0:Int) < 4;decide),?_⟩
  have ew:∃ wy,wy=cel ns (at' + 1) % 4∧0≤wy∧wy < 4:=⟨_,rfl,by omega,by omega⟩
  obtain ⟨wy,e,hw1,hw2⟩:=ew
  show gName 6 (V.int (cel ns (at' + 1) % 4)) _ _ _
  rw [← e]
  clear e
  refine ⟨_,rfl,_,rfl,_,_,rfl,rfl,a,ns,at' + 3,rfl,hS,by omega,?_⟩
  generalize cel ns (at' + 3)=dg
  refine ⟨zl,fun lT hlT=>hT1 _ _ ?_⟩
  -- for turn in range(..)
  refine ⟨_,rfl,_,_,rfl,rfl,⟨by decide,by decide⟩,_,rfl,m,_,2,_,rfl,rfl,SqT.of ((Same.new hlT) _ _ hm),rfl,_,_,rfl,rfl,(by show (0:Int) < m2;omega),_,_,rfl,rfl,?_⟩
  have et:∃ tn:Nat,(tn:Int)=1+hd / 108 % m2∧1≤tn∧(tn:Int)≤m2:=⟨(1+hd / 108 % m2).toNat,by
   have:=Int.emod_nonneg (hd / 108) (show m2≠0 by omega)
   omega,by
   have:=Int.emod_nonneg (hd / 108) (show m2≠0 by omega)
   omega,by
   have:=Int.emod_lt_of_pos (hd / 108) (show 0 < m2 by omega)
   have:=Int.emod_nonneg (hd / 108) (show m2≠0 by omega)
   omega⟩
  obtain ⟨tn,e,ht1,ht2⟩:=et
  show ∃ j:Int,[V.int (1+hd / 108 % m2)]=[V.int j]∧_
  rw [← e]
  clear e
  have sb:(100:Nat) < sizeLine:=by decide
  obtain ⟨I1,hI1⟩:∃ I1:Nat→L2.St→Hp→Prop,∀ i σ H2,I1 i σ H2↔∃ (d:Int) (o9 o10 o11 o12 o13 o14 o15 o16:Option V) (vts:List V) (ts:List Tab),σ=stS a m at' hd b n wy d lT o9 o10 o11 o12 o13 o14 o15 o16∧Same H H2∧H2 lT=some (.lst vts) ∧
    Paired (TabAt H2) vts ts∧ts.length=i∧∀ t∈ts,tabIn b n t:=⟨_,fun _ _ _=>Iff.rfl⟩
  refine ⟨(tn:Int),rfl,by omega,by omega,for_range I1 ((hI1 _ _ _).2 ⟨dg,_,_,_,_,_,_,_,_,[],[],rfl,Same.new hlT,upd_same,.nil,rfl,fun t ht=>by cases ht⟩) ?_ ?_⟩
  ·intro i σ H2 hi hx
   refine hide fun Gz hGz=>?_
   obtain ⟨d,o9,o10,o11,o12,o13,o14,o15,o16,vts,ts,rfl,s2,hl2,hp2,len2,in2⟩:=(hI1 _ _ _).1 hx
   refine hGz ?_
   rw [show (tn:Int).toNat=tn by omega] at hi
   refine sealE fun D2 hN2 hR2=>?_
   refine cut2 fun T2 hT2=>?_
   refine ⟨zl,fun lR hlR=>?_⟩
   have s3:Same H2 (upd H2 lR (.lst [])):=Same.new hlR
   refine ⟨_,rfl,_,rfl,_,rfl,_,rfl,a,ns,at',i,n,?_,(s2.trans s3).seq hS,h0,by omega,hn1,by omega,fun wt w0 w1=>hT2 _ _ ?_⟩
   ·rw [Int.zero_add]
    rfl
   have nlR:H lR=none:=s2.free hlR
   have hlTR:lT≠lR:=ne_of_none hl2 hlR
   obtain ⟨I2,hI2⟩:∃ I2:Nat→L2.St→Hp→Prop,∀ j σ H4,I2 j σ H4↔∃ (d:Int) (o12 o13 o14 o15 o16:Option V) (vrs:List V) (t:Tab),σ=stS a m at' hd b n wy d lT (some (.int (0+(i:Int)))) (some (.ref lR)) (some (.int wt)) o12 o13 o14 o15 o16 ∧
     Same H2 H4∧H4 lR=some (.lst vrs)∧Paired (RowAt H4) vrs t∧t.length=j∧∀ r∈t,rowIn b n r:=⟨_,fun _ _ _=>Iff.rfl⟩
   refine ⟨_,rfl,n,rfl,by omega,by omega,for_range I2 ((hI2 _ _ _).2 ⟨d,_,_,_,_,_,[],[],rfl,s3,upd_same,.nil,rfl,fun t ht=>by cases ht⟩) ?_ ?_⟩
   ·intro j σ H4 hj hx
    refine hide fun Gz hGz=>?_
    obtain ⟨d4,p12,p13,p14,p15,p16,vrs,t,rfl,s4,hl4,hp4,len4,in4⟩:=(hI2 _ _ _).1 hx
    refine hGz ?_
    refine sealE fun D3 hN3 hR3=>?_
    refine cut1 fun T3 hT3=>?_
    refine ⟨zl,fun lE hlE=>hT3 _ _ ?_⟩
    have s5:Same H4 (upd H4 lE (.lst [])):=Same.new hlE
    have nlE:H2 lE=none:=s4.free hlE
    have hlRE:lR≠lE:=ne_of_none hl4 hlE
    obtain ⟨I3,hI3⟩:∃ I3:Nat→L2.St→Hp→Prop,∀ k σ H6,I3 k σ H6↔∃ (d:Int) (o14 o15 o16:Option V) (es:List Int),σ=stS a m at' hd b n wy d lT (some (.int (0+(i:Int)))) (some (.ref lR)) (some (.int wt)) (some (.int (0+(j:Int)))) (some (.ref lE)) o14 o15 o16 ∧
      Same H4 H6∧H6 lE=some (.lst (es.map V.int))∧es.length=k∧∀ e∈es,0≤e∧e < n:=⟨_,fun _ _ _=>Iff.rfl⟩
    refine ⟨_,rfl,b,rfl,by omega,by omega,for_range I3 ((hI3 _ _ _).2 ⟨d4,_,_,_,[],rfl,s5,upd_same,rfl,fun t ht=>by cases ht⟩) ?_ ?_⟩
    ·intro k σ H6 hk hx
     refine hide fun Gz hGz=>?_
     obtain ⟨d6,q14,q15,q16,es,rfl,s6,hl6,len6,in6⟩:=(hI3 _ _ _).1 hx
     refine hGz ?_
     have sA:Same H H6:=(s2.trans s4).trans s6
     refine sealE fun D4 hN4 hR4=>?_
     refine cut1 fun T4 hT4=>?_
     refine ⟨_,rfl,_,rfl,_,_,rfl,rfl,a,ns,at' + 3,rfl,sA.seq hS,by omega,_,rfl,_,_,rfl,rfl,.inl ⟨by decide,by decide⟩,_,rfl,_,_,rfl,rfl,.inl ⟨by decide,by decide⟩,_,_,rfl,rfl,_,rfl,_,_,rfl,rfl,_,_,rfl,fun dr=>hT4 _ _ (cut1 fun T5 hT5=>?_)⟩
     refine ⟨_,rfl,_,rfl,_,rfl,_,_,rfl,rfl,.inl ⟨by omega,by omega⟩,_,_,rfl,rfl,_,rfl,_,rfl,_,_,rfl,rfl,.inl ⟨by omega,by omega⟩,_,rfl,_,_,rfl,rfl,_,rfl,_,rfl,zl,fun lS hlS=>hT5 _ _ ?_⟩
     have s7:=Same.new (o:=HO.lst [V.int (0+(j:Int)+wt * (0+(k:Int))),V.int (wt * (0+(k:Int))-(0+(j:Int))),V.int dr,V.int d6]) hlS
     have hsome:∃ z,atI [V.int (0+(j:Int)+wt * (0+(k:Int))),V.int (wt * (0+(k:Int))-(0+(j:Int))),V.int dr,V.int d6] wy=some (V.int z):=by
      have:wy=0∨wy=1∨wy=2∨wy=3:=by omega
      rcases this with rfl | rfl | rfl | rfl
      ·exact ⟨_,rfl⟩
      ·exact ⟨_,rfl⟩
      ·exact ⟨_,rfl⟩
      ·exact ⟨_,rfl⟩
     obtain ⟨z,hz⟩:=hsome
     refine ⟨_,rfl,.inl ⟨rfl,_,SqL.of (s7 _ _ hl6)⟩,_,rfl,_,rfl,lS,_,wy,_,rfl,rfl,SqL.of upd_same,hz,_,rfl,_,_,rfl,rfl,(by show (0:Int) < n;omega),lE,_,_,rfl,rfl,s7 _ _ hl6,?_,?_⟩
     ·rw [List.length_map]
      omega
     ·refine ⟨_,rfl,_,rfl,_,_,rfl,rfl,⟨by omega,by omega⟩,?_⟩
      refine hN4 _ _ ((hI3 _ _ _).2 ?_)
      refine ⟨_,_,_,_,es++[z % n],rfl,(s6.trans s7).put (hlE),?_,by simp [len6],mem_snoc in6 ⟨Int.emod_nonneg _ (by omega),Int.emod_lt_of_pos _ (by omega)⟩⟩
      rw [upd_same,List.map_append]
      rfl
    ·intro σ H6 hx
     refine hide fun Gz hGz=>?_
     obtain ⟨d6,q14,q15,q16,es,rfl,s6,hl6,len6,in6⟩:=(hI3 _ _ _).1 hx
     refine hGz ?_
     have hl6':H6 lR=some (.lst vrs):=s6 _ _ hl4
     refine ⟨_,rfl,.inl ⟨rfl,_,SqL.of hl6'⟩,_,rfl,lE,_,rfl,.inl ⟨SqL.of hl6,fun lU hlU=>?_⟩⟩
     have s8:=Same.new (o:=HO.tup (es.map V.int)) hlU
     refine ⟨lR,vrs,_,rfl,rfl,s8 _ _ hl6',?_,?_⟩
     ·have:=paired_length hp4
      omega
     ·have sB:Same H4 (upd H6 lU (.tup (es.map V.int))):=s6.trans s8
      have nR:H2 lR=none:=hlR
      refine hN3 _ _ ((hI2 _ _ _).2 ?_)
      refine ⟨d6,_,_,_,_,_,vrs++[.ref lU],t++[es],rfl,(s4.trans sB).put nR,upd_same,paired_snoc (paired_imp (fun x r hx=>?_) hp4) ?_,by simp [len4],mem_snoc in4 ⟨?_,in6⟩⟩
      ·obtain ⟨y,e,hy⟩:=hx
       refine ⟨y,e,?_⟩
       have hy':=sB _ _ hy
       rw [upd_ne]
       ·exact hy'
       ·exact ne_of hy' (s8 _ _ hl6') (by intro z;cases z)
      ·refine ⟨lU,rfl,?_⟩
       rw [upd_ne (ne_of_none hl6' hlU).symm]
       exact upd_same
      ·omega
   ·intro σ H4 hx
    refine hide fun Gz hGz=>?_
    obtain ⟨d4,p12,p13,p14,p15,p16,vrs,t,rfl,s4,hl4,hp4,len4,in4⟩:=(hI2 _ _ _).1 hx
    refine hGz ?_
    have hl4':H4 lT=some (.lst vts):=s4 _ _ hl2
    refine ⟨_,rfl,.inl ⟨rfl,_,SqL.of hl4'⟩,_,rfl,lR,_,rfl,.inl ⟨SqL.of hl4,fun lU hlU=>?_⟩⟩
    have s8:=Same.new (o:=HO.tup vrs) hlU
    refine ⟨lT,vts,_,rfl,rfl,s8 _ _ hl4',?_,?_⟩
    ·have:=paired_length hp2
     omega
    ·have sB:Same H4 (upd H4 lU (.tup vrs)):=s8
     have keepT:∀ {x:Addr}{u:List V},(upd H4 lU (.tup vrs)) x=some (.tup u)→upd (upd H4 lU (.tup vrs)) lT (.lst (vts++[.ref lU])) x=some (.tup u):=fun {x u} hx=>by
      rw [upd_ne]
      ·exact hx
      ·exact ne_of hx (s8 _ _ hl4') (by intro z;cases z)
     refine hN2 _ _ ((hI1 _ _ _).2 ?_)
     refine ⟨d4,_,_,_,_,_,_,_,_,vts++[.ref lU],ts++[t],rfl,(s2.trans (s4.trans sB)).put hlT,upd_same,paired_snoc (paired_imp (fun x r hx=>?_) hp2) ?_,by simp [len2],mem_snoc in2 ⟨?_,in4⟩⟩
     ·obtain ⟨y,us,e,hy,hp⟩:=hx
      refine ⟨y,us,e,keepT (sB _ _ (s4 _ _ hy)),paired_imp (fun x' r' hx'=>?_) hp⟩
      obtain ⟨y',e',hy'⟩:=hx'
      exact ⟨y',e',keepT (sB _ _ (s4 _ _ hy'))⟩
     ·refine ⟨lU,vrs,rfl,keepT upd_same,paired_imp (fun x' r' hx'=>?_) hp4⟩
      obtain ⟨y',e',hy'⟩:=hx'
      exact ⟨y',e',keepT (sB _ _ hy')⟩
     ·omega
  ·intro σ H2 hx
   refine hide fun Gz hGz=>?_
   obtain ⟨d,o9,o10,o11,o12,o13,o14,o15,o16,vts,ts,rfl,s2,hl2,hp2,len2,in2⟩:=(hI1 _ _ _).1 hx
   refine hGz ?_
   refine ⟨_,rfl,_,rfl,lT,_,rfl,.inl ⟨SqL.of hl2,fun lU hlU=>⟨zl,fun lV hlV=>?_⟩⟩⟩
   have s8:=Same.new (o:=HO.tup vts) hlU
   have s9:=Same.new (o:=HO.tup [V.int b,V.ref lU]) hlV
   have hl:ts.length=tn:=by omega
   obtain ⟨ok,hn⟩:=ok_of hb1 (by omega) hn1 (by omega) (by omega) (by omega) in2
   refine hR0 _ _ (q _ b ts _ ((s2.trans s8).trans s9) ⟨lV,_,rfl,upd_same,lU,vts,rfl,s9 _ _ upd_same,paired_imp (fun x r hx=>hx.same (s8.trans s9)) hp2⟩ ok hb2 (by omega) (by omega))
end
end My
namespace My
open PySem L2 PyProof.Rows
abbrev sChecksAt:Stmt:=top 30
abbrev sChecks:Stmt:=top 33
def zer (r:List Int) (k:Nat):Bool:=decide (r.getD k 0=0)
def chkL (r:List Int):List Int:=((List.range r.length).filter (zer r)).map fun k:Nat=>(k:Int)
def rowOf (ts:List Tab) (t:Nat) (s:Int):List Int:=(ts.getD t []).getD s.toNat []
theorem Ok.row {b:Int}{ts:List Tab} (o:Ok b ts) {t:Nat}{s:Int} (ht:t < ts.length) (s0:0≤s) (s1:s < (nst ts:Int)):∃ tab,ts[t]? = some tab∧tab[s.toNat]? = some (rowOf ts t s)∧((rowOf ts t s).length:Int)=b:=by
 have h1:ts[t]∈ts:=List.getElem_mem ht
 have l1:=o.rows _ h1
 have hs:s.toNat < ts[t].length:=by omega
 have h2:ts[t][s.toNat]∈ts[t]:=List.getElem_mem hs
 have e:rowOf ts t s=ts[t][s.toNat]:=by
  unfold rowOf
  simp [List.getD_eq_getElem?_getD,ht,hs]
 rw [e]
 exact ⟨ts[t],by simp [ht],by simp [hs],o.figs _ h1 _ h2⟩
def spChecksAt (K:PySem.W.Frag):Sp:=fun vs H Q _=>∃ (v:V) (ts:List Tab) (b:Int) (p:Addr) (t:Nat) (s:Int),vs=[v,.ref p]∧TabsAt H v ts∧Ok b ts∧SqT K H p [.int t,.int s]∧t < ts.length∧0≤s∧s < (nst ts:Int) ∧
 ∀ D H',Same H H'→H D=none→H' D=some (.lst ((chkL (rowOf ts t s)).map V.int))→Q (.ref D) H'
def spChecks (K:PySem.W.Frag):Sp:=fun vs H Q _=>∃ (v:V) (ts:List Tab) (b:Int) (a:Addr) (fs:List Int),vs=[v,.ref a]∧SchAt H v b ts∧Ok b ts∧SqL K H a (fs.map V.int)∧figsIn b fs ∧
 ∀ D H',Same H H'→H D=none→H' D=some (.lst ((chkL (rowOf ts (fs.length % ts.length) (rd ts 0 0 fs))).map V.int))→Q (.ref D) H'
section
variable {P:Program}{w:World}{K:PySem.W.Frag}{mg:Str→Option Value}{base:Heap}
theorem scChecksAt:FnScope ["tables","spot","row"] ["tables","spot"] (defScope sChecksAt):=fS
theorem ok_checksAt {f:Addr}{fd:FuncData} (F:Fun K "checks_at" "checks_at" sChecksAt f fd) (B:Blt mg):FnOk P w K mg base CX0 1 f fd ["tables","spot"] (spChecksAt K):=by
 refine F.ok scChecksAt (fun vs H Q E h=>?_) (fun cdv A outer s H vs Q E hr h=>?_)
 ·obtain ⟨v,ts,b,p,t,st,rfl,_⟩:=h
  rfl
 ·obtain ⟨v,ts,b,p,t,st,rfl,hT,ok,hp,ht,s0,s1,k⟩:=h
  have nd:=scChecksAt.nd
  refine ⟨_,pss_cons (ps_set (i:=2) nd rfl (Or.inl rfl) (pe_ix ix_tup (pe_ix ix_tup (pv 0) (pe_ix ix_tup (pv 1) pe_int (fun _ _=>rfl)) (fun _ _=>rfl)) (pe_ix ix_tup (pv 1) pe_int (fun _ _=>rfl)) (fun _ _=>rfl)))
   (pss_one (ps_ret (pe_comp (g:=gTup K 2 (gCons (gName 0) (gCons (gName 1) gNil))) (N:=["figure","state"]) (js:=[none,none]) rfl rfl (pi_enumT rfl B.enum (pa_cons (pv 2) pa_nil))
    (fun _ _ _ _=>pg_tup rfl (pgs_cons (pg_name (i:=0) (ndOf (N:=["figure","state"]) (by decide +kernel)) rfl (Or.inl rfl)) (pgs_cons (pg_name (i:=1) (ndOf (N:=["figure","state"]) (by decide +kernel)) rfl (Or.inl rfl)) pgs_nil)))
    (fun _ _ _ _=>pts_one (pt_cmpR op_eq (pv 1) pe_int (nomark _))) (fun _ _ _ _=>pv 0)))),?_⟩
  obtain ⟨tab,e1,e2,el⟩:=ok.row ht s0 s1
  obtain ⟨a1,x1,rfl,h1,p1⟩:=hT
  obtain ⟨y1,q1,⟨a2,x2,rfl,h2,p2⟩⟩:=paired_get p1 _ _ e1
  obtain ⟨y2,q2,⟨a3,rfl,h3⟩⟩:=paired_get p2 _ _ e2
  generalize rowOf ts t st=r at *
  have hb:=ok.b2
  refine ⟨_,rfl,_,rfl,p,_,0,_,rfl,rfl,hp,rfl,a1,x1,_,_,rfl,rfl,SqT.of h1,atI_nat q1,_,rfl,p,_,1,_,rfl,rfl,hp,rfl,a2,x2,_,_,rfl,rfl,SqT.of h2,atI_int s0 q2,?_⟩
  refine ⟨_,rfl,a3,rfl,⟨_,SqT.of h3⟩,?_⟩
  have wk:=Walk.enumT (K:=K) (SqT.of h3)
  rw [List.length_map] at wk
  refine block_gen wk (fun D k ys H2=>ys=((List.range k).filter (zer r)).map fun k:Nat=>V.int (k:Int)) (fun D hD=>rfl) (fun D k x ys H1 H3 Keep Drop hD hk s1' s2' hys e ix keep drop=>?_) (fun D ys H2 hD s2 hys e=>k D H2 s2 hD ?_)
  ·obtain ⟨q,rfl,hq⟩:=ix
   have ex:(r.map V.int).getD k .non=V.int (r.getD k 0):=by simp [List.getD_eq_getElem?_getD,List.getElem?_map,List.getElem?_eq_getElem hk]
   rw [ex] at hq
   have hl:ys.length < sizeLine:=by
    have h1:(((List.range k).filter (zer r)).map fun k:Nat=>V.int (k:Int)).length≤k:=by
     rw [List.length_map]
     exact Nat.le_trans (List.length_filter_le _ _) (by simp)
    rw [e]
    exact Nat.lt_of_le_of_lt h1 (small1000 (by omega))
   have er:List.range (k+1)=List.range k++[k]:=List.range_succ
   refine ⟨q,_,rfl,SqT.of hq,rfl,_,_,rfl,_,_,rfl,rfl,?_⟩
   refine ⟨?_,?_⟩
   ·refine ⟨rfl,fun i v e=>?_⟩
    match i,e with
    | 0,e=>cases e
    | 1,e=>cases e
   ·refine ⟨_,rfl,rfl,_,rfl,ite2 (fun c=>?_) (fun c=>?_)⟩
    ·refine ⟨_,rfl,keep _ _ (Same.refl _) hl ?_⟩
     have hz:zer r k=true:=by
      unfold zer
      simpa using c
     rw [er,List.filter_append,List.map_append,e]
     simp [hz]
    ·refine drop _ (Same.refl _) ?_
     have hz:zer r k=false:=by
      unfold zer
      simpa using c
     rw [er,List.filter_append,List.map_append,e]
     simp [hz]
  ·rw [hys,e]
   unfold chkL
   rw [List.map_map]
   rfl
theorem scChecks:FnScope ["scheme","figures","spot"] ["scheme","figures"] (defScope sChecks):=fS
theorem ok_checks {f:Addr}{fd:FuncData} (F:Fun K "checks" "checks" sChecks f fd) (h1:Has P w K mg base "spot_after" 6 ["scheme","figures"] (spSpot K)) (h2:Has P w K mg base "checks_at" 1 ["tables","spot"] (spChecksAt K)) :
  FnOk P w K mg base CX0 7 f fd ["scheme","figures"] (spChecks K):=by
 refine F.ok scChecks (fun vs H Q E h=>?_) (fun cdv A outer s H vs Q E hr h=>?_)
 ·obtain ⟨v,ts,b,a,fs,rfl,_⟩:=h
  rfl
 ·obtain ⟨v,ts,b,a,fs,rfl,hC,ok,hS,hf,k⟩:=h
  refine ⟨_,pss_cons (ps_set (i:=2) scChecks.nd rfl (Or.inl rfl) (pe_fn h1 hr (pa_cons (pv 0) (pa_cons (pv 1) pa_nil))))
   (pss_one (ps_ret (pe_fn h2 (hm hr) (pa_cons (pe_ix ix_tup (pv 0) pe_int (fun _ _=>rfl)) (pa_cons (pv 2) pa_nil))))),?_⟩
  refine ⟨_,rfl,_,rfl,v,ts,b,a,fs,rfl,hC,ok,hS,hf,fun q H1 s1 hq=>?_⟩
  obtain ⟨a0,wv,rfl,ha0,hT⟩:=hC.same s1
  have hlt:=ok.rd_lt fs 0 0 (Int.le_refl _) (by have:=ok.n1;omega) hf
  refine ⟨_,rfl,a0,_,1,_,rfl,rfl,SqT.of ha0,rfl,_,rfl,wv,ts,b,q,fs.length % ts.length,rd ts 0 0 fs,rfl,hT,ok,SqT.of hq,Nat.mod_lt _ ok.t1,hlt.1,hlt.2,fun D H2 s2 hD hDl=>?_⟩
  exact k D H2 (s1.trans s2) (s1.free hD) hDl
end
end My
namespace My
inductive Kd where
 | one | swap | twin | jump | out
 deriving DecidableEq
def wid:Kd→Nat
 | .one=>1 | .swap=>2 | .twin=>2 | .jump=>3 | .out=>1
def figsOf (b:Int):List Int:=(List.range b.toNat).map fun k:Nat=>(k:Int)
def fstI (w:List Int):Int:=w.headD 0
def lstI (w:List Int):Int:=w.getLastD 0
def midI (w:List Int):List Int:=(w.drop 1).take (w.length-2)
def othersI (b f:Int):List Int:=(figsOf b).filter fun g=>decide (g≠f)
def wr (b:Int) (k:Kd) (w:List Int):List (List Int):=match k with
 | .out=>[[]]
 | .one=>(othersI b (fstI w)).map fun g=>[g]
 | .twin=>if fstI w=lstI w then (othersI b (fstI w)).map fun g=>[g,g] else []
 | .swap | .jump=>if fstI w=lstI w then [] else [[lstI w]++midI w++[fstI w]]
def spliced (fs:List Int) (p n:Nat) (m:List Int):List Int:=fs.take p++m++fs.drop (p+n)
def slp (b:Int) (k:Kd) (fs:List Int):List (List Int) :=
 (List.range (fs.length+1-wid k)).flatMap fun p=>(wr b k ((fs.drop p).take (wid k))).map (spliced fs p (wid k))
def mk (b:Int) (k:Kd) (w:List Int):List (List Int) :=
 ((figsOf b).flatMap fun g=>(if k=.one∧g≠fstI w then [[g]] else [])++(if k=.twin∧fstI w=w.getD 1 0∧g≠fstI w then [[g,g]] else [])) ++
 (if k=.out then [[]] else [])++(if (k=.swap∨k=.jump)∧fstI w≠lstI w then [w.reverse] else [])
end My
namespace L2
open PySem PySem.Spec PyProof.Rows
theorem ifN {c:Bool}{A B:Prop} (h:c=false) (b:B):if c=true then A else B:=by
 subst h
 exact iteF b
theorem ifY {c:Bool}{A B:Prop} (h:c=true) (a:A):if c=true then A else B:=by
 subst h
 exact iteT a
theorem smallM {n:Nat} (h:n≤1000000):n < sizeLine:=Nat.lt_of_le_of_lt h (by rw [sizeLine_eq];decide)
theorem block_rel {J:It}{H1:Hp}{n:Nat}{item:Nat→V}{js:List (Option Nat)}{i:Nat}{tc:TT}{te:TE}{σ:St}{R:VK} (Wk:Walk J H1 n (fun k x _=>x=item k)) (hn:n≤1000) (hi:(cst js σ)[i]? = some none)
  (p:Nat→Bool) (Y:Addr→Nat→V→Hp→Prop)
  (mono:∀ D k v ys H H',(∀ b o,b≠D→H b=some o→H' b=some o)→H D=some (.lst ys)→Y D k v H→Y D k v H')
  (test:∀ k H2 (Q:Bool→Hp→Prop),k < n→Same H1 H2→(∀ H3,Same H2 H3→Q (p k) H3)→tc ((cst js σ).set i (some (item k))) H2 Q)
  (step:∀ D k ys H2 (Q:VK),k < n→p k=true→H1 D=none→H2 D=some (.lst ys)→Same H1 H2→(∀ y H3,Same H2 H3→Y D k y H3→Q y H3)→te ((cst js σ).set i (some (item k))) H2 Q)
  (fin:∀ D ys H2,H1 D=none→Same H1 H2→H2 D=some (.lst ys)→Paired (fun y k=>Y D k y H2) ys ((List.range n).filter p)→R (.ref D) H2):tBlock js (gName i) tc te σ R J H1:=by
 refine block_gen Wk (fun D k ys H2=>H2 D=some (.lst ys)∧Paired (fun y k=>Y D k y H2) ys ((List.range k).filter p)) (fun D hD=>⟨upd_same,.nil⟩) (fun D k x ys H1' H2 Keep Drop hD hk s1 s2 hys e ex keep drop=>?_) (fun D ys H2 hD s hys e=>fin D ys H2 hD s hys e.2)
 subst ex
 obtain ⟨e0,e⟩:=e
 have s:=s1.trans s2
 have hl0:ys.length≤k:=by
  rw [My.paired_length e]
  exact Nat.le_trans (List.length_filter_le _ _) (by simp)
 have hl:ys.length < sizeLine:=Nat.lt_of_le_of_lt hl0 (small1000 (by omega))
 have e1:List.range (k+1)=List.range k++[k]:=List.range_succ
 refine ⟨Ext.set hi,test k H2 _ hk s fun H3 s3=>?_⟩
 have up:∀ {H4},Same H2 H4→Paired (fun y k=>Y D k y H4) ys ((List.range k).filter p):=fun {H4} s4=>My.paired_imp (fun y j hy=>mono D j y ys H1' H4 (fun b o _ hb=>s4 _ _ (s2 _ _ hb)) e0 hy) e
 cases hp:p k with
 | true =>
  rw [if_pos rfl]
  refine step D k ys H3 _ hk hp hD (s3 _ _ hys) (s.trans s3) fun y H4 s4 hy=>keep _ _ (s3.trans s4) hl ⟨upd_same,?_⟩
  rw [e1,List.filter_append]
  have hD4:H4 D=some (.lst ys):=s4 _ _ (s3 _ _ hys)
  have fr:∀ b o,b≠D→H4 b=some o→(upd H4 D (.lst (ys++[y]))) b=some o:=fun b o hb h=>by
   rw [upd_ne hb]
   exact h
  have:[k].filter p=[k]:=by simp [hp]
  rw [this]
  exact My.paired_snoc (My.paired_imp (fun y j hy=>mono D j y ys H4 _ fr hD4 hy) (up (s3.trans s4))) (mono D k y ys H4 _ fr hD4 hy)
 | false =>
  rw [if_neg (by decide)]
  refine drop _ s3 ⟨s3 _ _ hys,?_⟩
  have:[k].filter p=[]:=by simp [hp]
  rw [e1,List.filter_append,this,List.append_nil]
  exact up s3
end L2
namespace My
open PySem L2 PyProof.Rows
def kst:Kd→Str
 | .one=>"one" | .swap=>"swap" | .twin=>"twin" | .jump=>"jump" | .out=>"out"
def WD:List (Str×Int):=[("one",1),("swap",2),("twin",2),("jump",3),("out",1)]
def WDD:List (Str×PyData):=[("one",.int 1),("swap",.int 2),("twin",.int 2),("jump",.int 3),("out",.int 1)]
structure WidthsAt (P:Program) (w:World) (K:PySem.W.Frag) (mg:Str→Option Value):Prop where
 at':∃ a,mg "WIDTHS"=some (.ref a)∧TabK P w K a WD
theorem wd_look (k:Kd):PySem.Spec.lookup (.str (kst k)) (tabD WD)=some (.int (wid k:Nat)):=by
 cases k<;>with_unfolding_all rfl
def LL (H:Hp) (as:List Addr) (yss:List (List Int)):Prop:=Paired (fun a ys=>H a=some (.lst (ys.map V.int))) as yss
theorem LL.same {H H':Hp}{as:List Addr}{yss:List (List Int)} (s:Same H H') (h:LL H as yss):LL H' as yss:=paired_imp (fun _ _ e=>s _ _ e) h
theorem LL.put {H:Hp}{l:Addr}{o:HO}:∀ {as:List Addr}{yss:List (List Int)},LL H as yss→l∉as→LL (upd H l o) as yss
 | _,_,.nil,_=>.nil
 | _,_,.cons h t,n=>.cons (by
   rw [upd_ne]
   ·exact h
   ·intro e
    subst e
    exact n List.mem_cons_self) (LL.put t fun z=>n (List.mem_cons_of_mem _ z))
theorem LL.length {H:Hp}{as:List Addr}{yss:List (List Int)} (h:LL H as yss):as.length=yss.length:=paired_length h
theorem LL.some {H:Hp}:∀ {as:List Addr}{yss:List (List Int)},LL H as yss→∀ a∈as,∃ ys:List Int,H a=.some (.lst (ys.map V.int))
 | _,_,.nil,_,z=>by cases z
 | _,_,.cons h t,a,z=>by
  rcases List.mem_cons.mp z with rfl | z
  ·exact ⟨_,h⟩
  ·exact LL.some t a z
structure Told (H0 H:Hp) (D:Addr) (as:List Addr) (yss:List (List Int)):Prop where
 at':H D=some (.lst (as.map V.ref))
 newD:H0 D=none
 nd:as.Nodup
 new:∀ a∈as,H0 a=none∧a≠D
 ll:LL H as yss
theorem ref_getD {as:List Addr}{k:Nat} (h:k < as.length):(as.map V.ref).getD k .non=V.ref (as.getD k 0):=by
 simp [List.getD_eq_getElem?_getD,List.getElem?_map,List.getElem?_eq_getElem h]
theorem int_getD {ns:List Int}{k:Nat} (h:k < ns.length):(ns.map V.int).getD k .non=V.int (ns.getD k 0):=by
 simp [List.getD_eq_getElem?_getD,List.getElem?_map,List.getElem?_eq_getElem h]
theorem paired_map_left {α β γ:Type}{F:α→β→Prop}{f:β→γ}{G:α→γ→Prop} (h:∀ a b,F a b→G a (f b)):∀ {l₁:List α}{l₂:List β},Paired F l₁ l₂→Paired G l₁ (l₂.map f)
 | _,_,.nil=>.nil
 | _,_,.cons a t=>.cons (h _ _ a) (paired_map_left h t)
theorem paired_lists {H:Hp}{D:Addr}{N:Addr→Prop}{f:Nat→List Int}:∀ {ys:List V}{ks:List Nat},Paired (fun y k=>∃ a,y=V.ref a∧a≠D∧N a∧H a=some (.lst ((f k).map V.int))) ys ks→∃ as:List Addr,ys=as.map V.ref∧LL H as (ks.map f)∧∀ a∈as,N a
 | _,_,.nil=>⟨[],rfl,.nil,fun _ z=>by cases z⟩
 | _,_,.cons ⟨a,e,_,n,h⟩ t=>by
  obtain ⟨as,e2,h2,h3⟩:=paired_lists t
  refine ⟨a :: as,by rw [e,e2];rfl,.cons h h2,fun x hx=>?_⟩
  rcases List.mem_cons.mp hx with rfl | hx
  ·exact n
  ·exact h3 x hx
theorem lists_mono {f:Nat→List Int}{N:Addr→Prop} (D:Addr) (k:Nat) (v:V) (ys:List V) (H H':Hp) (fr:∀ b o,b≠D→H b=some o→H' b=some o) (_:H D=some (.lst ys)) (h:∃ a,v=V.ref a∧a≠D∧N a∧H a=some (.lst ((f k).map V.int))) :
  ∃ a,v=V.ref a∧a≠D∧N a∧H' a=some (.lst ((f k).map V.int)):=by
 obtain ⟨a,e,n,m,h⟩:=h
 exact ⟨a,e,n,m,fr a _ n h⟩
theorem cut_upto (xs:List V) (k:Nat):cutV xs none (some (k:Int))=xs.take k:=by
 unfold cutV
 rw [HT.sIx_none,HT.sIx_nat,List.drop_zero,Nat.sub_zero,← List.take_take,List.take_length]
theorem cut_from (xs:List V) (k:Nat):cutV xs (some (k:Int)) none=xs.drop k:=by
 unfold cutV
 rw [HT.sIx_none,HT.sIx_nat]
 by_cases h:k≤xs.length
 ·rw [Nat.min_eq_left h,List.take_of_length_le (by simp)]
 ·rw [Nat.min_eq_right (by omega),List.drop_eq_nil_of_le (by omega),List.drop_eq_nil_of_le (by omega),List.take_nil]
theorem cut_run (xs:List V) {p q:Nat} (h:q≤xs.length):cutV xs (some (p:Int)) (some (q:Int))=(xs.drop p).take (q-p):=by
 unfold cutV
 rw [HT.sIx_nat,HT.sIx_nat,Nat.min_eq_left h]
 by_cases hp:p≤xs.length
 ·rw [Nat.min_eq_left hp]
 ·rw [Nat.min_eq_right (by omega),List.drop_eq_nil_of_le (by omega),List.drop_eq_nil_of_le (by omega),List.take_nil,List.take_nil]
theorem cut_mid {w:List Int} (h1:2≤w.length) (h2:w.length≤3):cutV (w.map V.int) (some 1) (some (-1))=(midI w).map V.int:=by
 unfold cutV midI HT.sIx
 rw [List.length_map,← List.map_drop,← List.map_take]
 have e1:(if (1:Int) < 0 then ((1:Int)+(w.length:Int)).toNat else min (1:Int).toNat w.length)=1:=by
  rw [if_neg (by decide)]
  simp
  omega
 have e2:(if (-1:Int) < 0 then ((-1:Int)+(w.length:Int)).toNat else min (-1:Int).toNat w.length)=w.length-1:=by
  rw [if_pos (by decide)]
  omega
 simp only [e1,e2]
 rw [show w.length-1-1=w.length-2 by omega]
def spKind:Sp:=fun vs H Q _=>∃ k:Kd,vs=[.str (kst k)]∧Q .non H
def spWritings (K:PySem.W.Frag):Sp:=fun vs H Q _=>∃ (k:Kd) (a:Addr) (w:List Int) (b:Int),vs=[.str (kst k),.ref a,.int b]∧SqL K H a (w.map V.int)∧w.length=wid k∧2≤b∧b≤10 ∧
 ∀ D as H',Same H H'→H D=none→H' D=some (.lst (as.map V.ref))→LL H' as (wr b k w)→(∀ a∈as,H a=none)→Q (.ref D) H'
def spSlips (K:PySem.W.Frag):Sp:=fun vs H Q _=>∃ (v:V) (ts:List Tab) (b:Int) (k:Kd) (a:Addr) (fs:List Int),vs=[v,.str (kst k),.ref a]∧SchAt H v b ts∧Ok b ts∧SqL K H a (fs.map V.int)∧figsIn b fs∧fs.length≤10000 ∧
 ∀ D as H',Same H H'→Told H H' D as (slp b k fs)→Q (.ref D) H'
section
variable {P:Program}{w:World}{K:PySem.W.Frag}{mg:Str→Option Value}{base:Heap}
abbrev s_check_kind:Stmt:=top 37
theorem sc_check_kind:FnScope ["kind"] ["kind"] (defScope s_check_kind):=fS
theorem ok_check_kind {f:Addr}{fd:FuncData} (F:Fun K "check_kind" "check_kind" s_check_kind f fd) (B:Blt mg) (Wd:WidthsAt P w K mg)  :
  FnOk P w K mg base CX0 1 f fd ["kind"] spKind:=by
 refine F.ok sc_check_kind (fun vs H Q E h=>?_) (fun cdv A outer s H vs Q E hr h=>?_)
 ·obtain ⟨_,rfl,_⟩:=h
  rfl
 ·obtain ⟨k,rfl,q⟩:=h
  obtain ⟨aW,mW,T⟩:=Wd.at'
  refine ⟨_,(pss_one (ps_if (pt_cmpR op_notin_tab (pv 0) (pe_glob (v:=.ref aW) rfl mW rfl) rfl) (pss_one ps_never) pss_nil)),?_⟩
  refine ⟨_,rfl,_,aW,WD,rfl,rfl,T,_,rfl,?_⟩
  rw [wd_look]
  exact iteF q
abbrev s_writings:Stmt:=top 38
theorem sc_writings:FnScope ["kind","window","base","first","last","others"] ["kind","window","base"] (defScope s_writings):=fS
theorem ok_writings {f:Addr}{fd:FuncData} (F:Fun K "writings" "writings" s_writings f fd) (B:Blt mg)   :
  FnOk P w K mg base CX0 1 f fd ["kind","window","base"] (spWritings K):=by
 refine F.ok sc_writings (fun vs H Q E h=>?_) (fun cdv A outer s H vs Q E hr h=>?_)
 ·obtain ⟨_,_,_,_,rfl,_⟩:=h
  rfl
 ·obtain ⟨k,a,w,b,rfl,hS,hw,b1,b2,q⟩:=h
  have nd:=sc_writings.nd
  refine ⟨_,(pss_cons (ps_if (pt_cmpR op_eq (pv 0) pe_str (nomark _)) (pss_one (ps_ret (pe_lst (pa_cons (pe_lst pa_nil) pa_nil)))) pss_nil)
   (pss_cons (ps_set (i:=3) nd rfl (Or.inr rfl) (pe_ix ix_list (pv 1) pe_int (fun _ _=>rfl)))
   (pss_cons (ps_set (i:=4) nd rfl (Or.inr rfl) (pe_ix ix_list (pv 1) (pe_un un_neg pe_int) (fun _ _=>rfl)))
   (pss_cons (ps_setC (i:=5) (N:=["figure","first"]) (js:=[none,some 3]) nd rfl rfl rfl rfl (pi_range1 rfl B.range (pa_cons (pv 2) pa_nil)) (fun _ _ _ _=>(pg_name (i:=0) (ndOf (N:=["figure","first"]) (by decide +kernel)) rfl (Or.inl rfl))) (fun _ _ _ _=>(pts_one (pt_cmpR op_ne (pv 0) (pv 1) (nomark _)))) (fun _ _ _ _=>(pv 0)))
   (pss_cons (ps_if (pt_cmpR op_eq (pv 0) pe_str (nomark _)) (pss_one (ps_ret (pe_comp (N:=["figure"]) (js:=[none]) rfl rfl (pi_list (pv 5)) (fun _ _ _ _=>(pg_name (i:=0) (ndOf (N:=["figure"]) (by decide +kernel)) rfl (Or.inl rfl))) (fun _ _ _ _=>pts_nil) (fun _ _ _ _=>(pe_lst (pa_cons (pv 0) pa_nil)))))) pss_nil)
   (pss_cons (ps_if (pt_cmpR op_eq (pv 0) pe_str (nomark _)) (pss_one (ps_ret (pe_comp (N:=["figure","first","last"]) (js:=[none,some 3,some 4]) rfl rfl (pi_list (pv 5)) (fun _ _ _ _=>(pg_name (i:=0) (ndOf (N:=["figure","first","last"]) (by decide +kernel)) rfl (Or.inl rfl))) (fun _ _ _ _=>(pts_one (pt_cmpR op_eq (pv 1) (pv 2) (nomark _)))) (fun _ _ _ _=>(pe_lst (pa_cons (pv 0) (pa_cons (pv 0) pa_nil))))))) pss_nil)
   (pss_cons (ps_if (pt_cmpR op_eq (pv 3) (pv 4) (nomark _)) (pss_one (ps_ret (pe_lst pa_nil))) pss_nil)
   (pss_one (ps_ret (pe_lst (pa_cons (pe_op op_cat (pe_op op_cat (pe_lst (pa_cons (pv 4) pa_nil)) (pe_slice sl_list (pv 1) (po_some pe_int) (po_some (pe_un un_neg pe_int)))) (pe_lst (pa_cons (pv 3) pa_nil))) pa_nil))))))))))),?_⟩
  refine sealE fun E0 hN0 hR0=>?_
  refine cut1 fun T1 hT1=>?_
  by_cases hk:k=.out
  ·subst hk
   refine ⟨_,rfl,rfl,_,rfl,ifY (by decide +kernel) ?_⟩
   refine ⟨zl,fun l hl=>⟨zl,fun D hD=>?_⟩⟩
   have s1:=Same.new (o:=HO.lst []) hl
   have s2:=Same.new (o:=HO.lst [V.ref l]) hD
   exact hR0 _ _ (q D [l] _ (s1.trans s2) (s1.free hD) upd_same (.cons (s2 _ _ upd_same) .nil) (fun x hx=>by rw [List.mem_singleton.mp hx];exact hl))
  ·have hne:decide (V.str (kst k)=V.str "out")=false:=by
    cases k<;>first | exact absurd rfl hk | decide +kernel
   refine ⟨_,rfl,rfl,_,rfl,ifN hne (hT1 _ _ ?_)⟩
   clear hT1
   refine cut3 fun T2 hT2=>?_
   have hlen:1≤w.length:=by
    rw [hw]
    cases k<;>decide
   have e0:atI (w.map V.int) 0=some (V.int (fstI w)):=by
    cases w with
    | nil=>simp at hlen
    | cons x r=>exact atI_nat (j:=0) rfl
   have e1:atI (w.map V.int) (-1)=some (V.int (lstI w)):=by
    have hne:w≠[]:=by
     intro z
     subst z
     simp at hlen
    obtain ⟨r,x,rfl⟩:∃ r x,w=r++[x]:=⟨w.dropLast,w.getLast hne,(List.dropLast_concat_getLast hne).symm⟩
    rw [List.map_append]
    show atI (r.map V.int++[V.int x]) (-1)=_
    rw [atI_last]
    simp [lstI]
   refine ⟨_,rfl,a,_,0,_,rfl,rfl,hS,e0,?_⟩
   refine ⟨_,rfl,1,rfl,a,_,-1,_,rfl,rfl,hS,e1,?_⟩
   refine ⟨_,rfl,b,rfl,by omega,by omega,?_⟩
   refine block_fm (Walk.rng 0 b.toNat) (by omega) rfl (fun k=>!decide ((k:Int)=fstI w)) (fun k=>.int (k:Int)) (fun k H2 Q' hk s2 q'=>?_) (fun k H2 Q' hk _ s2 q'=>?_) (fun O H2 hO s2 hOl=>?_)
   ·refine ⟨_,rfl,_,rfl,rfl,_,rfl,?_⟩
    rw [show (!decide (V.int (0+(k:Int))=V.int (fstI w)))=!decide ((k:Int)=fstI w) by simp]
    exact q' _ (Same.refl _)
   ·refine ⟨_,rfl,?_⟩
    rw [Int.zero_add]
    exact q' _ (Same.refl _)
   have eO:((List.range b.toNat).filter fun k:Nat=>!decide ((k:Int)=fstI w)).map (fun k:Nat=>V.int (k:Int))=(othersI b (fstI w)).map V.int:=by
    unfold othersI figsOf
    rw [List.filter_map,List.map_map]
    refine congrArg _ ?_
    apply List.filter_congr
    intro x _
    simp
   rw [eO] at hOl
   refine hT2 _ _ ?_
   clear hT2
   refine cut1 fun T3 hT3=>?_
   have lO:(othersI b (fstI w)).length≤1000:=by
    refine Nat.le_trans (List.length_filter_le _ _) ?_
    unfold figsOf
    rw [List.length_map,List.length_range]
    omega
   have wk:=Walk.lst (K:=K) (SqL.of hOl)
   rw [List.length_map] at wk
   generalize hos:othersI b (fstI w)=os at hOl wk lO
   by_cases h1:k=.one
   ·subst h1
    refine ⟨_,rfl,rfl,_,rfl,ifY (by decide +kernel) ?_⟩
    refine ⟨_,rfl,O,rfl,⟨_,SqL.of hOl⟩,?_⟩
    refine block_rel wk lO rfl (fun _=>true) (fun D k y H'=>∃ a,y=V.ref a∧a≠D∧H a=none∧H' a=some (.lst (([os.getD k 0]:List Int).map V.int))) (lists_mono (f:=fun k=>[os.getD k 0]) (N:=fun a=>H a=none))
     (fun k H3 Q' _ _ q'=>q' _ (Same.refl _)) (fun D k ys H3 Q' hk _ hD hD3 s3 q'=>?_) (fun D ys H3 hD s3 hDl pr=>?_)
    ·rw [int_getD hk]
     refine ⟨_,rfl,zl,fun l hl=>q' _ _ (Same.new hl) ⟨l,rfl,?_,(s2.trans s3).free hl,upd_same⟩⟩
     exact (ne_of_none hD3 hl).symm
    ·obtain ⟨as,rfl,hLL,hN⟩:=paired_lists (f:=fun k=>[os.getD k 0]) (N:=fun a=>H a=none) pr
     refine hR0 _ _ (q D as H3 (s2.trans s3) (s2.free hD) hDl ?_ hN)
     rw [List.filter_eq_self.mpr (fun _ _=>rfl),range_map_getD os 0 (fun g=>[g])] at hLL
     rw [show wr b .one w=os.map fun g=>[g] by rw [← hos];rfl]
     exact hLL
   ·have hne1:decide (V.str (kst k)=V.str "one")=false:=by
     cases k<;>first | exact absurd rfl h1 | decide +kernel
    refine ⟨_,rfl,rfl,_,rfl,ifN hne1 (hT3 _ _ ?_)⟩
    clear hT3
    refine cut1 fun T4 hT4=>?_
    by_cases h2:k=.twin
    ·subst h2
     refine ⟨_,rfl,rfl,_,rfl,ifY (by decide +kernel) ?_⟩
     refine ⟨_,rfl,O,rfl,⟨_,SqL.of hOl⟩,?_⟩
     refine block_rel wk lO rfl (fun _=>decide (fstI w=lstI w)) (fun D k y H'=>∃ a,y=V.ref a∧a≠D∧H a=none∧H' a=some (.lst (([os.getD k 0,os.getD k 0]:List Int).map V.int))) (lists_mono (f:=fun k=>[os.getD k 0,os.getD k 0]) (N:=fun a=>H a=none))
      (fun k H3 Q' _ _ q'=>?_) (fun D k ys H3 Q' hk _ hD hD3 s3 q'=>?_) (fun D ys H3 hD s3 hDl pr=>?_)
     ·refine ⟨_,rfl,_,rfl,rfl,_,rfl,?_⟩
      rw [show decide (V.int (fstI w)=V.int (lstI w))=decide (fstI w=lstI w) by simp]
      exact q' _ (Same.refl _)
     ·rw [int_getD hk]
      refine ⟨_,rfl,_,rfl,zl,fun l hl=>q' _ _ (Same.new hl) ⟨l,rfl,?_,(s2.trans s3).free hl,upd_same⟩⟩
      exact (ne_of_none hD3 hl).symm
     ·obtain ⟨as,rfl,hLL,hN⟩:=paired_lists (f:=fun k=>[os.getD k 0,os.getD k 0]) (N:=fun a=>H a=none) pr
      refine hR0 _ _ (q D as H3 (s2.trans s3) (s2.free hD) hDl ?_ hN)
      by_cases hc:fstI w=lstI w
      ·rw [show wr b .twin w=os.map fun g=>[g,g] by rw [← hos];exact if_pos hc]
       rw [List.filter_eq_self.mpr (fun _ _=>decide_eq_true hc),range_map_getD os 0 (fun g=>[g,g])] at hLL
       exact hLL
      ·rw [show wr b .twin w=[] from if_neg hc]
       rw [List.filter_eq_nil_iff.mpr (fun _ _=>by simp [hc])] at hLL
       exact hLL
    ·have hne2:decide (V.str (kst k)=V.str "twin")=false:=by
      cases k<;>first | exact absurd rfl h2 | decide +kernel
     refine ⟨_,rfl,rfl,_,rfl,ifN hne2 (hT4 _ _ ?_)⟩
     clear hT4
     refine cut1 fun T5 hT5=>?_
     have ewr:wr b k w=if fstI w=lstI w then [] else [[lstI w]++midI w++[fstI w]]:=by
      cases k<;>first | exact absurd rfl hk | exact absurd rfl h1 | exact absurd rfl h2 | rfl
     refine ⟨_,rfl,_,rfl,rfl,_,rfl,ite2 (fun c=>?_) (fun c=>?_)⟩
     ·have hc:fstI w=lstI w:=by simpa using c
      refine ⟨zl,fun D hD=>hR0 _ _ (q D [] _ (s2.trans (Same.new hD)) (s2.free hD) upd_same ?_ (fun _ z=>by cases z))⟩
      rw [ewr,if_pos hc]
      exact .nil
     ·have hc:¬fstI w=lstI w:=by simpa using c
      have hw2:2≤w.length∧w.length≤3:=by
       rw [hw]
       cases k<;>first | exact absurd rfl hk | exact absurd rfl h1 | decide
      refine hT5 _ _ ?_
      refine ⟨_,rfl,zl,fun l1 hl1=>⟨_,rfl,1,rfl,1,rfl,-1,rfl,a,w.map V.int,rfl,?_,fun l2 hl2=>⟨l1,l2,[V.int (lstI w)],_,rfl,rfl,?_,upd_same,?_,fun l3 hl3=>?_⟩⟩⟩
      ·exact (Same.new hl1).seq (s2.seq hS)
      ·rw [upd_ne (ne_of_none upd_same hl2)]
       exact upd_same
      ·have:=cutV_length (w.map V.int) (some 1) (some (-1))
       rw [List.length_map] at this
       exact Nat.le_of_lt (small1000 (by simp only [List.length_singleton];omega))
      ·rw [cut_mid hw2.1 hw2.2] at hl3 ⊢
       generalize hH3:upd _ l3 _=H3
       have s13:Same H2 H3:=by
        rw [← hH3]
        exact ((Same.new hl1).trans (Same.new hl2)).trans (Same.new hl3)
       have h3:H3 l3=some (.lst ([V.int (lstI w)]++(midI w).map V.int)):=by
        rw [← hH3]
        exact upd_same
       refine ⟨_,rfl,zl,fun l4 hl4=>⟨l3,l4,_,_,rfl,rfl,(Same.new hl4) _ _ h3,upd_same,?_,fun l5 hl5=>⟨zl,fun D hD=>?_⟩⟩⟩
       ·have:(midI w).length≤w.length:=by
         unfold midI
         rw [List.length_take,List.length_drop]
         omega
        exact Nat.le_of_lt (small1000 (by simp only [List.length_append,List.length_map,List.length_singleton];omega))
       ·have s45:=(Same.new (o:=HO.lst [V.int (fstI w)]) hl4).trans (Same.new (o:=HO.lst ([V.int (lstI w)]++(midI w).map V.int++[V.int (fstI w)])) hl5)
        have s6:=Same.new (o:=HO.lst [V.ref l5]) hD
        refine hR0 _ _ (q D [l5] _ (((s2.trans s13).trans s45).trans s6) (((s2.trans s13).trans s45).free hD) upd_same ?_ (fun x hx=>by rw [List.mem_singleton.mp hx];exact ((s2.trans s13).trans (Same.new (o:=HO.lst [V.int (fstI w)]) hl4)).free hl5))
        rw [ewr,if_neg hc]
        refine .cons ?_ .nil
        rw [s6 _ _ upd_same]
        simp
end
end My
namespace My
open PySem L2 PyProof.Rows
def slpTo (b:Int) (k:Kd) (fs:List Int) (p:Nat):List (List Int):=(List.range p).flatMap fun p=>(wr b k ((fs.drop p).take (wid k))).map (spliced fs p (wid k))
theorem slpTo_succ (b:Int) (k:Kd) (fs:List Int) (p:Nat):slpTo b k fs (p+1)=slpTo b k fs p++(wr b k ((fs.drop p).take (wid k))).map (spliced fs p (wid k)):=by
 unfold slpTo
 rw [List.range_succ,List.flatMap_append,List.flatMap_singleton]
theorem wr_len (b:Int) (k:Kd) (w:List Int) (h2:b≤10):(wr b k w).length≤10:=by
 have h:(othersI b (fstI w)).length≤10:=by
  refine Nat.le_trans (List.length_filter_le _ _) ?_
  unfold figsOf
  rw [List.length_map,List.length_range]
  omega
 cases k with
 | out=>simp [wr]
 | one=>show ((othersI b (fstI w)).map _).length≤10;rw [List.length_map];exact h
 | twin =>
  show (if fstI w=lstI w then (othersI b (fstI w)).map fun g=>[g,g] else []).length≤10
  split
  ·rw [List.length_map];exact h
  ·simp
 | swap =>
  show (if fstI w=lstI w then [] else [[lstI w]++midI w++[fstI w]]).length≤10
  split<;>simp
 | jump =>
  show (if fstI w=lstI w then [] else [[lstI w]++midI w++[fstI w]]).length≤10
  split<;>simp
theorem wr_item (b:Int) (k:Kd) (w:List Int) (hw:w.length≤3):∀ m∈wr b k w,m.length≤5:=by
 intro m hm
 have hmid:(midI w).length≤3:=by
  unfold midI
  rw [List.length_take,List.length_drop]
  omega
 cases k with
 | out=>simp [wr] at hm;subst hm;decide
 | one=>obtain ⟨g,_,rfl⟩:=List.mem_map.mp hm;simp
 | twin =>
  have hm':m∈(if fstI w=lstI w then (othersI b (fstI w)).map fun g=>[g,g] else []):=hm
  split at hm'
  ·obtain ⟨g,_,rfl⟩:=List.mem_map.mp hm';simp
  ·cases hm'
 | swap =>
  have hm':m∈(if fstI w=lstI w then [] else [[lstI w]++midI w++[fstI w]]):=hm
  split at hm'
  ·cases hm'
  ·rw [List.mem_singleton.mp hm']
   simp
   omega
 | jump =>
  have hm':m∈(if fstI w=lstI w then [] else [[lstI w]++midI w++[fstI w]]):=hm
  split at hm'
  ·cases hm'
  ·rw [List.mem_singleton.mp hm']
   simp
   omega
theorem slpTo_len (b:Int) (k:Kd) (fs:List Int) (h2:b≤10):∀ p,(slpTo b k fs p).length≤10 * p
 | 0=>by simp [slpTo]
 | p+1=>by
  rw [slpTo_succ,List.length_append,List.length_map]
  have:=slpTo_len b k fs h2 p
  have:=wr_len b k ((fs.drop p).take (wid k)) h2
  omega
theorem wid_pos (k:Kd):1≤wid k∧wid k≤3:=by cases k<;>decide
structure Tl (H0 H:Hp) (D:Addr) (yss:List (List Int)):Prop where
 tld:∃ as,Told H0 H D as yss
 same:Same H0 H
theorem ll_snoc {H:Hp}{as:List Addr}{yss:List (List Int)}{a:Addr}{ys:List Int} (h:LL H as yss) (e:H a=some (.lst (ys.map V.int))):LL H (as++[a]) (yss++[ys]):=paired_snoc h e
theorem Tl.add {H0 H H':Hp}{D a:Addr}{as:List Addr}{yss:List (List Int)}{ys:List Int} (h:Told H0 H D as yss) (s0:Same H0 H) (s:Same H H') (ha:H a=none) (e:H' a=some (.lst (ys.map V.int))) :
  Tl H0 (upd H' D (.lst (as.map V.ref++[V.ref a]))) D (yss++[ys]):=by
 have hDa:a≠D:=(ne_of_none h.at' ha).symm
 have hn:a∉as:=fun z=>by
  obtain ⟨ys',e'⟩:=h.ll.some a z
  rw [ha] at e'
  cases e'
 refine ⟨⟨as++[a],?_,h.newD,?_,?_,?_⟩,(s0.trans s).put h.newD⟩
 ·rw [upd_same,List.map_append]
  rfl
 ·rw [List.nodup_append]
  refine ⟨h.nd,by simp,fun x hx y hy=>?_⟩
  rw [List.mem_singleton.mp hy]
  exact fun z=>hn (z ▸ hx)
 ·intro x hx
  rcases List.mem_append.mp hx with hx | hx
  ·exact h.new x hx
  ·rw [List.mem_singleton.mp hx]
   exact ⟨s0.free ha,hDa⟩
 ·refine LL.put (ll_snoc (h.ll.same s) e) fun z=>?_
  rcases List.mem_append.mp z with z | z
  ·exact (h.new D z).2 rfl
  ·exact hDa (List.mem_singleton.mp z).symm
section
variable {P:Program}{w:World}{K:PySem.W.Frag}{mg:Str→Option Value}{base:Heap}
abbrev s_slips:Stmt:=top 39
theorem sc_slips:FnScope ["scheme","kind","figures","width","told","place","behind","written"] ["scheme","kind","figures"] (defScope s_slips):=fS
theorem ok_slips {f:Addr}{fd:FuncData} (F:Fun K "slips" "slips" s_slips f fd) (B:Blt mg) (Wd:WidthsAt P w K mg) (h_check_scheme:Has P w K mg base "check_scheme" 5 ["scheme"] spCheck) (h_check_kind:Has P w K mg base "check_kind" 1 ["kind"] spKind) (h_check_figures:Has P w K mg base "check_figures" 2 ["scheme","figures"] (spFigs K)) (h_writings:Has P w K mg base "writings" 1 ["kind","window","base"] (spWritings K)) :
  FnOk P w K mg base CX0 7 f fd ["scheme","kind","figures"] (spSlips K):=by
 refine F.ok sc_slips (fun vs H Q E h=>?_) (fun cdv A outer s H vs Q E hr h=>?_)
 ·obtain ⟨_,_,_,_,_,_,rfl,_⟩:=h
  rfl
 ·obtain ⟨v,ts,b,k,a,fs,rfl,hC,ok,hS,hf,hl,q⟩:=h
  obtain ⟨aW,mW,T⟩:=Wd.at'
  have nd:=sc_slips.nd
  have b1:=ok.b1
  have b2:=ok.b2
  have hwk:=wid_pos k
  refine ⟨_,(pss_cons (ps_expr (pe_fn h_check_scheme (hm hr) (pa_cons (pv 0) pa_nil)))
   (pss_cons (ps_expr (pe_fn h_check_kind (hm hr) (pa_cons (pv 1) pa_nil)))
   (pss_cons (ps_expr (pe_fn h_check_figures (hm hr) (pa_cons (pv 0) (pa_cons (pv 2) pa_nil))))
   (pss_cons (ps_set (i:=3) nd rfl (Or.inl rfl) (pe_tabIx (pe_glob (v:=.ref aW) rfl mW rfl) (pv 1) (fun _ _=>rfl)))
   (pss_cons (ps_set (i:=4) nd rfl (Or.inl rfl) (pe_lst pa_nil))
   (pss_cons (ps_for PassesOwn.never rfl (pi_range1 rfl B.range (pa_cons (pe_op op_add (pe_op op_sub (pe_callB call_len_seq rfl B.len PySem.boot_len (pa_cons (pv 2) pa_nil)) (pv 3)) pe_int) pa_nil)) (pg_name (i:=5) nd rfl (Or.inl rfl)) (pss_cons (ps_set (i:=6) nd rfl (Or.inl rfl) (pe_op op_add (pv 5) (pv 3)))
   (pss_one (ps_for PassesOwn.never rfl (pi_list (pe_fn h_writings (hm hr) (pa_cons (pv 1) (pa_cons (pe_slice sl_list (pv 2) (po_some (pv 5)) (po_some (pv 6))) (pa_cons (pe_ix ix_tup (pv 0) pe_int (fun _ _=>rfl)) pa_nil))))) (pg_name (i:=7) nd rfl (Or.inl rfl)) (pss_one (ps_expr (pe_bm PySem.F.plainAttrs_list PySem.F.slot_list_append PySem.F.type_list_append mt_append (pv 4) (pa_cons (pe_op op_cat (pe_op op_cat (pe_slice sl_list (pv 2) po_none (po_some (pv 5))) (pv 7)) (pe_slice sl_list (pv 2) (po_some (pv 6)) po_none)) pa_nil))))))))
   (pss_one (ps_ret (pv 4))))))))),?_⟩
  refine ⟨_,rfl,v,ts,b,rfl,hC,ok,fun H1 s1=>⟨_,rfl,k,rfl,?_⟩⟩
  refine ⟨_,rfl,_,rfl,v,ts,b,a,fs,rfl,hC.same s1,s1.seq hS,hf,fun H2 s2=>?_⟩
  have s02:=s1.trans s2
  refine ⟨_,rfl,aW,_,WD,_,rfl,rfl,T,wd_look k,?_⟩
  refine ⟨zl,fun D hD=>?_⟩
  have s3:=Same.new (o:=HO.lst []) hD
  refine ⟨_,rfl,a,_,rfl,.inl (s3.seq (s02.seq hS)),_,rfl,_,_,rfl,rfl,_,_,rfl,rfl,?_⟩
  rw [List.length_map]
  refine ⟨_,rfl,by omega,by omega,?_⟩
  rw [show ((fs.length:Int)-(wid k:Nat)+1).toNat=fs.length+1-wid k by omega]
  have hD0:=s02.free hD
  refine for_range (fun p σ H4=>(∃ o5 o6 o7,σ=[some v,some (.str (kst k)),some (.ref a),some (.int (wid k:Nat)),some (.ref D),o5,o6,o7])∧Tl H H4 D (slpTo b k fs p)) ⟨⟨_,_,_,rfl⟩,⟨⟨[],upd_same,hD0,List.nodup_nil,(fun _ z=>by cases z),.nil⟩,s02.put hD0⟩⟩ ?_ ?_
  ·rintro p σ H4 hp ⟨⟨o5,o6,o7,rfl⟩,⟨⟨as,tl⟩,s4⟩⟩
   refine ⟨_,rfl,_,rfl,_,_,rfl,rfl,?_⟩
   refine ⟨_,rfl,_,rfl,_,rfl,_,rfl,_,rfl,_,rfl,a,_,rfl,s4.seq hS,fun wl hwl=>?_⟩
   have s5:=Same.new (o:=HO.lst (cutV (fs.map V.int) (some (0+(p:Int))) (some (0+(p:Int)+(wid k:Nat))))) hwl
   obtain ⟨a0,wv,rfl,ha0,hT⟩:=hC.same (s4.trans s5)
   have ecut:cutV (fs.map V.int) (some (0+(p:Int))) (some (0+(p:Int)+(wid k:Nat)))=((fs.drop p).take (wid k)).map V.int:=by
    rw [show (0+(p:Int))=((p:Nat):Int) by omega,show ((p:Nat):Int)+(wid k:Nat)=((p+wid k:Nat):Int) by omega,cut_run _ (by rw [List.length_map];omega),List.map_take,List.map_drop]
    congr 1
    omega
   have hwlen:((fs.drop p).take (wid k)).length=wid k:=by
    rw [List.length_take,List.length_drop]
    omega
   generalize hH5:upd H4 wl _=H5 at s5 ha0 hT ⊢
   have hwl5:H5 wl=some (.lst (((fs.drop p).take (wid k)).map V.int)):=by
    rw [← hH5,upd_same,ecut]
   refine ⟨_,rfl,a0,_,0,_,rfl,rfl,SqT.of ha0,rfl,k,wl,(fs.drop p).take (wid k),b,rfl,SqL.of hwl5,hwlen,b1,b2,fun W ws H6 s6 hW hWl hWL hN=>?_⟩
   have hwr:=wr_len b k ((fs.drop p).take (wid k)) b2
   have hwi:=wr_item b k ((fs.drop p).take (wid k)) (by omega)
   generalize hwrs:wr b k ((fs.drop p).take (wid k))=ms at hWL hwr hwi
   have hlen:=slpTo_len b k fs b2 p
   have hml:=hWL.length
   have hDW:W≠D:=(ne_of_none (s5 _ _ tl.at') hW).symm
   have hDws:D∉ws:=fun z=>by
    have:=hN D z
    rw [s5 _ _ tl.at'] at this
    cases this
   refine ⟨W,rfl,⟨_,SqL.of hWl⟩,for_list (K:=K) (a:=W) (xs:=ws.map V.ref) (fun j σ H7=>(∃ o7,σ=[some (.ref a0),some (.str (kst k)),some (.ref a),some (.int (wid k:Nat)),some (.ref D),some (.int (0+(p:Int))),some (.int (0+(p:Int)+(wid k:Nat))),o7]) ∧
     Tl H H7 D (slpTo b k fs p++(ms.take j).map (spliced fs p (wid k)))∧H7 W=some (.lst (ws.map V.ref))∧LL H7 ws ms) ?_ ?_ ?_ ?_⟩
   ·refine ⟨⟨_,rfl⟩,⟨⟨as,?_,tl.newD,tl.nd,tl.new,(by rw [List.take_zero,List.map_nil,List.append_nil];exact tl.ll.same (s5.trans s6))⟩,(s4.trans s5).trans s6⟩,hWl,hWL⟩
    exact s6 _ _ (s5 _ _ tl.at')
   ·rintro j σ H7 _ ⟨_,_,h,_⟩
    exact SqL.of h
   ·rintro j x σ H7 hj ⟨⟨o7,rfl⟩,⟨⟨as7,tl7⟩,s7⟩,hW7,hL7⟩
    obtain ⟨m,em,rfl⟩:∃ m,ws[j]? = some m∧x=V.ref m:=by
     rw [List.getElem?_map] at hj
     cases e:ws[j]? with
     | none=>rw [e] at hj;cases hj
     | some m=>rw [e] at hj;exact ⟨m,rfl,(Option.some.inj hj).symm⟩
    have hjl:j < ms.length:=by
     have:=(List.getElem?_eq_some_iff.mp em).1
     omega
    obtain ⟨m',em',hm'⟩:=paired_get hL7 j _ (List.getElem?_eq_getElem hjl)
    rw [em] at em'
    cases em'
    have hmi:=hwi _ (List.getElem_mem hjl)
    generalize hmj:ms[j]=mj at hm' hmi
    refine ⟨_,rfl,.inl ⟨rfl,_,SqL.of tl7.at'⟩,_,rfl,_,rfl,_,rfl,a,_,rfl,s7.seq hS,fun c1 hc1=>?_⟩
    have t1:=Same.new (o:=HO.lst (cutV (fs.map V.int) none (some (0+(p:Int))))) hc1
    have e1:cutV (fs.map V.int) none (some (0+(p:Int)))=(fs.take p).map V.int:=by
     rw [show (0+(p:Int))=((p:Nat):Int) by omega,cut_upto,List.map_take]
    rw [e1] at t1 ⊢
    refine ⟨_,rfl,c1,m,_,_,rfl,rfl,upd_same,t1 _ _ hm',?_,fun c2 hc2=>?_⟩
    ·exact Nat.le_of_lt (smallM (by simp only [List.length_map,List.length_take];omega))
    have t2:=Same.new (o:=HO.lst ((fs.take p).map V.int++mj.map V.int)) hc2
    refine ⟨_,rfl,_,rfl,_,rfl,a,_,rfl,((s7.trans t1).trans t2).seq hS,fun c3 hc3=>?_⟩
    have t3:=Same.new (o:=HO.lst (cutV (fs.map V.int) (some (0+(p:Int)+(wid k:Nat))) none)) hc3
    have e3:cutV (fs.map V.int) (some (0+(p:Int)+(wid k:Nat))) none=(fs.drop (p+wid k)).map V.int:=by
     rw [show (0+(p:Int)+(wid k:Nat))=((p+wid k:Nat):Int) by omega,cut_from,List.map_drop]
    rw [e3] at t3 ⊢
    refine ⟨c2,c3,_,_,rfl,rfl,t3 _ _ upd_same,upd_same,?_,fun c4 hc4=>?_⟩
    ·exact Nat.le_of_lt (smallM (by simp only [List.length_append,List.length_map,List.length_take,List.length_drop];omega))
    have t4:=Same.new (o:=HO.lst ((fs.take p).map V.int++mj.map V.int++(fs.drop (p+wid k)).map V.int)) hc4
    have t14:=((t1.trans t2).trans t3).trans t4
    have n7:H7 c4=none:=((t1.trans t2).trans t3).free hc4
    refine ⟨D,_,_,rfl,rfl,t14 _ _ tl7.at',?_,⟨_,rfl⟩,?_,?_,?_⟩
    ·rw [List.length_map,tl7.ll.length,List.length_append,List.length_map,List.length_take]
     exact smallM (by omega)
    ·have:=Tl.add (a:=c4) (ys:=spliced fs p (wid k) mj) tl7 s7 t14 n7 (by rw [upd_same];simp [spliced])
     rw [List.take_succ_eq_append_getElem hjl,List.map_append,← List.append_assoc,hmj]
     exact this
    ·rw [upd_ne hDW]
     exact t14 _ _ hW7
    ·exact (hL7.same t14).put hDws
   ·rintro σ H7 ⟨⟨o7,rfl⟩,tl7,_,_⟩
    rw [List.length_map,hml,List.take_length,← hwrs,← slpTo_succ] at tl7
    exact ⟨⟨_,_,_,rfl⟩,tl7⟩
  ·rintro σ H4 ⟨⟨o5,o6,o7,rfl⟩,⟨⟨as,tl⟩,s4⟩⟩
   exact ⟨_,rfl,q D as H4 s4 tl⟩
end
end My
namespace My
open PySem L2 PyProof.Rows
structure Gr where
 succ:PyData→List (PyData×PyData)
 fin:PyData→Bool
 start:PyData
 univ:List PyData
 Lab:V→PyData→Prop
 hp:Hp→Prop
def AVal (K:PySem.W.Frag) (H:Hp) (Lab:V→PyData→Prop) (arr:List (PyData×List PyData)) (v:V) (ls:List PyData):Prop :=
 (ls=[]∧v=.non)∨∃ a lv b l p lsP,v=.ref a∧SqT K H a [lv,.ref b]∧Lab lv l∧KeyAt K H false b p∧ls=lsP++[l]∧(p,lsP)∈arr
theorem AVal.mono {K:PySem.W.Frag}{H H':Hp}{Lab:V→PyData→Prop}{arr arr':List (PyData×List PyData)}{v:V}{ls:List PyData} (s:∀ a xs,SqT K H a xs→SqT K H' a xs) (m:∀ x∈arr,x∈arr') (h:AVal K H Lab arr v ls):AVal K H' Lab arr' v ls:=by
 rcases h with h | ⟨a,lv,b,l,p,lsP,h1,h2,h3,h4,h5,h6⟩
 ·exact .inl h
 ·exact .inr ⟨a,lv,b,l,p,lsP,h1,s _ _ h2,h3,h4.mono s,h5,m _ h6⟩
structure ArrAt (P:Program) (w:World) (K:PySem.W.Frag) (H:Hp) (Lab:V→PyData→Prop) (d:Addr) (arr:List (PyData×List PyData)):Prop where
 ex:∃ kvs,DAt P w K false H d kvs∧Paired (fun (kv:PyData×V) (a:PyData×List PyData)=>kv.1=a.1∧AVal K H Lab arr kv.2 a.2) kvs arr
theorem ArrAt.same {P:Program}{w:World}{K:PySem.W.Frag}{H H':Hp}{Lab:V→PyData→Prop}{d:Addr}{arr:List (PyData×List PyData)} (s:Same H H') (h:ArrAt P w K H Lab d arr):ArrAt P w K H' Lab d arr:=by
 obtain ⟨kvs,hD,p⟩:=h
 exact ⟨kvs,hD.same s,paired_imp (fun _ _ h=>⟨h.1,h.2.mono (fun _ _=>s.seqT) fun _ x=>x⟩) p⟩
theorem ArrAt.putL {P:Program}{w:World}{K:PySem.W.Frag}{H:Hp}{Lab:V→PyData→Prop}{d l:Addr}{ys:List V}{o:HO}{arr:List (PyData×List PyData)} (h:ArrAt P w K H Lab d arr) (hl:H l=some (.lst ys)):ArrAt P w K (upd H l o) Lab d arr:=by
 obtain ⟨kvs,hD,p⟩:=h
 exact ⟨kvs,hD.putL hl,paired_imp (fun _ _ h=>⟨h.1,h.2.mono (fun a xs t=>seqT_putL hl a xs t) fun _ x=>x⟩) p⟩
theorem paired_val {R:V→List PyData→Prop}:∀ {kvs:List (PyData×V)}{arr:List (PyData×List PyData)},Paired (fun (kv:PyData×V) (a:PyData×List PyData)=>kv.1=a.1∧R kv.2 a.2) kvs arr→(arr.map (·.1)).Nodup→∀ {n ls},(n,ls)∈arr→∃ v,valN kvs n=some v∧R v ls
 | _,_,.nil,_,n,ls,h=>by cases h
 | _,_,.cons (a:=kv) (b:=a) h t,nd,n,ls,hm=>by
  rw [List.map_cons,List.nodup_cons] at nd
  unfold valN
  rw [List.find?_cons]
  rcases List.mem_cons.mp hm with e | hm
  ·have e1:kv.1=n:=by rw [h.1,← e]
   rw [decide_eq_true e1]
   exact ⟨kv.2,rfl,by have:=h.2;rw [← e] at this;exact this⟩
  ·have e1:kv.1≠n:=fun z=>nd.1 (List.mem_map.mpr ⟨_,hm,by rw [← h.1,z]⟩)
   rw [decide_eq_false e1]
   exact paired_val t nd.2 hm
theorem paired_noval {R:V→List PyData→Prop}:∀ {kvs:List (PyData×V)}{arr:List (PyData×List PyData)},Paired (fun (kv:PyData×V) (a:PyData×List PyData)=>kv.1=a.1∧R kv.2 a.2) kvs arr→∀ {n},¬Has' arr n→valN kvs n=none
 | _,_,.nil,n,h=>rfl
 | _,_,.cons (a:=kv) (b:=a) h t,n,hn=>by
  unfold valN
  rw [List.find?_cons]
  have e1:kv.1≠n:=fun z=>hn ⟨a.2,by rw [← z,h.1];exact List.mem_cons_self⟩
  rw [decide_eq_false e1]
  exact paired_noval t fun ⟨ls,hm⟩=>hn ⟨ls,List.mem_cons_of_mem _ hm⟩
theorem ArrAt.add {P:Program}{w:World}{K:PySem.W.Frag}{H H':Hp}{Lab:V→PyData→Prop}{d:Addr}{arr:List (PyData×List PyData)}{kvs:List (PyData×V)}{k p:PyData}{ls:List PyData}{l:PyData}{t b:Addr}{lv:V}
  (hp:Paired (fun (kv:PyData×V) (a:PyData×List PyData)=>kv.1=a.1∧AVal K H Lab arr kv.2 a.2) kvs arr) (hn:¬Has' arr k) (s:∀ a xs,SqT K H a xs→SqT K H' a xs) (hD:DAt P w K false H' d (putN kvs k (.ref t)))
  (ht:SqT K H' t [lv,.ref b]) (hl:Lab lv l) (hb:KeyAt K H' false b p) (hm:(p,ls)∈arr):ArrAt P w K H' Lab d (arr++[(k,ls++[l])]):=by
 have e:putN kvs k (.ref t)=kvs++[(k,.ref t)]:=by
  unfold putN
  rw [paired_noval hp hn]
  rfl
 rw [e] at hD
 refine ⟨_,hD,paired_snoc (paired_imp (fun _ _ h=>⟨h.1,h.2.mono s fun x hx=>List.mem_append_left _ hx⟩) hp) ⟨rfl,.inr ⟨t,lv,b,l,p,ls,rfl,ht,hl,hb,rfl,List.mem_append_left _ hm⟩⟩⟩
def spLabels (P:Program) (w:World) (K:PySem.W.Frag):Sp:=fun vs H Q _=>∃ (succ:PyData→List (PyData×PyData)) (start n:PyData) (Lab:V→PyData→Prop) (arr:List (PyData×List PyData)) (ls:List PyData) (b d:Addr),vs=[.ref b,.ref d]∧KeyAt K H false b n∧ArrAt P w K H Lab d arr∧Arr succ start arr ∧
 (n,ls)∈arr∧ls.length≤100000∧∀ D lvs H',Same H H'→H D=none→H' D=some (.lst lvs)→Paired Lab lvs ls→Q (.ref D) H'
theorem paired_reverse {α β:Type}{F:α→β→Prop}:∀ {l₁:List α}{l₂:List β},Paired F l₁ l₂→Paired F l₁.reverse l₂.reverse
 | _,_,.nil=>.nil
 | _,_,.cons h t=>by
  rw [List.reverse_cons,List.reverse_cons]
  exact paired_snoc (paired_reverse t) h
section
variable {P:Program}{w:World}{K:PySem.W.Frag}{mg:Str→Option Value}{base:Heap}
abbrev s_labels_to:Stmt:=top 9
theorem sc_labels_to:FnScope ["node","arrivals","labels"] ["node","arrivals"] (defScope s_labels_to):=fS
theorem ok_labels_to {f:Addr}{fd:FuncData} (F:Fun K "labels_to" "labels_to" s_labels_to f fd) (B:Blt mg)   :
  FnOk P w K mg base CX0 1 f fd ["node","arrivals"] (spLabels P w K):=by
 refine F.ok sc_labels_to (fun vs H Q E h=>?_) (fun cdv A outer s H vs Q E hr h=>?_)
 ·obtain ⟨_,_,_,_,_,_,_,_,rfl,_⟩:=h
  rfl
 ·obtain ⟨succ,start,n,Lab,arr,ls,b,d,rfl,hk,hA,A,hm,hl,q⟩:=h
  have nd:=sc_labels_to.nd
  have hu:=hr.units
  refine ⟨_,(pss_cons (ps_set (i:=2) nd rfl (Or.inl rfl) (pe_lst pa_nil))
   (pss_cons (ps_while PassesOwn.never (pt_cmpR op_notN (pe_nget false hu (pv 1) (pv 0) (fun _ _=>rfl)) pe_non (nomark _)) (pss_cons (ps_expr (pe_bm PySem.F.plainAttrs_list PySem.F.slot_list_append PySem.F.type_list_append mt_append (pv 2) (pa_cons (pe_ix ix_tup (pe_nget false hu (pv 1) (pv 0) (fun _ _=>rfl)) pe_int (fun _ _=>rfl)) pa_nil)))
   (pss_one (ps_set (i:=0) nd rfl (Or.inl rfl) (pe_ix ix_tup (pe_nget false hu (pv 1) (pv 0) (fun _ _=>rfl)) pe_int (fun _ _=>rfl))))))
   (pss_cons (ps_expr (pe_bm0 PySem.F.plainAttrs_list PySem.F.slot_list_reverse PySem.F.type_list_reverse mt_reverse (pv 2)))
   (pss_one (ps_ret (pv 2)))))),?_⟩
  refine ⟨zl,fun L hL=>?_⟩
  have s1:=Same.new (o:=HO.lst []) hL
  refine ⟨fun m σ H2=>∃ (b':Addr) (n':PyData) (lsC labs:List PyData) (lvs:List V),σ=[some (.ref b'),some (.ref d),some (.ref L)]∧KeyAt K H2 false b' n'∧(n',lsC)∈arr∧H2 L=some (.lst lvs)∧Paired Lab lvs labs∧ls=lsC++labs.reverse∧Same H H2∧m=lsC.length,
   ⟨_,b,n,ls,[],[],rfl,hk.same s1,hm,upd_same,.nil,by simp,s1,rfl⟩,?_⟩
  rintro m σ H2 ⟨b',n',lsC,labs,lvs,rfl,hk2,hm2,hL2,hp2,els,s2,rfl⟩
  obtain ⟨kvs,hD,hp⟩:=hA.same s2
  obtain ⟨v,hv,hAv⟩:=paired_val hp A.nd hm2
  have hget:NGet P w K false H2 d (.ref b') (some v):=⟨kvs,n',b',hD,rfl,hk2,hv.symm⟩
  refine ⟨_,rfl,_,rfl,d,v,rfl,hget,rfl,_,rfl,?_⟩
  rcases hAv with ⟨e1,e2⟩ | ⟨a,lv,bp,l,p,lsP,rfl,hT,hLab,hkp,e1,hmp⟩
  ·subst e1 e2
   refine ifN (by simp) ?_
   refine ⟨_,rfl,.inl ⟨rfl,_,SqL.of hL2⟩,L,_,rfl,rfl,hL2,_,rfl,?_⟩
   refine q L _ _ (s2.put hL) hL upd_same ?_
   rw [els,List.nil_append]
   exact paired_reverse hp2
  ·refine ifY (by simp) ⟨_,fun σ' H' z=>z,?_⟩
   have hlab:labs.length < ls.length:=by
    rw [els,e1]
    simp
    omega
   have hlv:=paired_length hp2
   refine ⟨_,rfl,.inl ⟨rfl,_,SqL.of hL2⟩,_,rfl,_,rfl,d,_,rfl,hget,a,_,0,_,rfl,rfl,hT,rfl,L,_,_,rfl,rfl,hL2,smallM (by omega),?_⟩
   have hD3:=hD.putL (o:=.lst (lvs++[lv])) hL2
   have hk3:=hk2.putL (o:=.lst (lvs++[lv])) hL2
   have hT3:=seqT_putL (o:=.lst (lvs++[lv])) hL2 _ _ hT
   refine ⟨_,rfl,_,rfl,d,_,rfl,⟨kvs,n',b',hD3,rfl,hk3,hv.symm⟩,a,_,1,_,rfl,rfl,hT3,rfl,lsP.length,?_,bp,p,lsP,labs++[l],lvs++[lv],rfl,hkp.putL hL2,hmp,upd_same,paired_snoc hp2 hLab,?_,s2.put hL,rfl⟩
   ·rw [e1,List.length_append,List.length_singleton]
    omega
   ·rw [els,e1]
    simp
end
end My
namespace My
open PySem L2 PyProof.Rows
def StepAt (K:PySem.W.Frag) (H:Hp) (Lab:V→PyData→Prop) (y:V) (st:PyData×PyData):Prop:=∃ a lv b,y=.ref a∧SqT K H a [lv,.ref b]∧Lab lv st.1∧KeyAt K H false b st.2
theorem StepAt.mono {K:PySem.W.Frag}{H H':Hp}{Lab:V→PyData→Prop}{y:V}{st:PyData×PyData} (s:∀ a xs,SqT K H a xs→SqT K H' a xs) (h:StepAt K H Lab y st):StepAt K H' Lab y st:=by
 obtain ⟨a,lv,b,h1,h2,h3,h4⟩:=h
 exact ⟨a,lv,b,h1,s _ _ h2,h3,h4.mono s⟩
def NodeV (K:PySem.W.Frag) (H:Hp) (v:V) (n:PyData):Prop:=∃ b,v=.ref b∧KeyAt K H false b n
theorem NodeV.mono {K:PySem.W.Frag}{H H':Hp}{v:V}{n:PyData} (s:∀ a xs,SqT K H a xs→SqT K H' a xs) (h:NodeV K H v n):NodeV K H' v n:=by
 obtain ⟨b,e,h⟩:=h
 exact ⟨b,e,h.mono s⟩
def spSteps (K:PySem.W.Frag) (g:Gr):Sp:=fun vs H Q _=>∃ (b:Addr) (n:PyData),vs=[.ref b]∧KeyAt K H false b n∧n∈g.univ∧g.hp H∧∀ D ys H',Same H H'→H D=none→H' D=some (.lst ys)→Paired (StepAt K H' g.Lab) ys (g.succ n)→Q (.ref D) H'
def spEnds (K:PySem.W.Frag) (g:Gr):Sp:=fun vs H Q _=>∃ (b:Addr) (n:PyData),vs=[.ref b]∧KeyAt K H false b n∧n∈g.univ∧g.hp H∧∀ H',Same H H'→Q (.bl (g.fin n)) H'
structure GrOk (g:Gr):Prop where
 st:g.start∈g.univ
 cl:∀ n∈g.univ,∀ l m,(l,m)∈g.succ n→m∈g.univ
 few:g.univ.length≤20000
 mono:∀ H H',Same H H'→g.hp H→g.hp H'
def preSh (P:Program) (w:World) (K:PySem.W.Frag) (mg:Str→Option Value) (base:Heap) (g:Gr):Shared→Hp→List V→Prop:=fun s H vs=>∃ b fS fE,vs=[.ref b,.ref fS,.ref fE]∧CallOk P w K mg base 4 fS (spSteps K g) s H∧CallOk P w K mg base 4 fE (spEnds K g) s H
def spSh (K:PySem.W.Frag) (g:Gr):Sp:=fun vs H Q _=>∃ b fS fE,vs=[.ref b,.ref fS,.ref fE]∧KeyAt K H false b g.start∧GrOk g∧g.hp H ∧
 (∀ H',Same H H'→(∀ ls m,Wk g.succ g.start ls m→g.fin m=false)→Q .non H') ∧
 (∀ D lvs ls m H',Same H H'→H D=none→H' D=some (.lst lvs)→Paired g.Lab lvs ls→Wk g.succ g.start ls m→g.fin m=true→(∀ ls' m',Wk g.succ g.start ls' m'→g.fin m'=true→ls.length≤ls'.length)→ls.length < g.univ.length→Q (.ref D) H')
section
variable {P:Program}{w:World}{K:PySem.W.Frag}{mg:Str→Option Value}{base:Heap}
structure Lvl (P:Program) (w:World) (K:PySem.W.Frag) (g:Gr) (H0 H:Hp) (dA lN:Addr) (d:Nat) (arr:List (PyData×List PyData)) (nodesV:List V) (nodes:List PyData):Prop where
 same:Same H0 H
 newA:H0 dA=none
 newN:H0 lN=none
 at':ArrAt P w K H g.Lab dA arr
 A:Arr g.succ g.start arr
 un:∀ n ls,(n,ls)∈arr→n∈g.univ
 lN:H lN=some (.lst nodesV)
 nv:Paired (NodeV K H) nodesV nodes
 le:∀ n ls,(n,ls)∈arr→ls.length≤d
 on:∀ n∈nodes,∃ ls,(n,ls)∈arr∧ls.length=d
 off:∀ n ls,(n,ls)∈arr→ls.length=d→n∈nodes
 done:∀ n ls,(n,ls)∈arr→ls.length < d→Done g.succ g.fin arr ls.length n
structure Inn (P:Program) (w:World) (K:PySem.W.Frag) (g:Gr) (H0 H:Hp) (dA lN lF:Addr) (d:Nat) (arr:List (PyData×List PyData)) (nodesV:List V) (nodes:List PyData) (arr':List (PyData×List PyData)) (farV:List V) (far:List PyData):Prop where
 same:Same H0 H
 at':ArrAt P w K H g.Lab dA arr'
 A:Arr g.succ g.start arr'
 un:∀ n ls,(n,ls)∈arr'→n∈g.univ
 lN:H lN=some (.lst nodesV)
 nv:Paired (NodeV K H) nodesV nodes
 lF:H lF=some (.lst farV)
 fv:Paired (NodeV K H) farV far
 sub:∀ x∈arr,x∈arr'
 le:∀ n ls,(n,ls)∈arr'→ls.length≤d+1
 old:∀ n ls,(n,ls)∈arr'→ls.length≤d→(n,ls)∈arr
 on:∀ n∈far,∃ ls,(n,ls)∈arr'∧ls.length=d+1
 off:∀ n ls,(n,ls)∈arr'→ls.length=d+1→n∈far
 size:arr'.length=arr.length+far.length
theorem Inn.grow {P:Program}{w:World}{K:PySem.W.Frag}{g:Gr}{H0 H H':Hp}{dA lN lF:Addr}{d:Nat}{arr:List (PyData×List PyData)}{nodesV:List V}{nodes:List PyData}{arr':List (PyData×List PyData)}{farV:List V}{far:List PyData} (s:Same H H') (h:Inn P w K g H0 H dA lN lF d arr nodesV nodes arr' farV far) :
  Inn P w K g H0 H' dA lN lF d arr nodesV nodes arr' farV far :=
 ⟨h.same.trans s,h.at'.same s,h.A,h.un,s _ _ h.lN,paired_imp (fun _ _ x=>x.mono fun _ _=>s.seqT) h.nv,s _ _ h.lF,paired_imp (fun _ _ x=>x.mono fun _ _=>s.seqT) h.fv,h.sub,h.le,h.old,h.on,h.off,h.size⟩
theorem has_of {kvs:List (PyData×V)}{arr:List (PyData×List PyData)}{R:V→List PyData→Prop} (hp:Paired (fun (kv:PyData×V) (a:PyData×List PyData)=>kv.1=a.1∧R kv.2 a.2) kvs arr) {n:PyData} (h:(valN kvs n).isSome=true):Has' arr n:=by
 by_cases z:Has' arr n
 ·exact z
 ·rw [paired_noval hp z] at h
  cases h
def stH (b fS fE dA lN:Addr) (o5 o6 o7:Option V):L2.St:=[some (.ref b),some (.ref fS),some (.ref fE),some (.ref dA),some (.ref lN),o5,o6,o7]
abbrev s_shortest:Stmt:=top 10
theorem sc_shortest:FnScope ["start","steps","ends","arrivals","nodes","farther","node","step"] ["start","steps","ends"] (defScope s_shortest):=fS
theorem ok_shortest {f:Addr}{fd:FuncData} (F:Fun K "shortest" "shortest" s_shortest f fd) (B:Blt mg) (h_labels_to:Has P w K mg base "labels_to" 1 ["node","arrivals"] (spLabels P w K)) (g:Gr) :
  FnOkS P w K mg base 6 f fd ["start","steps","ends"] (preSh P w K mg base g) (spSh K g):=by
 refine F.okS sc_shortest (fun vs H Q E h=>?_) (fun cdv A outer s H vs Q E hr hpre h=>?_)
 ·obtain ⟨_,_,_,rfl,_⟩:=h
  rfl
 ·obtain ⟨b,fS,fE,rfl,hk,G,hh,qN,qL⟩:=h
  obtain ⟨b',fS',fE',e,FS,FE⟩:=hpre
  cases e
  have nd:=sc_shortest.nd
  have hu:=hr.units
  refine ⟨_,(pss_cons (ps_set (i:=3) nd rfl (Or.inl rfl) (pe_ndisp1 false hu (pv 0) pe_non))
   (pss_cons (ps_set (i:=4) nd rfl (Or.inl rfl) (pe_lst (pa_cons (pv 0) pa_nil)))
   (pss_cons (ps_while PassesOwn.never (pt_cmpR op_gt (pe_callB call_len_seq rfl B.len PySem.boot_len (pa_cons (pv 4) pa_nil)) pe_int (nomark _)) (pss_cons (ps_set (i:=5) nd rfl (Or.inl rfl) (pe_lst pa_nil))
   (pss_cons (ps_for PassesOwn.never rfl (pi_list (pv 4)) (pg_name (i:=6) nd rfl (Or.inl rfl)) (pss_cons (ps_if (pt_val (pe_callV (i:=2) FE (hm hr) rfl (pa_cons (pv 6) pa_nil))) (pss_one (ps_ret (pe_fn h_labels_to (hm hr) (pa_cons (pv 6) (pa_cons (pv 3) pa_nil))))) pss_nil)
   (pss_one (ps_for PassesOwn.never rfl (pi_list (pe_callV (i:=1) FS (hm hr) rfl (pa_cons (pv 6) pa_nil))) (pg_name (i:=7) nd rfl (Or.inl rfl)) (pss_one (ps_if (pt_cmpR (op_nnotin false hu) (pe_ix ix_tup (pv 7) pe_int (fun _ _=>rfl)) (pv 3) rfl) (pss_cons (ps_nput false hu (pv 3) (pe_ix ix_tup (pv 7) pe_int (fun _ _=>rfl)) (pe_tup (pa_cons (pe_ix ix_tup (pv 7) pe_int (fun _ _=>rfl)) (pa_cons (pv 6) pa_nil))) rfl)
   (pss_one (ps_expr (pe_bm PySem.F.plainAttrs_list PySem.F.slot_list_append PySem.F.type_list_append mt_append (pv 5) (pa_cons (pe_ix ix_tup (pv 7) pe_int (fun _ _=>rfl)) pa_nil))))) pss_nil))))))
   (pss_one (ps_set (i:=4) nd rfl (Or.inl rfl) (pv 5))))))
   (pss_one (ps_ret pe_non))))),?_⟩
  -- arrivals={start: None};nodes=[start]
  refine sealE fun D0 hN0 hR0=>?_
  refine cut2 fun T1 hT1=>?_
  refine fun dA hA=>⟨_,rfl,b,g.start,rfl,upd_same,hk.mono fun _ _=>(Same.new hA).seqT,fun xs ep hD=>?_⟩
  rw [upd_upd] at hD ⊢
  have s1:=Same.new (o:=HO.ext (dφ P w false dA xs ep)) hA
  refine ⟨_,rfl,zl,fun lN hN=>?_⟩
  have s2:=Same.new (o:=HO.lst [V.ref b]) hN
  have s12:=s1.trans s2
  have hne:lN≠dA:=(ne_of_none upd_same hN).symm
  refine hT1 _ _ ?_
  obtain ⟨W,hW⟩:∃ W:Nat→L2.St→Hp→Prop,∀ m σ H2,W m σ H2↔∃ lN d arr nodesV nodes o5 o6 o7,σ=stH b fS fE dA lN o5 o6 o7∧Lvl P w K g H H2 dA lN d arr nodesV nodes∧m=2 * (g.univ.length-arr.length)+(if nodes=[] then 0 else 1):=⟨_,fun _ _ _=>Iff.rfl⟩
  refine ⟨W,⟨_,(hW _ _ _).2 ⟨lN,0,[(g.start,[])],[.ref b],[g.start],_,_,_,rfl,?_,rfl⟩⟩,?_⟩
  ·refine ⟨s12,hA,s1.free hN,?_,Arr.start' _ _,fun n ls h=>?_,upd_same,.cons ⟨b,rfl,hk.same s12⟩ .nil,fun n ls h=>?_,fun n h=>?_,fun n ls h _=>?_,fun n ls h hl=>?_⟩
   ·exact ⟨_,hD.same s2,.cons ⟨rfl,.inl ⟨rfl,rfl⟩⟩ .nil⟩
   ·have h':=List.mem_singleton.mp h
    cases h'
    exact G.st
   ·have h':=List.mem_singleton.mp h
    cases h'
    exact Nat.le_refl _
   ·rw [List.mem_singleton.mp h]
    exact ⟨[],List.mem_singleton.mpr rfl,rfl⟩
   ·have h':=List.mem_singleton.mp h
    cases h'
    exact List.mem_singleton.mpr rfl
   ·omega
  intro m σ H2 zz
  refine hide fun Gz hGz=>?_
  obtain ⟨lN,d,arr,nodesV,nodes,o5,o6,o7,rfl,L,rfl⟩:=(hW _ _ _).1 zz
  clear zz
  refine hGz ?_
  have harr:=L.A.keys_le L.un
  have hnl:=paired_length L.nv
  have few:=G.few
  refine ⟨_,rfl,lN,_,rfl,.inl (SqL.of L.lN),_,_,rfl,rfl,_,rfl,ite2 (fun c=>?_) (fun c=>?_)⟩
  ·have hne:nodes≠[]:=by
    have:=of_decide_eq_true c
    intro z
    have h0:nodesV.length=0:=by rw [hnl,z];rfl
    omega
   rw [if_neg hne]
   refine ⟨fun σ' H'=>∃ m',m' < 2 * (g.univ.length-arr.length)+1∧W m' σ' H',fun σ' H' z=>z,?_⟩
   refine sealE fun D1 hN1 hR1=>?_
   refine cut1 fun T2 hT2=>?_
   refine ⟨zl,fun lF hF=>hT2 _ _ ?_⟩
   have s3:=Same.new (o:=HO.lst []) hF
   have hNF:lN≠lF:=ne_of_none L.lN hF
   have newF:H lF=none:=L.same.free hF
   obtain ⟨I1,hI1⟩:∃ I1:Nat→L2.St→Hp→Prop,∀ i σ H3,I1 i σ H3↔∃ arr' farV far o6 o7,σ=stH b fS fE dA lN (some (.ref lF)) o6 o7 ∧
     Inn P w K g H H3 dA lN lF d arr nodesV nodes arr' farV far∧∀ (j:Nat) n,j < i→nodes[j]? = some n→Done g.succ g.fin arr' d n:=⟨_,fun _ _ _=>Iff.rfl⟩
   refine ⟨_,rfl,lN,rfl,⟨_,SqL.of (s3 _ _ L.lN)⟩,for_list (K:=K) (a:=lN) (xs:=nodesV) I1 ?_ ?_ ?_ ?_⟩
   ·refine (hI1 _ _ _).2 ⟨arr,[],[],_,_,rfl,⟨L.same.trans s3,L.at'.same s3,L.A,L.un,s3 _ _ L.lN,paired_imp (fun _ _ x=>x.mono fun _ _=>s3.seqT) L.nv,upd_same,.nil,fun x hx=>hx,fun n ls h=>Nat.le_succ_of_le (L.le n ls h),fun n ls h _=>h,(fun _ h=>by cases h),fun n ls h hl=>?_,rfl⟩,fun j n hj=>by omega⟩
    have:=L.le n ls h
    omega
   ·intro i σ H3 _ zz
    obtain ⟨arr',farV,far,o6,o7,_,I,_⟩:=(hI1 _ _ _).1 zz
    exact SqL.of I.lN
   ·intro i x σ H3 hi zz
    refine hide fun Gz hGz=>?_
    obtain ⟨arr',farV,far,o6,o7,rfl,I,hdone⟩:=(hI1 _ _ _).1 zz
    clear zz
    refine hGz ?_
    refine sealE fun D2 hN2 hR2=>?_
    have hil:i < nodes.length:=by
     have:=(List.getElem?_eq_some_iff.mp hi).1
     omega
    have hni:=List.getElem?_eq_getElem hil
    generalize nodes[i]=n at hni
    obtain ⟨x',ex',bn,e,hkn⟩:=paired_get I.nv i n hni
    rw [hi] at ex'
    cases ex'
    subst e
    obtain ⟨lsn,hmn,hln⟩:=L.on n (List.mem_of_getElem? hni)
    have hun:=L.un n lsn hmn
    -- ends(node)
    refine ⟨rfl,I.same,_,rfl,_,rfl,I.same,bn,n,rfl,hkn,hun,G.mono _ _ I.same hh,fun H4 s4=>⟨_,rfl,?_⟩⟩
    have I4:=I.grow s4
    rcases Bool.eq_false_or_eq_true (g.fin n) with hfin | hfin
    ·refine ifY hfin ?_
     have hlt:lsn.length < g.univ.length:=by
      have h1:=I4.A.keys_le I4.un
      have h2:=I4.A.path_lt (I4.sub _ hmn)
      omega
     refine ⟨_,rfl,_,rfl,g.succ,g.start,n,g.Lab,arr',lsn,bn,dA,rfl,hkn.same s4,I4.at',I4.A,I4.sub _ hmn,by omega,fun D lvs H5 s5 hD hDl hLab=>?_⟩
     refine hR2 _ _ (hR1 _ _ (hR0 _ _ (qL D lvs lsn n H5 (I4.same.trans s5) (I4.same.free hD) hDl hLab (L.A.wk n lsn hmn) hfin (fun ls' m' hw hf=>?_) hlt)))
     rw [hln]
     exact least L.A L.done hw hf
    ·refine ifN hfin ?_
     -- for step in steps(node)
     refine ⟨rfl,I4.same,_,rfl,_,rfl,I4.same,bn,n,rfl,hkn.same s4,hun,G.mono _ _ I4.same hh,fun D ys H5 s5 hD hDl hSt=>?_⟩
     have I5:=I4.grow s5
     have hDF:D≠lF:=(ne_of_none I4.lF hD).symm
     have newD:H D=none:=I4.same.free hD
     have hyl:=paired_length hSt
     obtain ⟨I2,hI2⟩:∃ I2:Nat→L2.St→Hp→Prop,∀ j σ H6,I2 j σ H6↔∃ arr2 farV far o7,σ=stH b fS fE dA lN (some (.ref lF)) (some (.ref bn)) o7 ∧
       Inn P w K g H H6 dA lN lF d arr nodesV nodes arr2 farV far∧(∀ x∈arr',x∈arr2)∧H6 D=some (.lst ys)∧Paired (StepAt K H6 g.Lab) ys (g.succ n)∧KeyAt K H6 false bn n∧∀ (j':Nat) l m,j' < j→(g.succ n)[j']? = some (l,m)→∃ ls,(m,ls)∈arr2∧ls.length≤d+1:=⟨_,fun _ _ _=>Iff.rfl⟩
     refine ⟨D,rfl,⟨_,SqL.of hDl⟩,for_list (K:=K) (a:=D) (xs:=ys) I2 ?_ ?_ ?_ ?_⟩
     ·exact (hI2 _ _ _).2 ⟨arr',farV,far,_,rfl,I5,fun x hx=>hx,hDl,hSt,(hkn.same s4).same s5,fun j' l m hj=>by omega⟩
     ·intro j σ H6 _ zz
      obtain ⟨arr2,farV,far,o7,_,_,_,h,_⟩:=(hI2 _ _ _).1 zz
      exact SqL.of h
     ·intro j y σ H6 hj zz
      refine hide fun Gz hGz=>?_
      obtain ⟨arr2,farV,far,o7,rfl,I6,hsub,hD6,hSt6,hkn6,hsofar⟩:=(hI2 _ _ _).1 zz
      clear zz
      refine hGz ?_
      have hjl:j < (g.succ n).length:=by
       have:=(List.getElem?_eq_some_iff.mp hj).1
       omega
      have hsj:=List.getElem?_eq_getElem hjl
      have hsm:=List.getElem_mem hjl
      generalize (g.succ n)[j]=st at hsj hsm
      obtain ⟨l,m⟩:=st
      obtain ⟨y',ey',a,lv,bm,e,hT,hLab,hkm⟩:=paired_get hSt6 j _ hsj
      rw [hj] at ey'
      cases ey'
      subst e
      have hum:=G.cl n hun l m hsm
      obtain ⟨kvs,hDt,hpr⟩:=id I6.at'
      have next:∀ {arr3:List (PyData×List PyData)},(∀ x∈arr2,x∈arr3)→(∃ ls,(m,ls)∈arr3∧ls.length≤d+1)→∀ (j':Nat) l' m',j' < j+1→(g.succ n)[j']? = some (l',m')→∃ ls,(m',ls)∈arr3∧ls.length≤d+1:=fun {arr3} hs hm j' l' m' hj' e=>by
       by_cases hlt:j' < j
       ·obtain ⟨ls,h1,h2⟩:=hsofar j' l' m' hlt e
        exact ⟨ls,hs _ h1,h2⟩
       ·have:j'=j:=by omega
        subst this
        rw [hsj] at e
        cases e
        exact hm
      refine ⟨_,rfl,a,_,1,_,rfl,rfl,hT,rfl,_,rfl,dA,_,rfl,⟨kvs,m,bm,hDt,rfl,hkm,rfl⟩,_,rfl,ite2 (fun c=>?_) (fun c=>?_)⟩
      ·have hnm:¬Has' arr2 m:=fun ⟨ls,hm⟩=>by
        obtain ⟨v,hv,_⟩:=paired_val hpr I6.A.nd hm
        rw [hv] at c
        cases c
       have hm2:(n,lsn)∈arr2:=hsub _ (I.sub _ hmn)
       have A3:=I6.A.add hm2 hsm hnm
       have un3:∀ n' ls',(n',ls')∈arr2++[(m,lsn++[l])]→n'∈g.univ:=fun n' ls' h=>by
        rcases List.mem_append.mp h with h | h
        ·exact I6.un n' ls' h
        ·have h':=List.mem_singleton.mp h
         cases h'
         exact hum
       have hk3:=A3.keys_le un3
       rw [List.length_append,List.length_singleton] at hk3
       have hkl:kvs.length=arr2.length:=paired_length hpr
       have hfl:=paired_length I6.fv
       have hsz:=I6.size
       refine ⟨_,rfl,a,_,0,_,rfl,rfl,hT,rfl,_,rfl,zl,fun t ht=>?_⟩
       have t1:=Same.new (o:=HO.tup [lv,V.ref bn]) ht
       refine ⟨_,rfl,_,rfl,a,_,1,_,rfl,rfl,t1.seqT hT,rfl,dA,bm,kvs,m,rfl,rfl,hDt.same t1,hkm.same t1,smallM (by omega),fun xs ep hD7=>?_⟩
       obtain ⟨⟨xs0,ep0,he0,_⟩,_⟩:=hDt.same t1
       have s67:∀ a' xs',SqT K H6 a' xs'→SqT K (upd (upd H6 t (.tup [lv,V.ref bn])) dA (.ext (dφ P w false dA xs ep))) a' xs':=fun a' xs' z=>seqT_put he0 _ _ (t1.seqT z)
       have hlF7:upd (upd H6 t (.tup [lv,V.ref bn])) dA (.ext (dφ P w false dA xs ep)) lF=some (.lst farV):=by
        rw [upd_ne (ne_of (t1 _ _ I6.lF) he0 (by intro z;cases z))]
        exact t1 _ _ I6.lF
       have other:∀ {l':Addr}{zs:List V},H6 l'=some (.lst zs)→l'≠lF→upd (upd (upd H6 t (.tup [lv,V.ref bn])) dA (.ext (dφ P w false dA xs ep))) lF (.lst (farV++[V.ref bm])) l'=some (.lst zs):=fun {l' zs} h hne=>by
        rw [upd_ne hne,upd_ne (ne_of (t1 _ _ h) he0 (by intro z;cases z))]
        exact t1 _ _ h
       refine ⟨_,rfl,.inl ⟨rfl,_,SqL.of hlF7⟩,_,rfl,a,_,1,_,rfl,rfl,s67 _ _ hT,rfl,lF,_,_,rfl,rfl,hlF7,smallM (by omega),?_⟩
       have s68:∀ a' xs',SqT K H6 a' xs'→SqT K (upd (upd (upd H6 t (.tup [lv,V.ref bn])) dA (.ext (dφ P w false dA xs ep))) lF (.lst (farV++[V.ref bm]))) a' xs':=fun a' xs' z=>seqT_putL hlF7 _ _ (s67 _ _ z)
       have ht7:SqT K (upd (upd H6 t (.tup [lv,V.ref bn])) dA (.ext (dφ P w false dA xs ep))) t [lv,.ref bn]:=seqT_put he0 _ _ (SqT.of upd_same)
       have at3:ArrAt P w K (upd (upd (upd H6 t (.tup [lv,V.ref bn])) dA (.ext (dφ P w false dA xs ep))) lF (.lst (farV++[V.ref bm]))) g.Lab dA (arr2++[(m,lsn++[l])]) :=
        (ArrAt.add hpr hnm s67 hD7 ht7 hLab (hkn6.mono s67) hm2).putL hlF7
       refine (hI2 _ _ _).2 ⟨arr2++[(m,lsn++[l])],farV++[V.ref bm],far++[m],_,rfl,⟨?_,at3,A3,un3,other I6.lN hNF,paired_imp (fun _ _ x=>x.mono s68) I6.nv,upd_same,paired_snoc (paired_imp (fun _ _ x=>x.mono s68) I6.fv) ⟨bm,rfl,hkm.mono s68⟩,fun x hx=>List.mem_append_left _ (I6.sub x hx),?_,?_,?_,?_,?_⟩,
        fun x hx=>List.mem_append_left _ (hsub x hx),other hD6 hDF,paired_imp (fun _ _ x=>x.mono s68) hSt6,hkn6.mono s68,next (fun x hx=>List.mem_append_left _ hx) ⟨_,List.mem_append_right _ (List.mem_singleton.mpr rfl),by rw [List.length_append,hln];exact Nat.le_refl _⟩⟩
       ·exact (((I6.same.trans t1).put L.newA).put newF)
       ·intro n' ls' h
        rcases List.mem_append.mp h with h | h
        ·exact I6.le n' ls' h
        ·have h':=List.mem_singleton.mp h
         cases h'
         rw [List.length_append,hln]
         exact Nat.le_refl _
       ·intro n' ls' h hle
        rcases List.mem_append.mp h with h | h
        ·exact I6.old n' ls' h hle
        ·have h':=List.mem_singleton.mp h
         cases h'
         rw [List.length_append,hln,List.length_singleton] at hle
         omega
       ·intro n' h
        rcases List.mem_append.mp h with h | h
        ·obtain ⟨ls,h1,h2⟩:=I6.on n' h
         exact ⟨ls,List.mem_append_left _ h1,h2⟩
        ·rw [List.mem_singleton.mp h]
         exact ⟨_,List.mem_append_right _ (List.mem_singleton.mpr rfl),by rw [List.length_append,hln];rfl⟩
       ·intro n' ls' h hle
        rcases List.mem_append.mp h with h | h
        ·exact List.mem_append_left _ (I6.off n' ls' h hle)
        ·have h':=List.mem_singleton.mp h
         cases h'
         exact List.mem_append_right _ (List.mem_singleton.mpr rfl)
       ·rw [List.length_append,List.length_append,I6.size]
        simp
        omega
      ·have hs:(valN kvs m).isSome=true:=by
        cases hv:valN kvs m with
        | none=>rw [hv] at c;exact absurd rfl c
        | some v=>rfl
       obtain ⟨ls,hm⟩:=has_of hpr hs
       exact (hI2 _ _ _).2 ⟨arr2,farV,far,_,rfl,I6,hsub,hD6,hSt6,hkn6,next (fun x hx=>hx) ⟨ls,hm,I6.le m ls hm⟩⟩
     ·intro σ H6 zz
      obtain ⟨arr2,farV,far,o7,rfl,I6,hsub,hD6,hSt6,hkn6,hsofar⟩:=(hI2 _ _ _).1 zz
      refine hN2 _ _ ((hI1 _ _ _).2 ?_)
      refine ⟨arr2,farV,far,_,_,rfl,I6,fun j n' hj e=>?_⟩
      by_cases hlt:j < i
      ·exact (hdone j n' hlt e).more hsub
      ·have:j=i:=by omega
       subst this
       rw [hni] at e
       cases e
       refine ⟨hfin,fun l m hm=>?_⟩
       obtain ⟨j',hj',e'⟩:=List.getElem_of_mem hm
       exact hsofar j' l m (by omega) (by rw [List.getElem?_eq_getElem hj',e'])
   ·intro σ H3 zz
    obtain ⟨arr',farV,far,o6,o7,rfl,I,hdone⟩:=(hI1 _ _ _).1 zz
    have h1:=I.A.keys_le I.un
    have h2:=I.size
    refine ⟨_,rfl,hN1 _ _ ⟨2 * (g.univ.length-arr'.length)+(if far=[] then 0 else 1),?_,(hW _ _ _).2 ⟨lF,d+1,arr',farV,far,_,_,_,rfl,⟨I.same,L.newA,newF,I.at',I.A,I.un,I.lF,I.fv,I.le,I.on,I.off,fun n ls h hl=>?_⟩,rfl⟩⟩⟩
    ·cases far with
     | nil=>simp at h2 ⊢;omega
     | cons n r=>simp at h2 ⊢;omega
    ·have hold:=I.old n ls h (by omega)
     by_cases hd:ls.length=d
     ·obtain ⟨j,hj,e⟩:=List.getElem_of_mem (L.off n ls hold hd)
      rw [hd]
      exact hdone j n (by omega) (by rw [List.getElem?_eq_getElem hj,e])
     ·have hlt:ls.length < d:=by
       have:=L.le n ls hold
       omega
      exact (L.done n ls hold hlt).more I.sub
  ·have hn0:nodes=[]:=by
    have:=of_decide_eq_false (Bool.eq_false_iff.mpr c)
    cases hno:nodes with
    | nil=>rfl
    | cons n r =>
     rw [hno,List.length_cons] at hnl
     omega
   refine hR0 _ _ (qN H2 L.same fun ls m hw=>none_left L.A (fun n ls h=>L.done n ls h ?_) hw)
   have h1:=L.le n ls h
   by_cases hd:ls.length=d
   ·have:=L.off n ls h hd
    rw [hn0] at this
    cases this
   ·omega
end
end My
namespace L2
open PySem PySem.Spec PyProof.Rows
theorem triples_snoc:∀ (l:List Value),TriplesOk l→∀ (a b:Int) (c:Value),TriplesOk (l++[rawInt a,rawInt b,c]):=by
 intro l
 fun_induction TriplesOk l with
 | case1=>intro _ a b c;simp [TriplesOk,rawInt]
 | case2 i t j u c rest ih =>
  intro h a b c'
  show TriplesOk (rest++_)
  exact ih h a b c'
 | case3=>intro h;exact absurd h (by simp)
theorem codeAmong_other {p q:Pos} (hne:¬(q.line=p.line∧q.col=p.col)):∀ (l:List Value),TriplesOk l→∀ (c:Value),codeAmong p (l++[rawInt q.line,rawInt q.col,c])=codeAmong p l:=by
 intro l
 fun_induction TriplesOk l with
 | case1 =>
  intro _ c
  simp [codeAmong,rawInt]
  omega
 | case2 i t j u c rest ih =>
  intro h c'
  simp only [List.cons_append,codeAmong]
  rw [ih h c']
 | case3=>intro h;exact absurd h (by simp)
theorem upd_none {H:Hp}{a b:Addr}{o:HO} (h:upd H a o b=none):H b=none:=by
 unfold upd at h
 split at h
 ·cases h
 ·exact h
def Sam (H H':Hp):Prop:=∀ b o,(∀ ps,o≠HO.tbl ps)→H b=some o→H' b=some o
theorem Same.sam {H H':Hp} (s:Same H H'):Sam H H':=fun b o _ h=>s b o h
theorem Sam.refl (H:Hp):Sam H H:=fun _ _ _ h=>h
theorem Sam.trans {H H1 H2:Hp} (a:Sam H H1) (b:Sam H1 H2):Sam H H2:=fun c o n h=>b c o n (a c o n h)
theorem Sam.put {H H':Hp}{l:Addr}{o:HO} (s:Sam H H') (h:H l=none):Sam H (upd H' l o):=fun b u n e=>by
 rw [upd_ne (ne_of_none e h)]
 exact s b u n e
theorem Sam.tbl {H:Hp}{P:Addr}{ps:Array Value}{o:HO} (h:H P=some (.tbl ps)):Sam H (upd H P o):=fun b u n e=>by
 rw [upd_ne (fun z=>by rw [z,h] at e;exact n ps (Option.some.inj e).symm)]
 exact e
theorem Sam.lst {H H':Hp} (s:Sam H H') {a:Addr}{xs:List V} (h:H a=some (.lst xs)):H' a=some (.lst xs):=s _ _ (by intro _ z;cases z) h
theorem Sam.tup {H H':Hp} (s:Sam H H') {a:Addr}{xs:List V} (h:H a=some (.tup xs)):H' a=some (.tup xs):=s _ _ (by intro _ z;cases z) h
theorem Sam.ext {H H':Hp} (s:Sam H H') {a:Addr}{φ:Heap→Prop} (h:H a=some (.ext φ)):H' a=some (.ext φ):=s _ _ (by intro _ z;cases z) h
theorem _root_.My.SchAt.sam {H H':Hp}{v:V}{b:Int}{ts:List My.Tab} (s:Sam H H') (h:My.SchAt H v b ts):My.SchAt H' v b ts:=by
 obtain ⟨a,w,e,h,a1,vs,e1,h1,p1⟩:=h
 refine ⟨a,w,e,s.tup h,a1,vs,e1,s.tup h1,My.paired_imp (fun x t hx=>?_) p1⟩
 obtain ⟨a2,vs2,e2,h2,p2⟩:=hx
 refine ⟨a2,vs2,e2,s.tup h2,My.paired_imp (fun x r hx=>?_) p2⟩
 obtain ⟨a3,e3,h3⟩:=hx
 exact ⟨a3,e3,s.tup h3⟩
structure TabSt (H:Hp) (P:Addr) (qs:List (Pos×Str)):Prop where
 ex:∃ ps,H P=some (.tbl ps)∧TriplesOk ps.toList∧∀ q∈qs,∀ cv,codeAmong q.1 ps.toList=some cv→∃ c,cv=.ref c∧H c=some (.ext (cdφ c q.2))
theorem TabSt.same {H H':Hp}{P:Addr}{qs:List (Pos×Str)} (s:Same H H') (h:TabSt H P qs):TabSt H' P qs:=by
 obtain ⟨ps,h1,h2,h3⟩:=h
 exact ⟨ps,s _ _ h1,h2,fun q hq cv e=>by obtain ⟨c,e1,e2⟩:=h3 q hq cv e;exact ⟨c,e1,s _ _ e2⟩⟩
def farPos (p q:Pos):Bool:=!(q.line == p.line&&q.col == p.col)
theorem tDef_of {i:Nat}{P:Addr}{qual:Str}{pos:Pos}{mk:Addr→Value→Value→Value→FuncData}{D:Ends}{σ:St}{H:Hp}{qs:List (Pos×Str)} (T:TabSt H P qs) (hm:(pos,qual)∈qs) (hfar:∀ q∈qs,q≠(pos,qual)→farPos q.1 pos=true)
  (next:∀ f c doc pm ct H',Sam H H'→TabSt H' P qs→H f=none→H' f=some (.ext (fnφ f (mk c doc pm ct)))→H' c=some (.ext (cdφ c qual))→(∀ b,H' b=none→H b=none)→D.nx (σ.set i (some (.ref f))) H'):tDef i P qual pos mk D σ H:=by
 obtain ⟨ps,h1,h2,h3⟩:=T
 refine ⟨ps,h1,h2,?_⟩
 cases hc:codeAmong pos ps.toList with
 | none =>
  refine .inl ⟨rfl,fun f c doc pm ct hf hc' hcf=>next f c doc pm ct _ (((Sam.tbl h1).put hc').put hf) ?_ hf upd_same (by rw [upd_ne hcf];exact upd_same) fun b e=>?_⟩
  ·have hPc:P≠c:=ne_of_none h1 hc'
   have hPf:P≠f:=ne_of_none h1 hf
   refine ⟨ps++#[rawInt pos.line,rawInt pos.col,.ref c],?_,?_,fun q hq cv e=>?_⟩
   ·rw [upd_ne hPf,upd_ne hPc]
    exact upd_same
   ·rw [Array.toList_append]
    exact triples_snoc _ h2 _ _ _
   ·rw [Array.toList_append] at e
    by_cases hqe:q=(pos,qual)
    ·subst hqe
     have e':=codeAmong_snoc (c:=Value.ref c) _ h2 hc
     have e2:codeAmong pos (ps.toList++[rawInt pos.line,rawInt pos.col,Value.ref c])=some cv:=e
     rw [e'] at e2
     cases e2
     exact ⟨c,rfl,by rw [upd_ne hcf];exact upd_same⟩
    ·have hp:=hfar q hq hqe
     unfold farPos at hp
     have e':=codeAmong_other (p:=q.1) (q:=pos) (by
      simp only [Bool.not_eq_true',Bool.and_eq_false_iff,beq_eq_false_iff_ne] at hp
      omega) _ h2 (Value.ref c)
     have e2:codeAmong q.1 (ps.toList++[rawInt pos.line,rawInt pos.col,Value.ref c])=some cv:=e
     rw [e'] at e2
     obtain ⟨c',e1,e3⟩:=h3 q hq cv e2
     refine ⟨c',e1,?_⟩
     rw [upd_ne (ne_of_none e3 hf),upd_ne (ne_of_none e3 hc'),upd_ne (ne_of e3 h1 (by intro z;cases z))]
     exact e3
  ·exact upd_none (upd_none (upd_none e))
 | some cv =>
  obtain ⟨c,rfl,hcx⟩:=h3 _ hm cv hc
  refine .inr ⟨c,rfl,fun f doc pm ct hf=>next f c doc pm ct _ ((Sam.refl H).put hf) ?_ hf upd_same (by rw [upd_ne (ne_of_none hcx hf)];exact hcx) fun b e=>?_⟩
  ·exact TabSt.same (Same.new hf) ⟨ps,h1,h2,h3⟩
  ·exact upd_none e
def freesOk (scope around:Scope):Bool:=scope.names.all fun x=>!(x.2 == .free)||(around.names.lookup x.1 == some .cell||around.names.lookup x.1 == some .free)
theorem hfree_of {scope around:Scope} (h:freesOk scope around=true):∀ x∈scope.names,x.2=.free→around.names.lookup x.1=some .cell∨around.names.lookup x.1=some .free:=fun x hx e=>by
 have:=List.all_eq_true.mp h x hx
 rw [e] at this
 simpa using this
def farOk (qs:List (Pos×Str)) (pos:Pos) (qual:Str):Bool:=qs.all fun q=>decide (q.2=qual)&&decide (q.1=pos)||farPos q.1 pos
theorem far_of {qs:List (Pos×Str)}{pos:Pos}{qual:Str} (h:farOk qs pos qual=true):∀ q∈qs,q≠(pos,qual)→farPos q.1 pos=true:=fun q hq hne=>by
 have:=List.all_eq_true.mp h q hq
 rw [Bool.or_eq_true,Bool.and_eq_true] at this
 rcases this with ⟨h1,h2⟩ | h
 ·exact absurd (Prod.ext (of_decide_eq_true h2) (of_decide_eq_true h1)) hne
 ·exact h
theorem cellsAt_of {X:Cx}{pins:List (Addr×Obj)}{σ:St}{H:Hp}{s:Shared}{scope:Scope}{frees:List Str}{fvs:List V} (I:Inv X pins σ H s)
  (hv:∀ (i:Nat) x v,frees[i]? = some x→fvs[i]? = some v→(x,NameKind.free)∈scope.names∧(X.env.scope.names.lookup x=some .cell∨X.env.scope.names.lookup x=some .free)∧∃ j:Nat,X.N[j]? = some x∧σ[j]? = some (some v)) :
  CellsAt s H (closOf X.env.cells scope.names []) frees fvs:=by
 have good:=closOf_good (cells:=X.env.cells) scope.names [] (fun x c e=>by simp at e)
 refine ⟨fun x y c h1 h2=>I.ok.inj x y c (good x c h1) (good y c h2),fun x c h=>I.freeC x c (good x c h),fun x c h=>I.cell x c (good x c h),fun i x v h1 h2=>?_⟩
 obtain ⟨hm,hk,j,hj1,hj2⟩:=hv i x v h1 h2
 obtain ⟨c0,hc0⟩:=I.ok.has x hk
 obtain ⟨c,hc⟩:=Option.isSome_iff_exists.mp (closOf_has (cells:=X.env.cells) scope.names [] x hm (by rw [hc0];rfl))
 have hc':=good x c hc
 rw [hc0] at hc'
 cases hc'
 obtain ⟨m,hn,hl⟩:=I.loc
 obtain ⟨u,r,l⟩:=hl j x v hj1 hj2 (.inr hk)
 rcases l with ⟨l,_⟩ | ⟨_,c2,ec,z⟩
 ·rcases hk with q | q
  ·exact absurd (l.symm.trans q) (by decide)
  ·exact absurd (l.symm.trans q) (by decide)
 ·rw [hc0] at ec
  cases ec
  exact ⟨c0,u,hc,z,r⟩
end L2
namespace L2
open PySem PySem.Spec PyProof.Rows
theorem Fun.okT {P:Program}{w:World}{K:PySem.W.Frag}{mg:Str→Option Value}{base:Heap}{x qual:Str}{st:Stmt}{f c:Addr}{fd:FuncData}{N ps:List Str}{k:Nat}{sp:Sp} (F:Fun K x qual st f fd) (hfd:fd.code=.ref c) (S:FnScope N ps (defScope st)) (len:∀ vs H Q E,sp vs H Q E→vs.length=ps.length)
  (hbody:∀ (A:Around) (outer:List Env) (s:Shared) (H:Hp) (vs:List V) (Q:VK) (E:XK),Room k (A.deeper (envOfC qual (defScope st) s.heap.objs.size f (.ref c)))→sp vs H Q E →
   ∃ t,PSs (cxOf CX0 P w K mg base N qual (defScope st) f (.ref c) A outer s H E).nox (defBody st) t∧t { nx:=fun _ H'=>Q .non H',rt:=Q } (start N vs) H):FnOk P w K mg base CX0 (k+1) f fd ps sp:=by
 obtain ⟨oc,od,kV,doc,pm,an,cdv,ct,osl,rfl,lk,hcd⟩:=F.ex
 obtain rfl:cdv=.ref c:=hfd
 refine fn_of lk hcd S len fun A outer s H vs Q E hr hsp=>?_
 obtain ⟨t,h,q⟩:=hbody A outer s H vs Q E hr hsp
 exact ⟨t,h.nox,q⟩
theorem law_callT {P:Program}{w:World}{K:PySem.W.Frag}{mg mb:Str→Option Value}{CX:CXT}{k:Nat}{fa a:Addr}{fd:FuncData}{x:Str}{sp:Sp}{s₁:Shared}{vs:List Value}{ns:List Int}{tabs:List (Addr×Addr)}
  (KX:K.In s₁.heap) (hns:s₁.heap.Ns mainGlobals mg) (hb:s₁.heap.Ns builtinsNs mb) (hbb:∀ x:Str,x≠"__name__"→mb x=bootBuiltins x) (hlim:s₁.heap.NoLimit) (hg:s₁.gens=#[])
  (ha:s₁.heap.get? a=some { cls:=.type "list",data:=.seq vs.toArray }) (hi:IntsAre vs ns) (hl:ns.length≤sizeLine) (hr:Room k callerA) (hT:PySem.W.TabsAt tabs s₁.heap) (hK:PySem.W.noTabs K=true) (BM:BMain mg s₁.heap)
  (F:∀ base:Heap,K.In base→base.Ns mainGlobals mg→BMain mg base→(∀ q∈tabs,PySem.W.CodeHd base q.1 q.2)→FnOk P w K mg base CX k fa fd [x] sp) (hbind:∀ (s:Shared) (u:Value),BindsTo s fd ⟨[u],[]⟩ [(x,u)])
  (hsp:∀ H:Hp,SqL K H a (ns.map V.int)→(∀ q∈tabs,H q.2=some (.tbl #[]))→sp [.ref a] H (fun v _=>v=.bl true) fun _ _ _=>False)
  (hCX:∀ H e s',CX [] H s₁ (fun _ _ _=>False) e s'→False) :
  codeAny (model P w) callerA (.call (.ref fa) ⟨[.ref a],[]⟩) (fun r s'=>r=.ok (.ret (.bool true))∧OldK s₁.heap s'.heap∧s'.os=s₁.os∧AllBare s'.gens) s₁:=by
 have rv:=vals_ints hi
 have lenV:=hi.length
 have tabO:∀ b∈tabs.map (·.2),s₁.heap.get? b=some (PySem.W.tabObj #[]):=fun b h=>by
  obtain ⟨q,hq,rfl⟩:=List.mem_map.mp h
  exact (hT q hq).2
 have hat:a∉tabs.map (·.2):=fun h=>by
  have:=tabO a h
  rw [ha] at this
  cases this
 have core:∀ H:Hp,(∀ b,H b=none∨(b=a∧H b=some (.frz { cls:=.type "list",data:=.seq vs.toArray } (.lst (ns.map V.int))))∨(b∈tabs.map (·.2)∧H b=some (.tbl #[])))→(∀ b∈tabs.map (·.2),H b=some (.tbl #[]))→SqL K H a (ns.map V.int)→(H a≠none→K.lookup a=none) →
   codeAny (model P w) callerA (.call (.ref fa) ⟨[.ref a],[]⟩) (fun r s'=>r=.ok (.ret (.bool true))∧OldK s₁.heap s'.heap∧s'.os=s₁.os∧AllBare s'.gens) s₁:=by
  intro H hO hOt hS hKa
  have hok:HOk P w H s₁.heap:=fun b u e=>by
   rcases hO b with z | ⟨rfl,z⟩ | ⟨hb,z⟩
   ·rw [z] at e;cases e
   ·rw [z] at e;cases e
    exact ⟨ha,by rw [List.length_map];exact hl,vs,_,rv,ha⟩
   ·rw [z] at e;cases e
    exact tabO b hb
  have base_of:∀ {b:Addr}{o:Obj},s₁.heap.get? b=some o→H b=none→(hidT s₁.heap H).get? b=some o:=fun e n=>hidT_get e n
  have none_of:∀ {b:Addr}{o:Obj},s₁.heap.get? b=some o→o≠{ cls:=.type "list",data:=.seq vs.toArray }→o≠PySem.W.tabObj #[]→H b=none:=fun {b o} e n1 n2=>by
   rcases hO b with z | ⟨rfl,z⟩ | ⟨hb,z⟩
   ·exact z
   ·rw [ha] at e;exact absurd (Option.some.inj e).symm n1
   ·rw [tabO b hb] at e;exact absurd (Option.some.inj e).symm n2
  have noA:∀ {b:Addr}{o:Obj}{es:Array DictEntry}{ep:Nat},s₁.heap.get? b=some o→o.data=.dict es ep→H b=none:=fun {b o es ep} e d=>none_of e (fun z=>by rw [z] at d;cases d) fun z=>by rw [z] at d;cases d
  have nsK:∀ {b:Addr}{m:Str→Option Value},s₁.heap.Ns b m→(hidT s₁.heap H).Ns b m:=fun {b m} ⟨o,es,ep,e,d,r⟩=>⟨o,es,ep,base_of e (noA e d),d,r⟩
  have hKb:K.In (hidT s₁.heap H):=fun b o e=>base_of (KX b o e) (by
   rcases hO b with z | ⟨rfl,z⟩ | ⟨hb,z⟩
   ·exact z
   ·rw [hKa (by rw [z];simp)] at e;cases e
   ·have e2:=KX b o e
    rw [tabO b hb] at e2
    cases e2
    have h2:=List.all_eq_true.mp hK (b,PySem.W.tabObj #[]) (PySem.W.mem_of_lookupK e)
    exact absurd (show false=true from h2) Bool.false_ne_true)
  have hM:Mod K mg (hidT s₁.heap H):=⟨hKb,nsK hns,⟨mb,nsK hb,hbb⟩,let ⟨mc,h1,h2⟩:=hlim;⟨mc,nsK h1,h2⟩⟩
  have hBM:BMain mg (hidT s₁.heap H):=by
   obtain ⟨bm,ob,b1,b2,b3,b4,b5,b6⟩:=BM.at'
   exact ⟨bm,ob,b1,b2,base_of b3 (none_of b3 (fun z=>by rw [z] at b6;cases b6) fun z=>by rw [z] at b6;cases b6),b4,b5,b6⟩
  have hCH:∀ q∈tabs,PySem.W.CodeHd (hidT s₁.heap H) q.1 q.2:=fun q hq=>by
   obtain ⟨o,vs',file,tf,flags,tg,inF,text,tt,e1,r1,r⟩:=(hT q hq).1
   exact ⟨o,vs',file,tf,flags,tg,inF,text,tt,base_of e1 (none_of e1 (fun z=>by rw [z] at r1;injection r1 with r1;exact absurd r1 (by decide)) fun z=>by rw [z] at r1;cases r1),r1,r⟩
  have e0:Env0 P w K mg (hidT s₁.heap H) callerA [] s₁ H:=⟨rfl,hM,fun b o e=>of_hidT e,Nat.le_of_eq (hidT_size _ _),trivial,fun b hb=>absurd (show b∈([]:List Addr) from hb) (by simp),hok,.of_eq hg⟩
  refine codeAny_mono ((F _ hKb (nsK hns) hBM hCH).run callerA [] s₁ H ⟨[.ref a],[]⟩ [.ref a] [.ref a] _ _ hr e0 (hbind s₁ (.ref a)) (.cons rfl .nil) (hsp H hS fun q hq=>hOt _ (List.mem_map_of_mem hq))) fun r s' h=>?_
  cases r with
  | error e=>exact (hCX H e s' h).elim
  | ok fl =>
   cases fl with
   | next=>exact False.elim h
   | brk=>exact False.elim h
   | cont=>exact False.elim h
   | ret u =>
    obtain ⟨v,H',os,bare,un,hok',r',q⟩:=h
    have q':v=.bl true:=q
    subst q'
    obtain rfl:u=Value.bool true:=r'
    have grown:∀ b∈tabs.map (·.2),∃ ps,s'.heap.get? b=some (PySem.W.tabObj ps):=fun b hb=>by
     obtain ⟨more,e⟩:=un.tbls b #[] (hOt b hb)
     exact ⟨_,hok' b _ e⟩
    have keep:∀ b o,b∉tabs.map (·.2)→s₁.heap.get? b=some o→s'.heap.get? b=some o:=fun b o hbt e=>by
     rcases hO b with z | ⟨rfl,z⟩ | ⟨hb,z⟩
     ·exact un.keep b o e z (by intro z;exact absurd (show b∈([]:List Addr) from z) (by simp)) (by simp)
     ·have z2:=un.frzs b _ _ z
      obtain ⟨e1,_⟩:=hok b _ z
      obtain ⟨e2,_⟩:=hok' b _ z2
      rw [e] at e1;cases e1
      exact e2
     ·exact absurd hb hbt
    refine ⟨rfl,⟨fun b o e=>?_,fun b o e=>?_⟩,os,bare⟩
    ·by_cases hbt:b∈tabs.map (·.2)
     ·obtain ⟨ps,hP⟩:=grown b hbt
      have e2:=tabO b hbt
      rw [e] at e2
      cases e2
      obtain ⟨q,hq,rfl⟩:=List.mem_map.mp hbt
      exact .inr (.inl ⟨((hT q hq).1.tab (hT q hq).2).isCodeTable,rfl,#[],ps,rfl,by rw [Array.empty_append];exact hP⟩)
     ·exact .inl (keep b o hbt e)
    ·by_cases hbt:b∈tabs.map (·.2)
     ·obtain ⟨ps,hP⟩:=grown b hbt
      exact ⟨_,hP⟩
     ·exact ⟨o,keep b o hbt e⟩
 cases hk:K.lookup a with
 | some o =>
  have e:=KX a o hk
  rw [ha] at e
  cases e
  refine core (fun b=>if b∈tabs.map (·.2) then some (.tbl #[]) else none) (fun b=>?_) (fun b h=>if_pos h) (.inr ⟨_,vs.toArray,_,hk,rfl,rfl,rfl,by rw [List.size_toArray,lenV];exact hl,by simpa using rv⟩) fun z=>absurd (if_neg hat) z
  by_cases h:b∈tabs.map (·.2)
  ·exact .inr (.inr ⟨h,if_pos h⟩)
  ·exact .inl (if_neg h)
 | none =>
  refine core (fun b=>if b=a then some (.frz { cls:=.type "list",data:=.seq vs.toArray } (.lst (ns.map V.int))) else if b∈tabs.map (·.2) then some (.tbl #[]) else none) (fun b=>?_) (fun b h=>?_) (.inl (.inr ⟨{ cls:=.type "list",data:=.seq vs.toArray },if_pos rfl⟩)) fun _=>hk
  ·by_cases hb:b=a
   ·exact .inr (.inl ⟨hb,if_pos hb⟩)
   ·by_cases h:b∈tabs.map (·.2)
    ·exact .inr (.inr ⟨h,by rw [if_neg hb,if_pos h]⟩)
    ·exact .inl (by rw [if_neg hb,if_neg h])
  ·rw [if_neg (fun z=>hat (by rw [← z];exact h)),if_pos h]
theorem walk_ofT {l:PySem.W.OpenLaw}{n k:Nat}{q:Program}{loose:List Str}{XP:(Str→Option Value)→Heap→Prop}{YP:World→Heap→Prop}{d:DefRec}{K:Params→PySem.W.Frag}{CX:World→CXT}{sp:World→Sp}{x:Str}{tabs:List (Addr×Addr)}
  (hn:l.most=some n) (hn2:n≤sizeLine) (hdf:d.params.defaults=[]) (hr:Room k callerA)
  (hY:∀ (w:World) (h:Heap),YP w h→(K w.params).In h) (hT:∀ (w:World) (mg mb:Str→Option Value) (mean:ExcName→Option Value) (h:Heap),(K w.params).In h→Top q (PySem.W.looseW q loose) mean mg mb h→PySem.W.TabsAt tabs h) (hK:∀ w:World,PySem.W.noTabs (K w.params)=true)
  (F:∀ (w:World) (mg:Str→Option Value) (fa:Addr) (h:Heap),(K w.params).In h→h.Ns mainGlobals mg→mg d.name=some (.ref fa) →
   ∃ fd:FuncData,(∀ (s:Shared) (u:Value),BindsTo s fd ⟨[u],[]⟩ [(x,u)]) ∧
    ∀ base:Heap,(K w.params).In base→base.Ns mainGlobals mg→BMain mg base→(∀ q∈tabs,PySem.W.CodeHd base q.1 q.2)→FnOk l.prog w (K w.params) mg base (CX w) k fa fd [x] (sp w))
  (hsp:∀ (w:World) (H:Hp) (a:Addr) (ns:List Int),ns.length≤n→SqL (K w.params) H a (ns.map V.int)→(∀ q∈tabs,H q.2=some (.tbl #[]))→sp w [.ref a] H (fun v _=>v=.bl true) fun _ _ _=>False)
  (hCX:∀ (w:World) (H:Hp) (s:Shared) (e:Value) (s':Shared),CX w [] H s (fun _ _ _=>False) e s'→False) :
  PySem.W.WalkO q loose XP YP l.row.toRowW d [] (fun f vs=>PySem.call f vs):=by
 refine Att.attach_call hn hdf fun w s₀ s₁ mg mb fa o pm cd doc a vs ns G Y ho hd hcd hmg hobj hints hlen hg=>?_
 have KX:=hY w _ Y
 obtain ⟨fd,hb,hF⟩:=F w mg fa _ KX G.T.g hmg
 obtain ⟨bm,ob,b1,b2,b3,b4,b5,b6⟩:=G.T.bmain
 exact law_callT KX G.T.g G.T.b G.T.builtins G.T.nolimit hg hobj hints (Nat.le_trans hlen hn2) hr (hT w mg mb _ _ KX G.T) (hK w) ⟨bm,ob,b1,b2,b3,b4,b5,b6⟩ hF hb (fun H hS hTb=>hsp w H a ns hlen hS hTb) fun H e s'=>hCX w H s₁ e s'
end L2
namespace L2
open PySem PySem.Spec PyProof.Rows
theorem closOf_mem {cells:List (Str×Addr)}:∀ (names:List (Str×NameKind)) (cs:List (Str×Addr)) (x:Str) (c:Addr),(closOf cells names cs).lookup x=some c→(x,NameKind.free)∈names∨cs.lookup x=some c
 | [],_,_,_,h=>.inr h
 | (n,k) :: r,cs,x,c,h=>by
  rcases closOf_mem r _ x c h with h | h
  ·exact .inl (List.mem_cons_of_mem _ h)
  ·split at h
   ·rename_i hk
    have hk':k=.free:=by simpa using hk
    split at h
    ·rw [List.lookup_cons] at h
     split at h
     ·rename_i hx
      have hx':x=n:=by simpa using hx
      rw [hx',hk']
      exact .inl List.mem_cons_self
     ·exact .inr h
    ·exact .inr h
   ·exact .inr h
abbrev TR:=(V→St→Hp→Prop)→St→Hp→Prop
def PSr (X:Cx) (ss:List Stmt) (t:TR):Prop:=∀ (pins:List (Addr×Obj)) (s:Shared) (σ:St) (H:Hp) (R:V→St→Hp→Prop),Inv X pins σ H s→t R σ H →
 wpAny (model X.prog X.w) X.A (execs ss X.env) (fun fl s'=>∃ u v σ' H',fl=Flow.ret u∧Inv X pins σ' H' s'∧RelV v u∧R v σ' H') X.xe s
def rCons (t:TS) (u:TR):TR:=fun R σ H=>t { nx:=u R,rt:=fun _ _=>False } σ H
def rRet (te:TE):TR:=fun R σ H=>te σ H fun v H1=>R v σ H1
section
variable {X:Cx}{st:Stmt}{rest:List Stmt}{t:TS}{u:TR}{e:Expr}{te:TE}{pos:Pos}
theorem psr_cons (h1:PS X st t) (h2:PSr X rest u):PSr X (st :: rest) (rCons t u):=by
 intro pins s σ H R I h
 refine wpAny_execs_cons (thn (h1 pins s σ H _ I h) fun f s1 q=>?_)
 cases f with
 | next =>
  obtain ⟨σ',H',I',q⟩:=q
  exact h2 pins s1 σ' H' R I' q
 | ret v =>
  obtain ⟨_,_,_,_,_,q⟩:=q
  exact False.elim q
 | brk =>
  obtain ⟨_,_,_,q⟩:=q
  exact False.elim q
 | cont =>
  obtain ⟨_,_,_,q⟩:=q
  exact False.elim q
theorem psr_ret (he:PE X e te):PSr X [.Return (some e) pos] (rRet te):=by
 intro pins s σ H R I h
 refine wpAny_execs_cons (wpAny_Return_some (thnE (he pins s σ H _ I h) fun v s1 x H1 I1 r1 q1=>?_))
 exact ⟨v,x,σ,H1,rfl,I1,r1,q1⟩
theorem PSr.nox {ss:List Stmt} (h:PSr X.nox ss u):PSr X ss u:=fun pins s σ H R I hw =>
 wpAny_mono (h pins s σ H R (I.wish _) hw) (fun _ _ ⟨u,v,σ',H',e,I',r,q⟩=>⟨u,v,σ',H',e,I'.unwish,r,q⟩) fun _ _ z=>False.elim z
end
structure Trk (X:Cx) (σ:St) (H' H'':Hp):Prop where
 old:Same H' H''
 new:∀ b,H'' b=none→H' b=none
 clo:∀ (scope:Scope) (frees:List Str) (fvs:List V),fvs.length=frees.length→(∀ y∈scope.names,y.2=.free→y.1∈frees) →
  (∀ (i:Nat) x v,frees[i]? = some x→fvs[i]? = some v→(x,NameKind.free)∈scope.names∧(X.env.scope.names.lookup x=some .cell∨X.env.scope.names.lookup x=some .free)∧∃ j:Nat,X.N[j]? = some x∧σ[j]? = some (some v)) →
  CellsX H'' (closOf X.env.cells scope.names []) frees fvs
open Classical in
theorem trk_of {X:Cx}{pins:List (Addr×Obj)}{σ:St}{H:Hp}{s:Shared} (I:Inv X pins σ H s) (hfn:∀ x,X.fn x=true):∃ H'',Trk X σ H H''∧HOk X.prog X.w H'' s.heap∧Un X.fs X.ex X.H₀ H'' X.s₀.heap s.heap:=by
 let Cc:Addr→Prop:=fun b=>∃ (u:Value) (x:Str),X.env.cells.lookup x=some b∧s.heap.IsCell b (some u)
 let H2:Hp:=fun b=>if h:Cc b then some (.ext (clφ b (Classical.choose h))) else H b
 have inn:∀ b u x,X.env.cells.lookup x=some b→s.heap.IsCell b (some u)→H2 b=some (.ext (clφ b u)):=fun b u x e hc=>by
  have h:Cc b:=⟨u,x,e,hc⟩
  obtain ⟨x',_,o,ho,hd⟩:=Classical.choose_spec h
  obtain ⟨o',ho',hd'⟩:=hc
  rw [ho] at ho'
  cases ho'
  rw [hd] at hd'
  have eu:Classical.choose h=u:=by injection hd' with z;injection z
  show (if h:Cc b then some (HO.ext (clφ b (Classical.choose h))) else H b)=_
  rw [dif_pos h,eu]
 have out:∀ b,¬Cc b→H2 b=H b:=fun b h=>dif_neg h
 have nC:∀ b o,H b=some o→¬Cc b:=fun b o e ⟨u,x,hx,_⟩=>by
  have:=I.freeC x b hx
  rw [e] at this
  cases this
 have old:∀ b o,H b=some o→H2 b=some o:=fun b o e=>by rw [out b (nC b o e)];exact e
 refine ⟨H2,⟨old,fun b e=>?_,fun scope frees fvs hl hfr hv=>?_⟩,fun b x e=>?_,?_⟩
 ·by_cases h:Cc b
  ·obtain ⟨u,x,hx,hc⟩:=h
   rw [inn b u x hx hc] at e
   cases e
  ·rw [out b h] at e
   exact e
 ·have good:=closOf_good (cells:=X.env.cells) scope.names [] (fun x c e=>by simp at e)
  have val:∀ (i:Nat) x v,frees[i]? = some x→fvs[i]? = some v→∃ c u,(closOf X.env.cells scope.names []).lookup x=some c∧H2 c=some (.ext (clφ c u))∧RelV v u:=fun i x v h1 h2=>by
   obtain ⟨hm,hk,j,hj1,hj2⟩:=hv i x v h1 h2
   obtain ⟨c0,hc0⟩:=I.ok.has x hk
   obtain ⟨c,hc⟩:=Option.isSome_iff_exists.mp (closOf_has (cells:=X.env.cells) scope.names [] x hm (by rw [hc0];rfl))
   have hc':=good x c hc
   rw [hc0] at hc'
   cases hc'
   obtain ⟨m,hn,hl⟩:=I.loc
   obtain ⟨u,r,l⟩:=hl j x v hj1 hj2 (.inr hk)
   rcases l with ⟨l,_⟩ | ⟨_,c2,ec,z⟩
   ·rcases hk with q | q
    ·exact absurd (l.symm.trans q) (by decide)
    ·exact absurd (l.symm.trans q) (by decide)
   ·rw [hc0] at ec
    cases ec
    exact ⟨c0,u,hc,inn c0 u x hc0 z,r⟩
  refine ⟨fun x y c h1 h2=>I.ok.inj x y c (good x c h1) (good y c h2),fun x c e=>?_,val⟩
  have hm:(x,NameKind.free)∈scope.names:=(closOf_mem scope.names [] x c e).resolve_right (by simp)
  obtain ⟨i,hi⟩:=List.getElem?_of_mem (hfr _ hm rfl)
  have hil:i < fvs.length:=by
   have:=(List.getElem?_eq_some_iff.mp hi).1
   omega
  obtain ⟨c',u,e',q,_⟩:=val i x _ hi (List.getElem?_eq_getElem hil)
  rw [e] at e'
  cases e'
  exact ⟨u,q⟩
 ·by_cases h:Cc b
  ·obtain ⟨u,y,hy,hc⟩:=h
   rw [inn b u y hy hc] at e
   cases e
   exact clφ_ok hc
  ·rw [out b h] at e
   exact (I.hok b x e).stay (fun _ _ _ q=>q) (fun d q=>old d _ q) fun d xs q=>old d _ q
 ·refine ⟨I.base.keep,I.base.slot,fun b o e n hx=>?_,I.base.there,fun b xs e=>old b _ (I.base.tups b xs e),fun b o x e=>old b _ (I.base.frzs b o x e),fun b ps e=>?_⟩
  ·rw [out b (fun ⟨u,x,hx',_⟩=>absurd (Heap.lt_size e) (Nat.not_lt.mpr (I.ok.cab x b (hfn x) hx')))]
   exact I.base.free b o e n hx
  ·obtain ⟨more,e2⟩:=I.base.tbls b ps e
   exact ⟨more,old b _ e2⟩
theorem Fun.okR {P:Program}{w:World}{K:PySem.W.Frag}{mg:Str→Option Value}{base:Heap}{x qual:Str}{st:Stmt}{f c:Addr}{fd:FuncData}{N ps:List Str}{k:Nat}{sp:Sp} (F:Fun K x qual st f fd) (hfd:fd.code=.ref c) (S:FnScope N ps (defScope st))
  (len:∀ vs H Q E,sp vs H Q E→vs.length=ps.length)
  (hbody:∀ (A:Around) (outer:List Env) (s:Shared) (H:Hp) (vs:List V) (Q:VK) (E:XK),Room k (A.deeper (envOfC qual (defScope st) s.heap.objs.size f (.ref c)))→sp vs H Q E →
   ∃ t,PSr (cxOf CX0 P w K mg base N qual (defScope st) f (.ref c) A outer s H E).nox (defBody st) t∧t (fun v σ H'=>∀ H'',Trk (cxOf CX0 P w K mg base N qual (defScope st) f (.ref c) A outer s H E) σ H' H''→Q v H'') (start N vs) H):FnOk P w K mg base CX0 (k+1) f fd ps sp:=by
 obtain ⟨oc,od,kV,doc,pm,an,cdv,ct,osl,rfl,lk,hcd⟩:=F.ex
 obtain rfl:cdv=.ref c:=hfd
 refine ⟨len,fun A outer s H args us vs Q E hr e0 hb r hsp=>?_⟩
 have hl:=len _ _ _ _ hsp
 have KX:K.In s.heap:=e0.mod.kin.keeps fun b o e=>(e0.bs b o e).1
 have lim:s.heap.NoLimit:=e0.mod.nolimit.keeps fun b o e=>(e0.bs b o e).1
 have hkind:∀ y∈ps.zip us,(defScope st).names.lookup y.1=some .local∨((defScope st).names.lookup y.1=some .cell∧((cellsFrom (s.heap.objs.size+1) (defScope st).names []).lookup y.1).isSome=true):=fun ⟨n,v⟩ hy=>by
  rcases S.par n (List.of_mem_zip hy).1 with q | q
  ·exact .inl q
  ·exact .inr ⟨q,PySem.W.cellsFrom_some _ _ _ (.inl q)⟩
 refine codeAny_call_function hr.depth (KX _ _ lk) rfl S.co S.gen rfl (PySem.W.codeRec_of KX hcd) (hb _ _ _ _ ?_)
 refine wpAny_newFunctionEnv_cells S.kind hkind fun env he s1 x=>?_
 subst he
 refine ⟨lim.keeps x.toInCall.keep,codeAny_func ?_⟩
 obtain ⟨t,ht,hq⟩:=hbody A outer s H vs Q E (hr.deeper _) hsp
 have I:Inv (cxOf CX0 P w K mg base N qual (defScope st) f (.ref c) A outer s H E) [] (start N vs) H s1:=inv_start S hr.hd e0 hl r x
 refine wpAny_mono (ht.nox [] s1 (start N vs) H _ I hq) (fun fl s' hs=>?_) fun e s' hs=>hs
 obtain ⟨u,v,σ',H',rfl,J,rv,q⟩:=hs
 obtain ⟨H2,T,ok2,un2⟩:=trk_of J fun _=>rfl
 exact ⟨v,H2,J.os,J.bare,un2,ok2,rv,q H2 T⟩
def CloX (P:Program) (w:World) (K:PySem.W.Frag) (mg:Str→Option Value) (base:Heap) (k:Nat) (f:Addr) (sp:Sp) (H:Hp):Prop :=
 ∃ (fd:FuncData) (p:Str) (frees:List Str) (fvs:List V) (c:Addr),FnOkC P w K mg base k fd p frees fvs sp∧H f=some (.ext (fnφ f fd))∧fd.code=.ref c∧H c=some (.ext (cdφ c fd.qualname))∧CellsX H fd.closure frees fvs
inductive CallX (P:Program) (w:World) (K:PySem.W.Frag) (mg:Str→Option Value) (base:Heap) (k:Nat) (f:Addr) (sp:Sp) (H:Hp):Prop
 | clo {fd:FuncData}{p:Str}{frees:List Str}{fvs:List V}{c:Addr} (F:FnOkC P w K mg base k fd p frees fvs sp) (hf:H f=some (.ext (fnφ f fd))) (hd:fd.code=.ref c) (hc:H c=some (.ext (cdφ c fd.qualname))) (C:CellsX H fd.closure frees fvs)
   (st:∀ v H Q,CellsX H fd.closure frees fvs→sp [v] H Q E0→sp [v] (dropC H fd.closure) (liftQ H fd.closure Q) E0)
 | mod {fd:FuncData}{p:Str} (F:FnOk P w K mg base CX0 k f fd [p] sp) (hk:PySem.W.keepIn K (.ref f)=true) (hb:Binds K fd [p] [])
theorem CallX.same {P:Program}{w:World}{K:PySem.W.Frag}{mg:Str→Option Value}{base:Heap}{k:Nat}{f:Addr}{sp:Sp}{H H':Hp} (h:CallX P w K mg base k f sp H) (s:Same H H'):CallX P w K mg base k f sp H':=by
 cases h with
 | clo F hf hd hc C st=>exact .clo F (s _ _ hf) hd (s _ _ hc) (C.same s) st
 | mod F hk hb=>exact .mod F hk hb
def tCallX (P:Program) (w:World) (K:PySem.W.Frag) (mg:Str→Option Value) (base:Heap) (k i:Nat) (sp:Sp) (t:TA):TE:=fun σ H Q=>∃ f,σ[i]? = some (some (.ref f))∧CallX P w K mg base k f sp H∧t σ H fun vs H1=>∃ v,vs=[v]∧Same H H1∧sp [v] H1 Q E0
theorem pe_callX {X:Cx}{k i:Nat}{x:Str}{e:Expr}{te:TA}{p pos:Pos}{sp:Sp} (P:Program) (w:World) (K:PySem.W.Frag) (mg:Str→Option Value) (base:Heap) (hX:X.prog=P∧X.w=w∧X.K=K∧X.mg=mg∧X.base=base) (hr:Room k X.A) (hN:X.N[i]? = some x)
  (he:PA X [e] te) (hv:Vis X.env.scope x:=by first | exact Or.inl rfl | exact Or.inr (Or.inl rfl) | exact Or.inr (Or.inr rfl)) (hd:(x == ("__debug__" : Str))=false:=by decide) (hcd:(x == ("__classdict__" : Str))=false:=by decide)
  (hs:starEach [e] X.env=(false,eval e X.env) :: starEach [] X.env:=by rfl):PE X (.Call (.Name x p) [e] [] pos) (tCallX P w K mg base k i sp te):=by
 obtain ⟨rfl,rfl,rfl,rfl,rfl⟩:=hX
 intro pins s σ H Q I h
 obtain ⟨f,ef,F,h⟩:=h
 refine wpAny_Call_Name_kw (thnE (pe_var hN hv hd hcd pins s σ H (fun v H'=>v=.ref f∧H'=H) I ⟨_,ef,rfl,rfl⟩) fun fv s1 v H1 I1 r1 zz12=>?_)
 obtain ⟨e1,e2⟩:=zz12
 subst e1 e2
 obtain rfl:fv=Value.ref f:=r1
 cases F with
 | clo F hf hdc hc C st =>
  refine PySem.W.callWith_F (fnAt_of I1 hf) (thn (he pos pins s1 σ H1 _ I1 h) fun us s2 ⟨vs,H2,I2,r,v,ev,s2',q⟩=>⟨fnAt_of I2 (s2' _ _ hf),?_⟩) hs rfl
  subst ev
  obtain ⟨u,rfl,ru⟩:=vals1 r
  obtain ⟨hfn,_,_⟩:=(show ObjOk X.prog X.w H2 s2.heap f (.ext (fnφ f _)) from I2.hok f _ (s2' _ _ hf))
  obtain ⟨hcd2,_,_⟩:=(show ObjOk X.prog X.w H2 s2.heap _ (.ext (cdφ _ _)) from I2.hok _ _ (s2' _ _ hc))
  refine wpAny_call (codeAny_mono (F.runX (outer:=X.stack) hr I2.env0 ru hfn (by rw [hdc];exact hcd2) (C.same s2') (st v H2 Q (C.same s2') q)) fun r s' hq=>?_)
  cases r with
  | error e=>exact hq.elim
  | ok fl =>
   cases fl with
   | ret u=>exact I2.after hq
   | next=>exact False.elim hq
   | brk=>exact False.elim hq
   | cont=>exact False.elim hq
 | mod F hk hb =>
  refine PySem.W.callWith_K (h₀:=X.base) I.ok.mod.kin hk (thnA (he pos pins s1 σ H1 _ I1 h) fun us s2 vs H2 I2 r zz13=>⟨I2.kIn,?_⟩) hs rfl
  obtain ⟨v,ev,s2',q⟩:=zz13
  subst ev
  exact run_fn (dvs:=[]) F hr hb .nil pass0 I2 r q
theorem dropC_nil (H:Hp):dropC H []=H:=by
 funext b
 exact dropC_out fun ⟨x,e⟩=>by simp at e
theorem joinC_nil (H H':Hp):joinC H H' []=H':=by
 funext b
 exact joinC_out fun ⟨x,e⟩=>by simp at e
theorem cellsX_nil (H:Hp):CellsX H [] [] []:=⟨fun x y c e=>by simp at e,fun x c e=>by simp at e,fun i x v e=>by simp at e⟩
end L2
namespace My
open PySem L2 PyProof.Rows
def nodeD (t s:Int):PyData:=.tuple [.int t,.int s]
def figD (ts:List Tab) (t s:Int) (f:Nat):PyData×PyData:=(.int (f:Int),nodeD (((t.toNat+1) % ts.length:Nat):Int) (ent ts t.toNat s (f:Int)))
def succC (b:Int) (ts:List Tab):PyData→List (PyData×PyData)
 | .tuple [.int t,.int s]=>(List.range b.toNat).map (figD ts t s)
 | _=>[]
def finC (ts:List Tab):PyData→Bool
 | .tuple [.int t,.int s]=>!decide ((chkL (rowOf ts t.toNat s)).length=1)
 | _=>false
def univC (ts:List Tab):List PyData:=(List.range ts.length).flatMap fun t:Nat=>(List.range (nst ts)).map fun s:Nat=>nodeD (t:Int) (s:Int)
def labI:V→PyData→Prop:=fun v l=>∃ f:Int,v=.int f∧l=.int f
def grC (b:Int) (ts:List Tab) (vT:V):Gr:=⟨succC b ts,finC ts,nodeD 0 0,univC ts,labI,fun H=>SchAt H vT b ts⟩
theorem mem_univC {ts:List Tab}{n:PyData}:n∈univC ts↔∃ t s:Nat,n=nodeD (t:Int) (s:Int)∧t < ts.length∧s < nst ts:=by
 unfold univC
 rw [List.mem_flatMap]
 constructor
 ·rintro ⟨t,ht,h⟩
  obtain ⟨s,hs,rfl⟩:=List.mem_map.mp h
  exact ⟨t,s,rfl,List.mem_range.mp ht,List.mem_range.mp hs⟩
 ·rintro ⟨t,s,rfl,ht,hs⟩
  exact ⟨t,List.mem_range.mpr ht,List.mem_map.mpr ⟨s,List.mem_range.mpr hs,rfl⟩⟩
theorem length_univC (ts:List Tab):(univC ts).length=ts.length * nst ts:=by
 unfold univC
 rw [List.length_flatMap]
 have h:∀ k,((List.range k).map fun _:Nat=>nst ts).sum=k * nst ts:=by
  intro k
  induction k with
  | zero=>simp
  | succ k ih=>rw [List.range_succ,List.map_append,List.sum_append,ih,Nat.succ_mul];simp
 rw [← h ts.length]
 congr 1
 simp
theorem two_of {α:Type}{xs:List α} (h:xs.length=2):∃ a b,xs=[a,b]:=match xs,h with
 | [a,b],_=>⟨a,b,rfl⟩
theorem kr_pair {K:PySem.W.Frag}{H:Hp}{a:Addr}{t s:Int} (h:KR K H (.ref a) (nodeD t s)):SqT K H a [.int t,.int s]:=by
 cases h with
 | @tup _ xs _ h1 h2 h3 =>
  obtain ⟨x,y,rfl⟩:=two_of h2
  have e1:=h3 0 x (.int t) rfl rfl
  have e2:=h3 1 y (.int s) rfl rfl
  cases e1
  cases e2
  exact h1
theorem key_pair {K:PySem.W.Frag}{H:Hp}{a:Addr}{t s:Int} (h:SqT K H a [.int t,.int s]):KeyAt K H false a (nodeD t s):=by
 refine ⟨.tup h rfl fun i x d h1 h2=>?_,rfl,by simp [nodeD,PyData.depth,PyData.depthAll]⟩
 match i,h1,h2 with
 | 0,h1,h2=>cases h1;cases h2;exact .int t
 | 1,h1,h2=>cases h1;cases h2;exact .int s
 | i+2,h1,h2=>simp at h1
theorem grOk {b:Int}{ts:List Tab}{vT:V} (o:Ok b ts):GrOk (grC b ts vT):=by
 have:=o.t1
 have:=o.t2
 have:=o.n1
 have:=o.n2
 have:=o.b1
 refine ⟨mem_univC.mpr ⟨0,0,rfl,by omega,by omega⟩,fun n hn l m hm=>?_,?_,fun H H' s h=>h.same s⟩
 ·obtain ⟨t,s,rfl,ht,hs⟩:=mem_univC.mp hn
  obtain ⟨f,hf,e⟩:=List.mem_map.mp (show (l,m)∈(List.range b.toNat).map (figD ts (t:Int) (s:Int)) from hm)
  have hf:=List.mem_range.mp hf
  obtain ⟨_,_,_,_,_,e0,e1⟩:=o.look (t:=t) (s:=(s:Int)) (f:=(f:Int)) ht (by omega) (by omega) (by omega) (by omega)
  cases e
  refine mem_univC.mpr ⟨(t+1) % ts.length,(ent ts ((t:Int).toNat) (s:Int) (f:Int)).toNat,?_,Nat.mod_lt _ (by omega),?_⟩
  ·show nodeD _ _=nodeD _ _
   rw [show ((t:Int).toNat)=t by omega,show ((ent ts t (s:Int) (f:Int)).toNat:Int)=ent ts t (s:Int) (f:Int) by omega]
  ·rw [show ((t:Int).toNat)=t by omega]
   omega
 ·rw [show (grC b ts vT).univ=univC ts from rfl,length_univC]
  calc ts.length * nst ts≤6 * 12:=Nat.mul_le_mul (by omega) (by omega)
   _≤20000:=by decide
theorem wk_figs {b:Int}{ts:List Tab} (o:Ok b ts) {ls:List PyData}{m:PyData} (h:Wk (succC b ts) (nodeD 0 0) ls m):∃ fs:List Int,ls=fs.map PyData.int∧figsIn b fs∧m=nodeD ((fs.length % ts.length:Nat):Int) (rd ts 0 0 fs):=by
 have hb:=o.b1
 induction h with
 | nil=>exact ⟨[],rfl,(fun _ z=>by cases z),by simp [rd]⟩
 | @snoc m k ls l _ he ih =>
  obtain ⟨fs,rfl,hf,rfl⟩:=ih
  obtain ⟨f,hfr,e⟩:=List.mem_map.mp (show (l,k)∈(List.range b.toNat).map (figD ts _ _) from he)
  have hfr:=List.mem_range.mp hfr
  cases e
  refine ⟨fs++[(f:Int)],by simp,mem_snoc hf ⟨by omega,by omega⟩,?_⟩
  rw [rd_snoc,Nat.zero_add,List.length_append,List.length_singleton]
  show nodeD _ _=nodeD _ _
  rw [show ((((fs.length % ts.length:Nat):Int)).toNat)=fs.length % ts.length by omega]
  congr 1
  rw [Nat.mod_add_mod]
theorem figs_wk {b:Int}{ts:List Tab} (o:Ok b ts):∀ (k:Nat) (fs:List Int),fs.length=k→figsIn b fs→Wk (succC b ts) (nodeD 0 0) (fs.map PyData.int) (nodeD ((fs.length % ts.length:Nat):Int) (rd ts 0 0 fs))
 | 0,fs,e,hf=>by
  have:fs=[]:=List.length_eq_zero_iff.mp e
  subst this
  have:=o.t1
  simp only [List.map_nil,List.length_nil,Nat.zero_mod,rd]
  exact .nil _
 | k+1,fs,e,hf=>by
  have hb:=o.b1
  have hne:fs≠[]:=by
   intro z
   subst z
   simp at e
  obtain ⟨r,x,rfl⟩:∃ r x,fs=r++[x]:=⟨fs.dropLast,fs.getLast hne,(List.dropLast_concat_getLast hne).symm⟩
  have hx:=hf x (by simp)
  have ih:=figs_wk o k r (by simpa using e) fun f h=>hf f (List.mem_append_left _ h)
  rw [List.map_append]
  refine .snoc ih ?_
  show _∈(List.range b.toNat).map (figD ts _ _)
  refine List.mem_map.mpr ⟨x.toNat,List.mem_range.mpr (by omega),?_⟩
  unfold figD
  rw [rd_snoc,Nat.zero_add,List.length_append,List.length_singleton,show ((((r.length % ts.length:Nat):Int)).toNat)=r.length % ts.length by omega,show ((x.toNat:Nat):Int)=x by omega,Nat.mod_add_mod]
def badN (ts:List Tab) (fs:List Int):Prop:=(chkL (rowOf ts (fs.length % ts.length) (rd ts 0 0 fs))).length≠1
theorem finC_bad {ts:List Tab} (fs:List Int):finC ts (nodeD ((fs.length % ts.length:Nat):Int) (rd ts 0 0 fs))=true↔badN ts fs:=by
 unfold badN
 show (!decide ((chkL (rowOf ts ((((fs.length % ts.length:Nat):Int)).toNat) _)).length=1))=true↔_
 rw [show ((((fs.length % ts.length:Nat):Int)).toNat)=fs.length % ts.length by omega]
 simp
theorem seqT_fr {K:PySem.W.Frag}{H H':Hp}{D:Addr}{ys:List V} (fr:∀ b o,b≠D→H b=some o→H' b=some o) (hD:H D=some (.lst ys)) (a:Addr) (xs:List V) (t:SqT K H a xs):SqT K H' a xs:=by
 rcases t with (t | ⟨ob,t⟩) | t
 ·exact .inl (.inl (fr _ _ (ne_of t hD (by intro z;cases z)) t))
 ·exact .inl (.inr ⟨ob,fr _ _ (ne_of t hD (by intro z;cases z)) t⟩)
 ·exact .inr t
def spSpotSteps (K:PySem.W.Frag):Sp:=fun vs H Q _=>∃ (vS:V) (ts:List Tab) (b:Int) (bn:Addr) (t s:Nat),vs=[vS,.ref bn]∧SchAt H vS b ts∧Ok b ts∧SqT K H bn [.int (t:Int),.int (s:Int)]∧t < ts.length∧s < nst ts ∧
 ∀ D ys H',Same H H'→H D=none→H' D=some (.lst ys)→Paired (StepAt K H' labI) ys ((List.range b.toNat).map (figD ts (t:Int) (s:Int)))→Q (.ref D) H'
section
variable {P:Program}{w:World}{K:PySem.W.Frag}{mg:Str→Option Value}{base:Heap}
abbrev s_spot_steps:Stmt:=top 28
theorem sc_spot_steps:FnScope ["scheme","spot"] ["scheme","spot"] (defScope s_spot_steps):=fS
theorem ok_spot_steps {f:Addr}{fd:FuncData} (F:Fun K "spot_steps" "spot_steps" s_spot_steps f fd) (B:Blt mg)  (h_moved:Has P w K mg base "moved" 1 ["tables","spot","figures"] (spMoved K)) :
  FnOk P w K mg base CX0 2 f fd ["scheme","spot"] (spSpotSteps K):=by
 refine F.ok sc_spot_steps (fun vs H Q E h=>?_) (fun cdv A outer s H vs Q E hr h=>?_)
 ·obtain ⟨_,_,_,_,_,_,rfl,_⟩:=h
  rfl
 ·obtain ⟨vS,ts,b,bn,t,st,rfl,hS,ok,hp,ht,hs,q⟩:=h
  have nd:=sc_spot_steps.nd
  have hb1:=ok.b1
  have hb2:=ok.b2
  obtain ⟨a0,vT,rfl,ha0,hT⟩:=hS
  refine ⟨_,(pss_one (ps_ret (pe_comp (N:=["figure","spot","scheme"]) (js:=[none,some 1,some 0]) rfl rfl (pi_range1 rfl B.range (pa_cons (pe_ix ix_tup (pv 0) pe_int (fun _ _=>rfl)) pa_nil)) (fun _ _ _ _=>(pg_name (i:=0) (ndOf (N:=["figure","spot","scheme"]) (by decide +kernel)) rfl (Or.inl rfl))) (fun _ _ _ _=>pts_nil) (fun _ _ _ _=>(pe_tup (pa_cons (pv 0) (pa_cons (pe_fn h_moved (hm hr) (pa_cons (pe_ix (ix_tupK K) (pv 2) pe_int (fun _ _=>rfl)) (pa_cons (pv 1) (pa_cons (pe_lst (pa_cons (pv 0) pa_nil)) pa_nil)))) pa_nil))))))),?_⟩
  refine ⟨_,rfl,a0,_,0,_,rfl,rfl,SqT.of ha0,rfl,b,rfl,by omega,by omega,?_⟩
  refine block_rel (Walk.rng 0 b.toNat) (by omega) rfl (fun _=>true) (fun D k y H'=>StepAt K H' labI y (figD ts (t:Int) (st:Int) k)) (fun D k v ys H1 H2 fr hD h=>h.mono (seqT_fr fr hD)) (fun k H3 Q' _ _ q'=>q' _ (Same.refl _)) (fun D k ys H3 Q' hk' _ hD hD3 s3 q'=>?_) (fun D ys H3 hD s3 hDl pr=>?_)
  ·refine ⟨_,rfl,_,rfl,a0,_,1,_,rfl,rfl,SqT.of (s3 _ _ ha0),rfl,_,rfl,_,rfl,zl,fun l hl=>?_⟩
   have t1:=Same.new (o:=HO.lst [V.int (0+(k:Int))]) hl
   refine ⟨vT,ts,b,bn,l,t,(st:Int),[(k:Int)],rfl,hT.same (s3.trans t1),ok,(s3.trans t1).seqT hp,SqL.of ?_,ht,by omega,by omega,fun g hg=>?_,fun q2 H4 s4 hq2=>⟨zl,fun t2 ht2=>?_⟩⟩
   ·rw [upd_same,Int.zero_add]
    rfl
   ·rw [List.mem_singleton.mp hg]
    omega
   ·have t3:=Same.new (o:=HO.tup [V.int (0+(k:Int)),V.ref q2]) ht2
    refine q' _ _ ((t1.trans s4).trans t3) ⟨t2,V.int (0+(k:Int)),q2,rfl,SqT.of upd_same,⟨(k:Int),by rw [Int.zero_add],rfl⟩,?_⟩
    refine key_pair (SqT.of ?_)
    rw [t3 _ _ hq2]
    rw [show ((t:Int).toNat)=t by omega]
    unfold rd rd
    rw [Nat.mod_eq_of_lt ht]
    rfl
  ·rw [List.filter_eq_self.mpr (fun _ _=>rfl)] at pr
   exact q D ys H3 s3 hD hDl (paired_map_left (f:=figD ts (t:Int) (st:Int)) (fun a b h=>h) pr)
abbrev s_closing:Stmt:=top 34
abbrev s_closing_steps:Stmt:=(defBody s_closing).getD 1 (.Pass ⟨0,0,0,0⟩)
theorem sc_closing_steps:FnScopeC ["spot","scheme"] "spot" ["scheme"] (defScope s_closing_steps):=⟨rfl,rfl,rfl,by decide +kernel,rfl,by decide +kernel,by decide +kernel,by decide +kernel,by decide +kernel⟩
theorem ok_steps (B:Blt mg) (h_spot_steps:Has P w K mg base "spot_steps" 2 ["scheme","spot"] (spSpotSteps K)) {b:Int}{ts:List Tab} (ok:Ok b ts) (vT:V) (qual:Str) (cl:List (Str×Addr)) (doc pm ct:Value) (c:Addr) :
  FnOkC P w K mg base 4 (PySem.W.fnX "steps" qual (defArgs s_closing_steps) (defBody s_closing_steps) (defScope s_closing_steps) cl .none .none doc pm none (.ref c) ct) "spot" ["scheme"] [vT] (spSteps K (grC b ts vT)):=by
 refine FnOkC.mono (clo_of (k:=2) sc_closing_steps rfl (fun u=>rfl) (fun A outer s H f v Q hr h=>?_)) (by decide)
 obtain ⟨bn,n,e,hk,hu,hT,q⟩:=h
 cases e
 obtain ⟨t,st,rfl,ht,hs⟩:=mem_univC.mp hu
 refine ⟨_,(pss_one (ps_ret (pe_fn h_spot_steps (hm hr) (pa_cons (pv 1) (pa_cons (pv 0) pa_nil))))),?_⟩
 exact ⟨_,rfl,_,rfl,vT,ts,b,bn,t,st,rfl,hT,ok,kr_pair hk.kr,ht,hs,q⟩
abbrev s_closing_ends:Stmt:=(defBody s_closing).getD 2 (.Pass ⟨0,0,0,0⟩)
theorem sc_closing_ends:FnScopeC ["spot","scheme"] "spot" ["scheme"] (defScope s_closing_ends):=⟨rfl,rfl,rfl,by decide +kernel,rfl,by decide +kernel,by decide +kernel,by decide +kernel,by decide +kernel⟩
theorem ok_ends (B:Blt mg) (h_checks_at:Has P w K mg base "checks_at" 1 ["tables","spot"] (spChecksAt K)) {b:Int}{ts:List Tab} (ok:Ok b ts) (vT:V) (qual:Str) (cl:List (Str×Addr)) (doc pm ct:Value) (c:Addr) :
  FnOkC P w K mg base 4 (PySem.W.fnX "ends" qual (defArgs s_closing_ends) (defBody s_closing_ends) (defScope s_closing_ends) cl .none .none doc pm none (.ref c) ct) "spot" ["scheme"] [vT] (spEnds K (grC b ts vT)):=by
 refine FnOkC.mono (clo_of (k:=1) sc_closing_ends rfl (fun u=>rfl) (fun A outer s H f v Q hr h=>?_)) (by decide)
 obtain ⟨bn,n,e,hk,hu,hT,q⟩:=h
 cases e
 obtain ⟨t,st,rfl,ht,hs⟩:=mem_univC.mp hu
 have hp:=kr_pair hk.kr
 obtain ⟨a0,vT',rfl,ha0,hT⟩:=(show SchAt H vT b ts from hT)
 refine ⟨_,(pss_one (ps_ret (pe_cmpR op_ne (pe_callB call_len_seq rfl B.len PySem.boot_len (pa_cons (pe_fn h_checks_at (hm hr) (pa_cons (pe_ix ix_tup (pv 1) pe_int (fun _ _=>rfl)) (pa_cons (pv 0) pa_nil))) pa_nil)) pe_int (nomark _)))),?_⟩
 refine ⟨_,rfl,a0,_,1,_,rfl,rfl,SqT.of ha0,rfl,_,rfl,vT',ts,b,bn,t,(st:Int),rfl,hT,ok,hp,ht,by omega,by omega,fun D H2 s2 hD hDl=>?_⟩
 refine ⟨D,_,rfl,.inl (SqL.of hDl),rfl,?_⟩
 have:=q H2 s2
 rw [show (grC b ts (.ref a0)).fin (nodeD (t:Int) (st:Int))=!decide ((chkL (rowOf ts t (st:Int))).length=1) from rfl] at this
 rw [List.length_map,show (!decide (V.int (((chkL (rowOf ts t (st:Int))).length:Nat):Int)=V.int 1))=!decide ((chkL (rowOf ts t (st:Int))).length=1) by
  congr 1
  rw [decide_eq_decide]
  constructor
  ·intro z
   have z':=V.int.inj z
   omega
  ·intro z
   rw [z]
   rfl]
 exact this
end
end My
namespace My
open PySem L2 PyProof.Rows
def defPos (s:Stmt):Pos:=match s with
 | .FunctionDef _ _ _ _ _ _ _ _ _ p=>p
 | _=>⟨0,0,0,0⟩
def spClosing (Pt:Addr) (qs:List (Pos×Str)):Sp:=fun vs H Q _=>∃ (v:V) (ts:List Tab) (b:Int),vs=[v]∧SchAt H v b ts∧Ok b ts∧TabSt H Pt qs ∧
 (∀ H',Sam H H'→TabSt H' Pt qs→(∀ fs,figsIn b fs→¬badN ts fs)→Q .non H') ∧
 (∀ D fs H',Sam H H'→TabSt H' Pt qs→H D=none→H' D=some (.lst (fs.map V.int))→figsIn b fs→badN ts fs→(∀ fs',figsIn b fs'→badN ts fs'→fs.length≤fs'.length)→fs.length≤100→Q (.ref D) H')
theorem lab_ints {fs:List Int}:∀ {lvs:List V}{ls:List PyData},Paired labI lvs ls→ls=fs.map PyData.int→lvs=fs.map V.int:=by
 intro lvs ls h
 induction h generalizing fs with
 | nil =>
  intro e
  cases fs with
  | nil=>rfl
  | cons f r=>cases e
 | cons h t ih =>
  intro e
  cases fs with
  | nil=>cases e
  | cons f r =>
   obtain ⟨g,e1,e2⟩:=h
   rw [List.map_cons] at e
   injection e with e3 e4
   rw [e2] at e3
   injection e3 with e5
   rw [e1,e5,ih e4]
   rfl
section
variable {P:Program}{w:World}{K:PySem.W.Frag}{mg:Str→Option Value}{base:Heap}
def qsC:List (Pos×Str):=[(defPos s_closing_steps,"closing.<locals>.steps"),(defPos s_closing_ends,"closing.<locals>.ends")]
theorem farC1:farOk qsC (defPos s_closing_steps) "closing.<locals>.steps"=true:=by decide +kernel
theorem farC2:farOk qsC (defPos s_closing_ends) "closing.<locals>.ends"=true:=by decide +kernel
theorem sc_closing:FnScope ["scheme","steps","ends"] ["scheme"] (defScope s_closing):=fS
theorem ok_closing {f c Pt:Addr}{fd:FuncData} (F:Fun K "closing" "closing" s_closing f fd) (hfd:fd.code=.ref c) (B:Blt mg) (BM:BMain mg base) (CH:PySem.W.CodeHd base c Pt) (St:StartAt K mg)
  (h_check_scheme:Has P w K mg base "check_scheme" 5 ["scheme"] spCheck) (h_spot_steps:Has P w K mg base "spot_steps" 2 ["scheme","spot"] (spSpotSteps K)) (h_checks_at:Has P w K mg base "checks_at" 1 ["tables","spot"] (spChecksAt K))
  (h_shortest:HasS P w K mg base "shortest" 6 ["start","steps","ends"] (preSh P w K mg base) (spSh K)):FnOk P w K mg base CX0 8 f fd ["scheme"] (spClosing Pt qsC):=by
 refine F.okT hfd sc_closing (fun vs H Q E h=>?_) (fun A outer s H vs Q E hr h=>?_)
 ·obtain ⟨_,_,_,rfl,_⟩:=h
  rfl
 ·obtain ⟨v,ts,b,rfl,hC,ok,T,qN,qL⟩:=h
  have nd:=sc_closing.nd
  obtain ⟨aS,mS,hSt⟩:=St.at'
  have hcode:(cxOf CX0 P w K mg base ["scheme","steps","ends"] "closing" (defScope s_closing) f (.ref c) A outer s H E).nox.env.code=.ref c:=rfl
  refine ⟨_,(pss_cons (ps_expr (pe_fn h_check_scheme (hm hr) (pa_cons (pv 0) pa_nil)))
   (pss_cons (ps_def (i:=1) (qual:="closing.<locals>.steps") BM hcode CH nd rfl (Or.inl rfl) (hfree_of rfl))
   (pss_cons (ps_def (i:=2) (qual:="closing.<locals>.ends") BM hcode CH nd rfl (Or.inl rfl) (hfree_of rfl))
   (pss_one (ps_ret (pe_fnS h_shortest (hm hr) (pa_cons (pe_glob (v:=.ref aS) rfl mS rfl) (pa_cons (pv 1) (pa_cons (pv 2) pa_nil))))))))),?_⟩
  refine ⟨_,rfl,v,ts,b,rfl,hC,ok,fun H1 s1=>?_⟩
  refine tDef_of (qs:=qsC) (T.same s1) List.mem_cons_self (far_of farC1) fun fS cS docS pmS ctS H2 s2 T2 nS hfS hcS n2=>?_
  refine tDef_of (qs:=qsC) T2 (List.mem_cons_of_mem _ List.mem_cons_self) (far_of farC2) fun fE cE docE pmE ctE H3 s3 T3 nE hfE hcE n3=>?_
  have s13:Sam H H3:=(s1.sam.trans s2).trans s3
  have hT3:=hC.sam s13
  refine ⟨_,rfl,_,rfl,grC b ts v,fun pins s' I=>⟨aS,fS,fE,rfl,?_,?_⟩,aS,fS,fE,rfl,key_pair (hSt H3),grOk ok,hT3,fun H4 s4 hno=>?_,fun D lvs ls m H4 s4 hD hDl hLab hW hf hmin hlt=>?_⟩
  ·refine .clo (ok_steps B h_spot_steps ok v _ _ _ _ _ cS) (s3.ext hfS) rfl (s3.ext hcS) (cellsAt_of I fun i x u h1 h2=>?_)
   match i,h1,h2 with
   | 0,h1,h2=>cases h1;cases h2;exact ⟨by decide +kernel,Or.inl rfl,0,rfl,rfl⟩
   | i+1,h1,h2=>simp at h1
  ·refine .clo (ok_ends B h_checks_at ok v _ _ _ _ _ cE) hfE rfl hcE (cellsAt_of I fun i x u h1 h2=>?_)
   match i,h1,h2 with
   | 0,h1,h2=>cases h1;cases h2;exact ⟨by decide +kernel,Or.inl rfl,0,rfl,rfl⟩
   | i+1,h1,h2=>simp at h1
  ·refine qN H4 (s13.trans s4.sam) (T3.same s4) fun fs hf hb=>?_
   have:=hno _ _ (figs_wk ok fs.length fs rfl hf)
   rw [show (grC b ts v).fin=finC ts from rfl,(finC_bad fs).mpr hb] at this
   cases this
  ·obtain ⟨fs,e1,hfs,e2⟩:=wk_figs ok hW
   have hb:badN ts fs:=by
    rw [show (grC b ts v).fin=finC ts from rfl,e2] at hf
    exact (finC_bad fs).mp hf
   have hDl':H4 D=some (.lst (fs.map V.int)):=by
    rw [hDl,lab_ints hLab e1]
   refine qL D fs H4 (s13.trans s4.sam) (T3.same s4) ?_ hDl' hfs hb (fun fs' hf' hb'=>?_) ?_
   ·exact s1.free (n2 D (n3 D hD))
   ·have:=hmin _ _ (figs_wk ok fs'.length fs' rfl hf') ((finC_bad fs').mpr hb')
    rw [e1,List.length_map,List.length_map] at this
    exact this
   ·rw [e1,List.length_map,show (grC b ts v).univ=univC ts from rfl,length_univC] at hlt
    have:=ok.t2
    have:=ok.n2
    have:ts.length * nst ts≤6 * 12:=Nat.mul_le_mul (by omega) (by omega)
    omega
end
end My
namespace My
open PySem L2 PyProof.Rows
theorem rd_append (ts:List Tab):∀ (xs ys:List Int) (t:Nat) (s:Int),rd ts t s (xs++ys)=rd ts (t+xs.length) (rd ts t s xs) ys
 | [],ys,t,s=>rfl
 | x :: xs,ys,t,s=>by
  rw [List.cons_append]
  show rd ts (t+1) _ (xs++ys)=rd ts (t+(xs.length+1)) (rd ts (t+1) _ xs) ys
  rw [rd_append ts xs ys,show t+(xs.length+1)=t+1+xs.length by omega]
theorem rd_mod (ts:List Tab):∀ (fs:List Int) (t u:Nat) (s:Int),t % ts.length=u % ts.length→rd ts t s fs=rd ts u s fs
 | [],_,_,_,_=>rfl
 | f :: fs,t,u,s,h=>by
  show rd ts (t+1) (ent ts (t % ts.length) s f) fs=rd ts (u+1) (ent ts (u % ts.length) s f) fs
  rw [h]
  refine rd_mod ts fs _ _ _ ?_
  rw [Nat.add_mod,h,← Nat.add_mod]
def mvD (ts:List Tab) (q:Int×Int) (fs:List Int):Int×Int:=((((q.1.toNat+fs.length) % ts.length:Nat):Int),rd ts q.1.toNat q.2 fs)
theorem mvD_append (ts:List Tab) (q:Int×Int) (xs ys:List Int):mvD ts (mvD ts q xs) ys=mvD ts q (xs++ys):=by
 unfold mvD
 simp only [Int.toNat_natCast]
 congr 1
 ·rw [List.length_append,Nat.mod_add_mod,Nat.add_assoc]
 ·rw [rd_append]
  exact rd_mod ts _ _ _ _ (by rw [Nat.mod_mod])
def n1 (q:Int×Int):PyData:=.tuple [nodeD q.1 q.2,.none]
def n2 (q r:Int×Int):PyData:=.tuple [nodeD q.1 q.2,nodeD r.1 r.2]
def lstD (ys:List Int):PyData:=.list (ys.map PyData.int)
def pairD (p:List Int×List Int):PyData:=.tuple [lstD p.1,lstD p.2]
def keptP (b:Int):List (List Int×List Int):=(figsOf b).map fun f=>([f],[f])
def wins (b:Int):Nat→List (List Int)
 | 0=>[[]]
 | n+1=>(wins b n).flatMap fun w=>(figsOf b).map fun f=>w++[f]
def slipP (b:Int) (k:Kd):List (List Int×List Int):=(wins b (wid k)).flatMap fun w=>(wr b k w).map fun m=>(w,m)
def succU (b:Int) (ts:List Tab) (k:Kd):PyData→List (PyData×PyData)
 | .tuple [.tuple [.int t,.int s],.none]=>(keptP b).map (fun p=>(pairD p,n1 (mvD ts (t,s) p.1)))++(slipP b k).map (fun p=>(pairD p,n2 (mvD ts (t,s) p.1) (mvD ts (t,s) p.2)))
 | .tuple [.tuple [.int t,.int s],.tuple [.int u,.int v]]=>(keptP b).map (fun p=>(pairD p,n2 (mvD ts (t,s) p.1) (mvD ts (u,v) p.2)))
 | _=>[]
def finU:PyData→Bool
 | .tuple [.tuple [.int _,.int s],.tuple [.int _,.int v]]=>decide (s=0)&&decide (v=0)
 | _=>false
theorem mem_figsOf {b f:Int}:f∈figsOf b↔0≤f∧f < b:=by
 unfold figsOf
 rw [List.mem_map]
 constructor
 ·rintro ⟨k,hk,rfl⟩
  have:=List.mem_range.mp hk
  omega
 ·rintro ⟨h1,h2⟩
  exact ⟨f.toNat,List.mem_range.mpr (by omega),by omega⟩
theorem mem_wins {b:Int}:∀ {n:Nat}{w:List Int},w∈wins b n↔w.length=n∧figsIn b w
 | 0,w=>by
  show w∈[[]]↔_
  rw [List.mem_singleton,List.length_eq_zero_iff]
  constructor
  ·rintro rfl
   exact ⟨rfl,fun _ z=>by cases z⟩
  ·exact fun h=>h.1
 | n+1,w=>by
  show w∈(wins b n).flatMap _↔_
  rw [List.mem_flatMap]
  constructor
  ·rintro ⟨v,hv,h⟩
   obtain ⟨f,hf,rfl⟩:=List.mem_map.mp h
   obtain ⟨h1,h2⟩:=mem_wins.mp hv
   refine ⟨by rw [List.length_append,h1];rfl,fun g hg=>?_⟩
   rcases List.mem_append.mp hg with hg | hg
   ·exact h2 g hg
   ·rw [List.mem_singleton.mp hg]
    exact mem_figsOf.mp hf
  ·rintro ⟨h1,h2⟩
   have hne:w≠[]:=by
    intro z
    subst z
    simp at h1
   have el:w=w.dropLast++[w.getLast hne]:=(List.dropLast_concat_getLast hne).symm
   refine ⟨w.dropLast,mem_wins.mpr ⟨by rw [List.length_dropLast];omega,fun g hg=>h2 g (List.dropLast_subset _ hg)⟩,List.mem_map.mpr ⟨w.getLast hne,mem_figsOf.mpr (h2 _ (List.getLast_mem hne)),el.symm⟩⟩
theorem wr_figs {b:Int}{k:Kd}{w:List Int} (hl:w.length=wid k) (hw:figsIn b w):∀ m∈wr b k w,figsIn b m:=by
 intro m hm g hg
 have ho:∀ f,g∈othersI b f→0≤g∧g < b:=fun f h=>mem_figsOf.mp (List.mem_filter.mp h).1
 cases k with
 | one =>
  obtain ⟨f,hf,rfl⟩:=List.mem_map.mp (show m∈(othersI b (fstI w)).map fun g=>[g] from hm)
  rw [List.mem_singleton.mp hg]
  exact mem_figsOf.mp (List.mem_filter.mp hf).1
 | twin =>
  have hm:m∈if fstI w=lstI w then (othersI b (fstI w)).map fun g=>[g,g] else []:=hm
  split at hm
  ·obtain ⟨f,hf,rfl⟩:=List.mem_map.mp hm
   have:g=f:=by simpa using hg
   rw [this]
   exact mem_figsOf.mp (List.mem_filter.mp hf).1
  ·cases hm
 | out =>
  rw [List.mem_singleton.mp (show m∈[[]] from hm)] at hg
  cases hg
 | swap =>
  match w,hl with
  | [x,y],_ =>
   have hm:m∈if x=y then [] else [[y]++[]++[x]]:=hm
   split at hm
   ·cases hm
   ·rw [List.mem_singleton.mp hm] at hg
    simp at hg
    rcases hg with rfl | rfl
    ·exact hw _ (by simp)
    ·exact hw _ (by simp)
 | jump =>
  match w,hl with
  | [x,y,z],_ =>
   have hm:m∈if x=z then [] else [[z]++[y]++[x]]:=hm
   split at hm
   ·cases hm
   ·rw [List.mem_singleton.mp hm] at hg
    simp at hg
    rcases hg with rfl | rfl | rfl
    ·exact hw _ (by simp)
    ·exact hw _ (by simp)
    ·exact hw _ (by simp)
theorem mem_slipP {b:Int}{k:Kd}{p:List Int×List Int}:p∈slipP b k↔p.1.length=wid k∧figsIn b p.1∧p.2∈wr b k p.1:=by
 unfold slipP
 rw [List.mem_flatMap]
 constructor
 ·rintro ⟨w,hw,h⟩
  obtain ⟨m,hm,rfl⟩:=List.mem_map.mp h
  obtain ⟨h1,h2⟩:=mem_wins.mp hw
  exact ⟨h1,h2,hm⟩
 ·rintro ⟨h1,h2,h3⟩
  exact ⟨p.1,mem_wins.mpr ⟨h1,h2⟩,List.mem_map.mpr ⟨p.2,h3,rfl⟩⟩
theorem mem_slp {b:Int}{k:Kd}{fs ys:List Int}:ys∈slp b k fs↔∃ as w cs m,fs=as++w++cs∧w.length=wid k∧m∈wr b k w∧ys=as++m++cs:=by
 unfold slp
 rw [List.mem_flatMap]
 constructor
 ·rintro ⟨p,hp,h⟩
  obtain ⟨m,hm,rfl⟩:=List.mem_map.mp h
  have hp:=List.mem_range.mp hp
  have hw:((fs.drop p).take (wid k)).length=wid k:=by
   rw [List.length_take,List.length_drop]
   omega
  refine ⟨fs.take p,(fs.drop p).take (wid k),fs.drop (p+wid k),m,?_,hw,hm,rfl⟩
  rw [List.append_assoc,← List.drop_drop,List.take_append_drop,List.take_append_drop]
 ·rintro ⟨as,w,cs,m,rfl,hw,hm,rfl⟩
  have hwp:=wid_pos k
  refine ⟨as.length,List.mem_range.mpr (by simp only [List.length_append];omega),List.mem_map.mpr ⟨m,?_,?_⟩⟩
  ·rw [List.append_assoc,List.drop_left,← hw,List.take_left]
   exact hm
  ·unfold spliced
   rw [List.append_assoc as w cs,List.take_left,← List.append_assoc as w cs,← hw,show as.length+w.length=(as++w).length by rw [List.length_append],List.drop_left]
def kl (f:Int):PyData:=pairD ([f],[f])
inductive IsW (b:Int) (ts:List Tab) (k:Kd):List PyData→PyData→Prop
 | a {fs:List Int} (h:figsIn b fs):IsW b ts k (fs.map kl) (n1 (mvD ts (0,0) fs))
 | b {as cs:List Int}{p:List Int×List Int} (h1:figsIn b as) (hp:p∈slipP b k) (h2:figsIn b cs):IsW b ts k (as.map kl++[pairD p]++cs.map kl) (n2 (mvD ts (0,0) (as++p.1++cs)) (mvD ts (0,0) (as++p.2++cs)))
theorem figs_snoc {b:Int}{fs:List Int}{f:Int} (h:figsIn b fs) (hf:f∈figsOf b):figsIn b (fs++[f]):=fun g hg=>by
 rcases List.mem_append.mp hg with hg | hg
 ·exact h g hg
 ·rw [List.mem_singleton.mp hg]
  exact mem_figsOf.mp hf
theorem wk_isW {b:Int}{ts:List Tab} (o:Ok b ts) {k:Kd}{ls:List PyData}{m:PyData} (h:Wk (succU b ts k) (n1 (0,0)) ls m):IsW b ts k ls m:=by
 induction h with
 | nil =>
  have:=o.t1
  have e:=IsW.a (b:=b) (ts:=ts) (k:=k) (fs:=[]) (fun _ z=>by cases z)
  have e2:mvD ts (0,0) []=(0,0):=by
   unfold mvD
   simp [rd]
  rw [e2] at e
  exact e
 | @snoc m k' ls l _ he ih =>
  cases ih with
  | @a fs hf =>
   have he:(l,k')∈(keptP b).map (fun p=>(pairD p,n1 (mvD ts (mvD ts (0,0) fs) p.1)))++(slipP b k).map (fun p=>(pairD p,n2 (mvD ts (mvD ts (0,0) fs) p.1) (mvD ts (mvD ts (0,0) fs) p.2))):=he
   rcases List.mem_append.mp he with he | he
   ·obtain ⟨p,hp,e⟩:=List.mem_map.mp he
    obtain ⟨f,hf',rfl⟩:=List.mem_map.mp hp
    cases e
    rw [mvD_append]
    have e:=IsW.a (ts:=ts) (k:=k) (figs_snoc hf hf')
    rw [List.map_append] at e
    exact e
   ·obtain ⟨p,hp,e⟩:=List.mem_map.mp he
    cases e
    rw [mvD_append,mvD_append]
    have e:=IsW.b (ts:=ts) hf hp (cs:=[]) (fun _ z=>by cases z)
    simpa using e
  | @b as cs p h1 hp h2 =>
   have he:(l,k')∈(keptP b).map (fun q=>(pairD q,n2 (mvD ts (mvD ts (0,0) (as++p.1++cs)) q.1) (mvD ts (mvD ts (0,0) (as++p.2++cs)) q.2))):=he
   obtain ⟨q,hq,e⟩:=List.mem_map.mp he
   obtain ⟨f,hf',rfl⟩:=List.mem_map.mp hq
   cases e
   rw [mvD_append,mvD_append]
   have e:=IsW.b (ts:=ts) h1 hp (figs_snoc h2 hf')
   rw [List.map_append] at e
   simpa [kl] using e
theorem wk_a {b:Int}{ts:List Tab} (o:Ok b ts) {k:Kd}:∀ (n:Nat) (fs:List Int),fs.length=n→figsIn b fs→Wk (succU b ts k) (n1 (0,0)) (fs.map kl) (n1 (mvD ts (0,0) fs))
 | 0,fs,e,hf=>by
  have:fs=[]:=List.length_eq_zero_iff.mp e
  subst this
  have:=o.t1
  have e2:mvD ts (0,0) []=(0,0):=by
   unfold mvD
   simp [rd]
  rw [e2]
  exact .nil _
 | n+1,fs,e,hf=>by
  have hne:fs≠[]:=by
   intro z
   subst z
   simp at e
  obtain ⟨r,x,rfl⟩:∃ r x,fs=r++[x]:=⟨fs.dropLast,fs.getLast hne,(List.dropLast_concat_getLast hne).symm⟩
  have ih:=wk_a o (k:=k) n r (by simpa using e) fun f h=>hf f (List.mem_append_left _ h)
  rw [List.map_append,← mvD_append]
  refine .snoc ih ?_
  show _∈(keptP b).map (fun p=>(pairD p,n1 (mvD ts (mvD ts (0,0) r) p.1)))++_
  exact List.mem_append_left _ (List.mem_map.mpr ⟨([x],[x]),List.mem_map.mpr ⟨x,mem_figsOf.mpr (hf x (by simp)),rfl⟩,rfl⟩)
theorem wk_b {b:Int}{ts:List Tab} (o:Ok b ts) {k:Kd}{as:List Int}{p:List Int×List Int} (h1:figsIn b as) (hp:p∈slipP b k):∀ (n:Nat) (cs:List Int),cs.length=n→figsIn b cs→Wk (succU b ts k) (n1 (0,0)) (as.map kl++[pairD p]++cs.map kl) (n2 (mvD ts (0,0) (as++p.1++cs)) (mvD ts (0,0) (as++p.2++cs)))
 | 0,cs,e,hf=>by
  have:cs=[]:=List.length_eq_zero_iff.mp e
  subst this
  rw [List.map_nil,List.append_nil,List.append_nil,List.append_nil,← mvD_append,← mvD_append]
  refine .snoc (wk_a o _ as rfl h1) ?_
  show _∈_++(slipP b k).map (fun p=>(pairD p,n2 (mvD ts (mvD ts (0,0) as) p.1) (mvD ts (mvD ts (0,0) as) p.2)))
  exact List.mem_append_right _ (List.mem_map.mpr ⟨p,hp,rfl⟩)
 | n+1,cs,e,hf=>by
  have hne:cs≠[]:=by
   intro z
   subst z
   simp at e
  obtain ⟨r,x,rfl⟩:∃ r x,cs=r++[x]:=⟨cs.dropLast,cs.getLast hne,(List.dropLast_concat_getLast hne).symm⟩
  have ih:=wk_b o h1 hp n r (by simpa using e) fun f h=>hf f (List.mem_append_left _ h)
  rw [List.map_append,← List.append_assoc,← List.append_assoc,← List.append_assoc,← mvD_append,← mvD_append ts _ _ [x]]
  refine .snoc ih ?_
  show _∈(keptP b).map (fun q=>(pairD q,n2 (mvD ts (mvD ts (0,0) (as++p.1++r)) q.1) (mvD ts (mvD ts (0,0) (as++p.2++r)) q.2)))
  exact List.mem_map.mpr ⟨([x],[x]),List.mem_map.mpr ⟨x,mem_figsOf.mpr (hf x (by simp)),rfl⟩,rfl⟩
theorem fin_n1 (q:Int×Int):finU (n1 q)=false:=rfl
theorem fin_n2 (q r:Int×Int):finU (n2 q r)=(decide (q.2=0)&&decide (r.2=0)):=rfl
theorem seen_all {b:Int}{ts:List Tab} (o:Ok b ts) {k:Kd} (h:∀ ls m,Wk (succU b ts k) (n1 (0,0)) ls m→finU m=false) {fs ys:List Int} (hf:figsIn b fs) (hg:rd ts 0 0 fs=0) (hy:ys∈slp b k fs):rd ts 0 0 ys≠0:=by
 intro hz
 obtain ⟨as,w,cs,m,rfl,hw,hm,rfl⟩:=mem_slp.mp hy
 have hp:(w,m)∈slipP b k:=mem_slipP.mpr ⟨hw,fun g z=>hf g (by simp [z]),hm⟩
 have:=h _ _ (wk_b o (as:=as) (fun g z=>hf g (by simp [z])) hp _ cs rfl fun g z=>hf g (by simp [z]))
 rw [fin_n2] at this
 have e1:(mvD ts (0,0) (as++w++cs)).2=0:=hg
 have e2:(mvD ts (0,0) (as++m++cs)).2=0:=hz
 rw [show ((w,m):List Int×List Int).1=w from rfl,show ((w,m):List Int×List Int).2=m from rfl,e1,e2] at this
 simp at this
theorem end_pair {b:Int}{ts:List Tab}{k:Kd}{ls:List PyData}{m:PyData} (h:IsW b ts k ls m) (hf:finU m=true) :
  ∃ as p cs,figsIn b as∧p∈slipP b k∧figsIn b cs∧ls=as.map kl++[pairD p]++cs.map kl∧rd ts 0 0 (as++p.1++cs)=0∧rd ts 0 0 (as++p.2++cs)=0∧as++p.2++cs∈slp b k (as++p.1++cs):=by
 cases h with
 | a h=>rw [fin_n1] at hf;cases hf
 | @b as cs p h1 hp h2 =>
  rw [fin_n2,Bool.and_eq_true] at hf
  obtain ⟨w1,w2,w3⟩:=mem_slipP.mp hp
  exact ⟨as,p,cs,h1,hp,h2,rfl,of_decide_eq_true hf.1,of_decide_eq_true hf.2,mem_slp.mpr ⟨as,p.1,cs,p.2,rfl,w1,w3,rfl⟩⟩
end My
namespace My
open PySem L2 PyProof.Rows
structure LT (H0 H:Hp) (D:Addr) (as:List Addr) (yss:List (List Int)):Prop where
 at':H D=some (.lst (as.map V.ref))
 newD:H0 D=none
 new:∀ a∈as,H0 a=none∧a≠D
 ll:LL H as yss
theorem paired_append {α β:Type}{F:α→β→Prop}:∀ {l₁:List α}{l₂:List β}{m₁:List α}{m₂:List β},Paired F l₁ l₂→Paired F m₁ m₂→Paired F (l₁++m₁) (l₂++m₂)
 | _,_,_,_,.nil,h=>h
 | _,_,_,_,.cons a t,h=>.cons a (paired_append t h)
theorem LT.ext {H0 H H':Hp}{D:Addr}{as cs:List Addr}{yss zss:List (List Int)} (h:LT H0 H D as yss) (s0:Same H0 H) (s:Same H H') (hc:∀ c∈cs,H c=none) (l:LL H' cs zss) :
  LT H0 (upd H' D (.lst (as.map V.ref++cs.map V.ref))) D (as++cs) (yss++zss):=by
 have hD:∀ c∈cs,c≠D:=fun c z=>(ne_of_none h.at' (hc c z)).symm
 refine ⟨by rw [upd_same,List.map_append],h.newD,fun a ha=>?_,?_⟩
 ·rcases List.mem_append.mp ha with ha | ha
  ·exact h.new a ha
  ·exact ⟨s0.free (hc a ha),hD a ha⟩
 ·refine paired_append ((h.ll.same s).put fun z=>(h.new D z).2 rfl) (l.put fun z=>hD D z rfl)
def winTo (b:Int) (j i:Nat):List (List Int):=((wins b j).take i).flatMap fun w=>(figsOf b).map fun f=>w++[f]
theorem winTo_succ (b:Int) (j i:Nat) {w:List Int} (h:(wins b j)[i]? = some w):winTo b j (i+1)=winTo b j i++(figsOf b).map fun f=>w++[f]:=by
 unfold winTo
 obtain ⟨hi,e⟩:=List.getElem?_eq_some_iff.mp h
 rw [List.take_succ_eq_append_getElem hi,List.flatMap_append,e]
 simp
theorem length_flat {α β:Type}{f:α→List β}{n:Nat}:∀ (l:List α),(∀ x∈l,(f x).length=n)→(l.flatMap f).length=l.length * n
 | [],_=>by simp
 | x :: l,h=>by
  rw [List.flatMap_cons,List.length_append,h x (by simp),length_flat l fun y hy=>h y (by simp [hy]),List.length_cons,Nat.succ_mul]
  omega
theorem length_figsOf (b:Int):(figsOf b).length=b.toNat:=by
 unfold figsOf
 rw [List.length_map,List.length_range]
theorem length_wins (b:Int):∀ n,(wins b n).length=b.toNat ^ n
 | 0=>rfl
 | n+1=>by
  show ((wins b n).flatMap _).length=_
  rw [length_flat (n:=b.toNat) _ fun x _=>by rw [List.length_map,length_figsOf],length_wins b n,Nat.pow_succ]
def spWins:Sp:=fun vs H Q _=>∃ (b:Int) (n:Nat),vs=[.int b,.int n]∧2≤b∧b≤10∧n≤3∧∀ D gs H',Same H H'→LT H H' D gs (wins b n)→Q (.ref D) H'
section
variable {P:Program}{w:World}{K:PySem.W.Frag}{mg:Str→Option Value}{base:Heap}
abbrev s_all_windows:Stmt:=top 40
theorem sc_all_windows:FnScope ["base","width","windows","longer","window"] ["base","width"] (defScope s_all_windows):=fS
theorem ok_all_windows {f:Addr}{fd:FuncData} (F:Fun K "all_windows" "all_windows" s_all_windows f fd) (B:Blt mg)   :
  FnOk P w K mg base CX0 1 f fd ["base","width"] spWins:=by
 refine F.ok sc_all_windows (fun vs H Q E h=>?_) (fun cdv A outer s H vs Q E hr h=>?_)
 ·obtain ⟨_,_,rfl,_⟩:=h
  rfl
 ·obtain ⟨b,n,rfl,b1,b2,hn,q⟩:=h
  have nd:=sc_all_windows.nd
  refine ⟨_,(pss_cons (ps_set (i:=2) nd rfl (Or.inl rfl) (pe_lst (pa_cons (pe_lst pa_nil) pa_nil)))
   (pss_cons (ps_while PassesOwn.never (pt_cmpR op_lt (pe_callB call_len_seq rfl B.len PySem.boot_len (pa_cons (pe_ix ix_list (pv 2) pe_int (fun _ _=>rfl)) pa_nil)) (pv 1) (nomark _)) (pss_cons (ps_set (i:=3) nd rfl (Or.inl rfl) (pe_lst pa_nil))
   (pss_cons (ps_for PassesOwn.never rfl (pi_list (pv 2)) (pg_name (i:=4) nd rfl (Or.inr rfl)) (pss_one (ps_expr (pe_bm PySem.F.plainAttrs_list PySem.F.slot_list_extend PySem.F.type_list_extend mt_extend (pv 3) (pa_cons (pe_comp (N:=["figure","window"]) (js:=[none,some 4]) rfl rfl (pi_range1 rfl B.range (pa_cons (pv 0) pa_nil)) (fun _ _ _ _=>(pg_name (i:=0) (ndOf (N:=["figure","window"]) (by decide +kernel)) rfl (Or.inl rfl))) (fun _ _ _ _=>pts_nil) (fun _ _ _ _=>(pe_op op_cat (pv 1) (pe_lst (pa_cons (pv 0) pa_nil))))) pa_nil)))))
   (pss_one (ps_set (i:=2) nd rfl (Or.inl rfl) (pv 3))))))
   (pss_one (ps_ret (pv 2))))),?_⟩
  refine ⟨zl,fun e he=>⟨zl,fun D hD=>?_⟩⟩
  have s1:=Same.new (o:=HO.lst []) he
  have s2:=Same.new (o:=HO.lst [V.ref e]) hD
  refine ⟨fun m σ H2=>∃ j D gs o3 o4,σ=[some (.int b),some (.int n),some (.ref D),o3,o4]∧Same H H2∧LT H H2 D gs (wins b j)∧j≤n∧m=n-j,
   ⟨_,0,D,[e],_,_,rfl,s1.trans s2,⟨upd_same,s1.free hD,(fun x hx=>by rw [List.mem_singleton.mp hx];exact ⟨he,(ne_of_none upd_same hD)⟩),.cons (s2 _ _ upd_same) .nil⟩,Nat.zero_le _,rfl⟩,?_⟩
  clear s1 s2 hD he
  rintro m σ H2 ⟨j,D,gs,o3,o4,rfl,s2,T,hj,rfl⟩
  have hwl:=length_wins b j
  have hpow:1≤b.toNat ^ j:=Nat.pow_pos (by omega)
  have hpow2:b.toNat ^ j≤1000:=by
   calc b.toNat ^ j≤10 ^ j:=Nat.pow_le_pow_left (by omega) _
    _≤10 ^ 3:=Nat.pow_le_pow_right (by omega) (by omega)
  have hgl:=T.ll.length
  obtain ⟨w0,hw0⟩:∃ w0,(wins b j)[0]? = some w0:=⟨_,List.getElem?_eq_getElem (by omega)⟩
  obtain ⟨g0,eg0,hg0⟩:=paired_get T.ll 0 _ hw0
  have hl0:w0.length=j:=(mem_wins.mp (List.mem_of_getElem? hw0)).1
  refine ⟨_,rfl,D,_,0,.ref g0,rfl,rfl,SqL.of T.at',atI_nat (j:=0) (by rw [List.getElem?_map,eg0];rfl),g0,_,rfl,.inl (SqL.of hg0),_,rfl,_,_,rfl,rfl,_,rfl,?_⟩
  rw [List.length_map,hl0]
  refine ite2 (fun c=>?_) (fun c=>?_)
  ·have hjn:j < n:=by
    have:=of_decide_eq_true c
    omega
   refine ⟨_,fun σ' H' z=>z,?_⟩
   refine ⟨zl,fun E hE=>?_⟩
   have s3:=Same.new (o:=HO.lst []) hE
   have nE:H E=none:=s2.free hE
   refine ⟨_,rfl,D,rfl,⟨_,SqL.of (s3 _ _ T.at')⟩,for_list (K:=K) (a:=D) (xs:=gs.map V.ref) (fun i σ H3=>∃ es o4,σ=[some (.int b),some (.int n),some (.ref D),some (.ref E),o4]∧Same H2 H3∧LT H2 H3 E es (winTo b j i)) ?_ ?_ ?_ ?_⟩
   ·exact ⟨[],_,rfl,s3,⟨upd_same,hE,(fun _ z=>by cases z),.nil⟩⟩
   ·rintro i σ H3 _ ⟨_,_,_,s,_⟩
    exact SqL.of (s _ _ T.at')
   ·rintro i x σ H3 hi ⟨es,o4,rfl,s4,T4⟩
    obtain ⟨g,eg,rfl⟩:∃ g,gs[i]? = some g∧x=V.ref g:=by
     rw [List.getElem?_map] at hi
     cases e:gs[i]? with
     | none=>rw [e] at hi;cases hi
     | some g=>rw [e] at hi;exact ⟨g,rfl,(Option.some.inj hi).symm⟩
    obtain ⟨ys,ey,hg⟩:=paired_getL T.ll i _ eg
    have hyl:ys.length=j:=(mem_wins.mp (List.mem_of_getElem? ey)).1
    refine ⟨_,rfl,.inl ⟨rfl,_,SqL.of T4.at'⟩,_,rfl,b,rfl,by omega,by omega,?_⟩
    refine block_rel (Walk.rng 0 b.toNat) (by omega) rfl (fun _=>true) (fun D' k y H'=>∃ a,y=V.ref a∧a≠D'∧H3 a=none∧H' a=some (.lst ((ys++[(k:Int)]).map V.int))) (lists_mono (f:=fun k=>ys++[(k:Int)]) (N:=fun a=>H3 a=none))
     (fun k H4 Q' _ _ q'=>q' _ (Same.refl _)) (fun D' k zs H4 Q' hk _ hD' hD4 s5 q'=>?_) (fun D' zs H4 hD' s5 hDl pr=>?_)
    ·refine ⟨_,rfl,_,rfl,zl,fun c hc=>?_⟩
     have t1:=Same.new (o:=HO.lst [V.int (0+(k:Int))]) hc
     refine ⟨g,c,_,_,rfl,rfl,t1 _ _ (s5 _ _ (s4 _ _ hg)),upd_same,?_,fun d hd=>?_⟩
     ·rw [List.length_map]
      exact Nat.le_of_lt (small1000 (by show ys.length+1≤1000;omega))
     have t2:=Same.new (o:=HO.lst (ys.map V.int++[V.int (0+(k:Int))])) hd
     refine q' _ _ (t1.trans t2) ⟨d,rfl,(ne_of_none (t1 _ _ hD4) hd).symm,(s5.trans t1).free hd,?_⟩
     rw [upd_same,List.map_append,Int.zero_add]
     rfl
    ·obtain ⟨cs,rfl,hLL,hN⟩:=paired_lists (f:=fun k=>ys++[(k:Int)]) (N:=fun a=>H3 a=none) pr
     rw [List.filter_eq_self.mpr (fun _ _=>rfl),show (List.range b.toNat).map (fun k:Nat=>ys++[(k:Int)])=(figsOf b).map fun f=>ys++[f] by unfold figsOf;rw [List.map_map];rfl] at hLL
     refine ⟨E,D',_,_,rfl,rfl,s5 _ _ T4.at',hDl,?_,?_⟩
     ·have h1:=hLL.length
      have h2:=T4.ll.length
      rw [List.length_map,length_figsOf] at h1
      have h3:(winTo b j i).length≤10000:=by
       unfold winTo
       rw [length_flat (n:=b.toNat) _ fun x _=>by rw [List.length_map,length_figsOf],List.length_take]
       calc (min i (wins b j).length) * b.toNat≤1000 * 10:=Nat.mul_le_mul (by omega) (by omega)
        _=10000:=rfl
      rw [List.length_map,List.length_map]
      exact Nat.le_of_lt (smallM (by omega))
     ·have T5:=T4.ext s4 s5 hN hLL
      rw [← winTo_succ b j i ey] at T5
      exact ⟨es++cs,_,rfl,(s4.trans s5).put hE,T5⟩
   ·rintro σ H3 ⟨es,o4,rfl,s4,T4⟩
    rw [List.length_map,hgl,show winTo b j (wins b j).length=wins b (j+1) by unfold winTo;rw [List.take_length];rfl] at T4
    refine ⟨_,rfl,n-(j+1),by omega,j+1,E,es,_,_,rfl,s2.trans s4,⟨T4.at',nE,fun a ha=>⟨s2.free (T4.new a ha).1,(T4.new a ha).2⟩,T4.ll⟩,by omega,rfl⟩
  ·have hjn:j=n:=by
    have:=of_decide_eq_false (Bool.eq_false_iff.mpr c)
    omega
   subst hjn
   exact ⟨_,rfl,q D gs H2 s2 T⟩
end
end My
namespace My
open PySem L2 PyProof.Rows
def PrAt (H:Hp) (N:Addr→Prop) (a:Addr) (p:List Int×List Int):Prop:=∃ x y,H a=some (.tup [.ref x,.ref y])∧H x=some (.lst (p.1.map V.int))∧H y=some (.lst (p.2.map V.int))∧N x∧N y
def PrL (H:Hp) (N:Addr→Prop) (as:List Addr) (ps:List (List Int×List Int)):Prop:=Paired (PrAt H N) as ps
theorem PrAt.fr {H H':Hp}{N:Addr→Prop}{E:Addr}{zs:List V}{a:Addr}{p:List Int×List Int} (hE:H E=some (.lst zs)) (fr:∀ b o,b≠E→H b=some o→H' b=some o) (hN:∀ x,N x→x≠E) (h:PrAt H N a p):PrAt H' N a p:=by
 obtain ⟨x,y,h1,h2,h3,h4,h5⟩:=h
 exact ⟨x,y,fr _ _ (ne_of h1 hE (by intro z;cases z)) h1,fr _ _ (hN x h4) h2,fr _ _ (hN y h5) h3,h4,h5⟩
theorem PrAt.same {H H':Hp}{N:Addr→Prop}{a:Addr}{p:List Int×List Int} (s:Same H H') (h:PrAt H N a p):PrAt H' N a p:=by
 obtain ⟨x,y,h1,h2,h3,h4,h5⟩:=h
 exact ⟨x,y,s _ _ h1,s _ _ h2,s _ _ h3,h4,h5⟩
theorem PrAt.weak {H:Hp}{N M:Addr→Prop}{a:Addr}{p:List Int×List Int} (m:∀ x,N x→M x) (h:PrAt H N a p):PrAt H M a p:=by
 obtain ⟨x,y,h1,h2,h3,h4,h5⟩:=h
 exact ⟨x,y,h1,h2,h3,m x h4,m y h5⟩
theorem PrL.same {H H':Hp}{N:Addr→Prop}{as:List Addr}{ps:List (List Int×List Int)} (s:Same H H') (h:PrL H N as ps):PrL H' N as ps:=paired_imp (fun _ _ h=>h.same s) h
theorem PrL.fr {H H':Hp}{N:Addr→Prop}{E:Addr}{zs:List V}{as:List Addr}{ps:List (List Int×List Int)} (hE:H E=some (.lst zs)) (fr:∀ b o,b≠E→H b=some o→H' b=some o) (hN:∀ x,N x→x≠E) (h:PrL H N as ps):PrL H' N as ps:=paired_imp (fun _ _ h=>h.fr hE fr hN) h
theorem PrL.weak {H:Hp}{N M:Addr→Prop}{as:List Addr}{ps:List (List Int×List Int)} (m:∀ x,N x→M x) (h:PrL H N as ps):PrL H M as ps:=paired_imp (fun _ _ h=>h.weak m) h
theorem PrL.length {H:Hp}{N:Addr→Prop}{as:List Addr}{ps:List (List Int×List Int)} (h:PrL H N as ps):as.length=ps.length:=paired_length h
theorem upd_fr {H:Hp}{E:Addr}{o':HO}:∀ b o,b≠E→H b=some o→upd H E o' b=some o:=fun b o n h=>by
 rw [upd_ne n]
 exact h
theorem pairs_mono {f:Nat→List Int×List Int}{N:Addr→Prop} (D:Addr) (k:Nat) (v:V) (ys:List V) (H H':Hp) (fr:∀ b o,b≠D→H b=some o→H' b=some o) (hD:H D=some (.lst ys)) (h:∃ a,v=V.ref a∧PrAt H (fun x=>N x∧x≠D) a (f k)):∃ a,v=V.ref a∧PrAt H' (fun x=>N x∧x≠D) a (f k):=by
 obtain ⟨a,e,h⟩:=h
 exact ⟨a,e,h.fr hD fr fun _ z=>z.2⟩
theorem paired_prs {H:Hp}{N:Addr→Prop}{f:Nat→List Int×List Int}:∀ {ys:List V}{ks:List Nat},Paired (fun y k=>∃ a,y=V.ref a∧PrAt H N a (f k)) ys ks→∃ as:List Addr,ys=as.map V.ref∧PrL H N as (ks.map f)
 | _,_,.nil=>⟨[],rfl,.nil⟩
 | _,_,.cons ⟨a,e,h⟩ t=>by
  obtain ⟨as,e2,h2⟩:=paired_prs t
  exact ⟨a :: as,by rw [e,e2];rfl,.cons h h2⟩
def slipTo (b:Int) (k:Kd) (i:Nat):List (List Int×List Int):=((wins b (wid k)).take i).flatMap fun w=>(wr b k w).map fun m=>(w,m)
theorem slipTo_succ (b:Int) (k:Kd) (i:Nat) {w:List Int} (h:(wins b (wid k))[i]? = some w):slipTo b k (i+1)=slipTo b k i++(wr b k w).map fun m=>(w,m):=by
 unfold slipTo
 obtain ⟨hi,e⟩:=List.getElem?_eq_some_iff.mp h
 rw [List.take_succ_eq_append_getElem hi,List.flatMap_append,e]
 simp
theorem length_flat_le {α β:Type}{f:α→List β}{n:Nat}:∀ (l:List α),(∀ x∈l,(f x).length≤n)→(l.flatMap f).length≤l.length * n
 | [],_=>by simp
 | x :: l,h=>by
  have h1:=length_flat_le l fun y hy=>h y (by simp [hy])
  have h2:=h x (by simp)
  rw [List.flatMap_cons,List.length_append,List.length_cons,Nat.succ_mul]
  omega
theorem wr_len1 (b:Int) (k:Kd) (h:k=.swap∨k=.jump∨k=.out) (w:List Int):(wr b k w).length≤1:=by
 rcases h with rfl | rfl | rfl
 ·show (if fstI w=lstI w then [] else _:List (List Int)).length≤1
  split<;>simp
 ·show (if fstI w=lstI w then [] else _:List (List Int)).length≤1
  split<;>simp
 ·exact Nat.le_refl 1
theorem slipTo_len (b:Int) (k:Kd) (i:Nat) (b2:b≤10):(slipTo b k i).length≤1000:=by
 have hw:=length_wins b (wid k)
 have hp:∀ n,b.toNat ^ n≤10 ^ n:=fun n=>Nat.pow_le_pow_left (by omega) _
 unfold slipTo
 have key:∀ n,(∀ w,(wr b k w).length≤n)→10 ^ wid k * n≤1000→(((wins b (wid k)).take i).flatMap fun w=>(wr b k w).map fun m=>(w,m)).length≤1000:=fun n h1 h2=>by
  refine Nat.le_trans (length_flat_le (n:=n) _ fun x _=>by rw [List.length_map];exact h1 x) (Nat.le_trans (Nat.mul_le_mul_right n ?_) h2)
  rw [List.length_take]
  have:=hp (wid k)
  omega
 cases k with
 | one=>exact key 10 (fun w=>wr_len b _ w b2) (by decide)
 | twin=>exact key 10 (fun w=>wr_len b _ w b2) (by decide)
 | swap=>exact key 1 (fun w=>wr_len1 b _ (.inl rfl) w) (by decide)
 | jump=>exact key 1 (fun w=>wr_len1 b _ (.inr (.inl rfl)) w) (by decide)
 | out=>exact key 1 (fun w=>wr_len1 b _ (.inr (.inr rfl)) w) (by decide)
def spSlipped (K:PySem.W.Frag):Sp:=fun vs H Q _=>∃ (k:Kd) (b:Int),vs=[.str (kst k),.int b]∧2≤b∧b≤10∧∀ D as H',Same H H'→H D=none→H' D=some (.lst (as.map V.ref))→PrL H' (fun x=>H x=none) as (slipP b k)→Q (.ref D) H'
def spJoined (K:PySem.W.Frag):Sp:=fun vs H Q _=>∃ (a:Addr) (as:List Addr) (ps:List (List Int×List Int)) (N:Addr→Prop),vs=[.ref a]∧H a=some (.lst (as.map V.ref))∧PrL H N as ps∧ps.length≤10000∧(∀ p∈ps,p.1.length≤10∧p.2.length≤10) ∧
 ∀ t x y H',Same H H'→H' t=some (.tup [.ref x,.ref y])→H x=none→H y=none→x≠y→H' x=some (.lst ((ps.flatMap (·.1)).map V.int))→H' y=some (.lst ((ps.flatMap (·.2)).map V.int))→Q (.ref t) H'
theorem flat_len {α:Type}{f:α→List Int}:∀ (l:List α),(∀ x∈l,(f x).length≤10)→(l.flatMap f).length≤l.length * 10:=fun l h=>length_flat_le l h
section
variable {P:Program}{w:World}{K:PySem.W.Frag}{mg:Str→Option Value}{base:Heap}
abbrev s_slipped_pairs:Stmt:=top 41
theorem sc_slipped_pairs:FnScope ["kind","base","pairs","window"] ["kind","base"] (defScope s_slipped_pairs):=fS
theorem ok_slipped_pairs {f:Addr}{fd:FuncData} (F:Fun K "slipped_pairs" "slipped_pairs" s_slipped_pairs f fd) (B:Blt mg) (Wd:WidthsAt P w K mg) (h_all_windows:Has P w K mg base "all_windows" 1 ["base","width"] spWins) (h_writings:Has P w K mg base "writings" 1 ["kind","window","base"] (spWritings K)) :
  FnOk P w K mg base CX0 2 f fd ["kind","base"] (spSlipped K):=by
 refine F.ok sc_slipped_pairs (fun vs H Q E h=>?_) (fun cdv A outer s H vs Q E hr h=>?_)
 ·obtain ⟨_,_,rfl,_⟩:=h
  rfl
 ·obtain ⟨k,b,rfl,b1,b2,q⟩:=h
  obtain ⟨aW,mW,T⟩:=Wd.at'
  have nd:=sc_slipped_pairs.nd
  have hwk:=wid_pos k
  refine ⟨_,(pss_cons (ps_set (i:=2) nd rfl (Or.inl rfl) (pe_lst pa_nil))
   (pss_cons (ps_for PassesOwn.never rfl (pi_list (pe_fn h_all_windows (hm hr) (pa_cons (pv 1) (pa_cons (pe_tabIx (pe_glob (v:=.ref aW) rfl mW rfl) (pv 0) (fun _ _=>rfl)) pa_nil)))) (pg_name (i:=3) nd rfl (Or.inr rfl)) (pss_one (ps_expr (pe_bm PySem.F.plainAttrs_list PySem.F.slot_list_extend PySem.F.type_list_extend mt_extend (pv 2) (pa_cons (pe_comp (N:=["written","window"]) (js:=[none,some 3]) rfl rfl (pi_list (pe_fn h_writings (hm hr) (pa_cons (pv 0) (pa_cons (pv 3) (pa_cons (pv 1) pa_nil))))) (fun _ _ _ _=>(pg_name (i:=0) (ndOf (N:=["written","window"]) (by decide +kernel)) rfl (Or.inl rfl))) (fun _ _ _ _=>pts_nil) (fun _ _ _ _=>(pe_tup (pa_cons (pv 1) (pa_cons (pv 0) pa_nil))))) pa_nil)))))
   (pss_one (ps_ret (pv 2))))),?_⟩
  refine ⟨zl,fun E hE=>?_⟩
  have s1:=Same.new (o:=HO.lst []) hE
  refine ⟨_,rfl,_,rfl,aW,_,WD,_,rfl,rfl,T,wd_look k,b,wid k,rfl,b1,b2,by omega,fun D gs H2 s2 LW=>?_⟩
  have hE2:=s2 _ _ (upd_same (H:=H) (a:=E) (o:=.lst []))
  have hDE:D≠E:=(ne_of_none upd_same LW.newD).symm
  have hgE:∀ g∈gs,g≠E:=fun g hg=>(ne_of_none upd_same (LW.new g hg).1).symm
  have s02:=s1.trans s2
  refine ⟨D,rfl,⟨_,SqL.of LW.at'⟩,for_list (K:=K) (a:=D) (xs:=gs.map V.ref) (fun i σ H3=>∃ es o3,σ=[some (.str (kst k)),some (.int b),some (.ref E),o3]∧Same H H3∧(∀ b o,b≠E→H2 b=some o→H3 b=some o)∧H3 E=some (.lst (es.map V.ref))∧PrL H3 (fun x=>H x=none∧x≠E) es (slipTo b k i)) ?_ ?_ ?_ ?_⟩
  ·exact ⟨[],_,rfl,s02,fun _ _ _ h=>h,hE2,.nil⟩
  ·rintro i σ H3 _ ⟨_,_,_,_,fr,_⟩
   exact SqL.of (fr _ _ hDE LW.at')
  ·rintro i x σ H3 hi ⟨es,o3,rfl,s3,fr,hE3,PL⟩
   obtain ⟨g,eg,rfl⟩:∃ g,gs[i]? = some g∧x=V.ref g:=by
    rw [List.getElem?_map] at hi
    cases e:gs[i]? with
    | none=>rw [e] at hi;cases hi
    | some g=>rw [e] at hi;exact ⟨g,rfl,(Option.some.inj hi).symm⟩
   have hgm:=List.mem_of_getElem? eg
   obtain ⟨ys,ey,hg2⟩:=paired_getL LW.ll i _ eg
   have hg:=fr _ _ (hgE g hgm) hg2
   have hyl:ys.length=wid k:=(mem_wins.mp (List.mem_of_getElem? ey)).1
   have hg0:H g=none:=s1.free (LW.new g hgm).1
   refine ⟨_,rfl,.inl ⟨rfl,_,SqL.of hE3⟩,_,rfl,_,rfl,_,rfl,k,g,ys,b,rfl,SqL.of hg,hyl,b1,b2,fun W ws H4 s4 hW hWl hWL hN=>?_⟩
   have hwr:=wr_len b k ys b2
   have hwl:=hWL.length
   have hE4:=s4 _ _ hE3
   have wk:=Walk.lst (K:=K) (SqL.of hWl)
   rw [List.length_map] at wk
   refine ⟨W,rfl,⟨_,SqL.of hWl⟩,?_⟩
   refine block_rel wk (by omega) rfl (fun _=>true) (fun D' j y H'=>∃ a,y=V.ref a∧PrAt H' (fun x=>(H x=none∧x≠E)∧x≠D') a (ys,(wr b k ys).getD j [])) (pairs_mono (f:=fun j=>(ys,(wr b k ys).getD j [])) (N:=fun x=>H x=none∧x≠E))
    (fun j H5 Q' _ _ q'=>q' _ (Same.refl _)) (fun D' j zs H5 Q' hj _ hD' hD5 s5 q'=>?_) (fun D' zs H5 hD' s5 hDl pr=>?_)
   ·rw [ref_getD hj]
    have hjw:j < (wr b k ys).length:=by omega
    obtain ⟨c,ec,hc⟩:=paired_get hWL j _ (List.getElem?_eq_getElem hjw)
    have ecd:ws.getD j 0=c:=by rw [List.getD_eq_getElem?_getD,ec];rfl
    have emd:(wr b k ys).getD j []=(wr b k ys)[j]:=by rw [List.getD_eq_getElem?_getD,List.getElem?_eq_getElem hjw];rfl
    rw [ecd]
    have hcn:=hN c (List.mem_of_getElem? ec)
    refine ⟨_,rfl,_,rfl,zl,fun a ha=>q' _ _ (Same.new ha) ⟨a,rfl,g,c,upd_same,(Same.new ha) _ _ (s5 _ _ (s4 _ _ hg)),?_,⟨⟨hg0,hgE g hgm⟩,?_⟩,⟨⟨s3.free hcn,?_⟩,?_⟩⟩⟩
    ·rw [emd]
     exact (Same.new ha) _ _ (s5 _ _ hc)
    ·exact ne_of_none (s4 _ _ hg) hD'
    ·exact (ne_of_none hE3 hcn).symm
    ·exact ne_of_none hc hD'
   ·obtain ⟨cs,rfl,hP⟩:=paired_prs (f:=fun j=>(ys,(wr b k ys).getD j [])) pr
    rw [List.filter_eq_self.mpr (fun _ _=>rfl),hwl,range_map_getD (wr b k ys) [] (fun m=>(ys,m))] at hP
    refine ⟨E,D',_,_,rfl,rfl,s5 _ _ hE4,hDl,?_,es++cs,_,rfl,((s3.trans s4).trans s5).put hE,fun a o n h=>?_,?_,?_⟩
    ·have h1:=PL.length
     have h2:=hP.length
     have h3:=slipTo_len b k i b2
     rw [List.length_map] at h2
     rw [List.length_map,List.length_map]
     exact Nat.le_of_lt (smallM (by omega))
    ·rw [upd_ne n]
     exact s5 _ _ (s4 _ _ (fr _ _ n h))
    ·rw [upd_same,List.map_append]
    ·rw [slipTo_succ b k i ey]
     exact paired_append ((PL.same (s4.trans s5)).fr (s5 _ _ hE4) upd_fr fun _ z=>z.2) ((hP.weak fun _ z=>z.1).fr (s5 _ _ hE4) upd_fr fun _ z=>z.2)
  ·rintro σ H3 ⟨es,o3,rfl,s3,fr,hE3,PL⟩
   rw [List.length_map,LW.ll.length,show slipTo b k (wins b (wid k)).length=slipP b k by unfold slipTo;rw [List.take_length];rfl] at PL
   exact ⟨_,rfl,q E es H3 s3 hE hE3 (PL.weak fun _ z=>z.1)⟩
abbrev s_joined:Stmt:=top 44
theorem sc_joined:FnScope ["pairs","number","written","pair"] ["pairs"] (defScope s_joined):=fS
theorem ok_joined {f:Addr}{fd:FuncData} (F:Fun K "joined" "joined" s_joined f fd) (B:Blt mg)   :
  FnOk P w K mg base CX0 1 f fd ["pairs"] (spJoined K):=by
 refine F.ok sc_joined (fun vs H Q E h=>?_) (fun cdv A outer s H vs Q E hr h=>?_)
 ·obtain ⟨_,_,_,_,rfl,_⟩:=h
  rfl
 ·obtain ⟨a,as,ps,N,rfl,hA,PL,hl,hi,q⟩:=h
  have nd:=sc_joined.nd
  refine ⟨_,(pss_cons (ps_set (i:=1) nd rfl (Or.inl rfl) (pe_lst pa_nil))
   (pss_cons (ps_set (i:=2) nd rfl (Or.inl rfl) (pe_lst pa_nil))
   (pss_cons (ps_for PassesOwn.never rfl (pi_list (pv 0)) (pg_name (i:=3) nd rfl (Or.inl rfl)) (pss_cons (ps_expr (pe_bm PySem.F.plainAttrs_list PySem.F.slot_list_extend PySem.F.type_list_extend mt_extend (pv 1) (pa_cons (pe_ix ix_tup (pv 3) pe_int (fun _ _=>rfl)) pa_nil)))
   (pss_one (ps_expr (pe_bm PySem.F.plainAttrs_list PySem.F.slot_list_extend PySem.F.type_list_extend mt_extend (pv 2) (pa_cons (pe_ix ix_tup (pv 3) pe_int (fun _ _=>rfl)) pa_nil))))))
   (pss_one (ps_ret (pe_tup (pa_cons (pv 1) (pa_cons (pv 2) pa_nil)))))))),?_⟩
  refine ⟨zl,fun x hx=>?_⟩
  have s1:=Same.new (o:=HO.lst []) hx
  refine ⟨zl,fun y hy=>?_⟩
  have s2:=Same.new (o:=HO.lst []) hy
  have hxy:x≠y:=ne_of_none upd_same hy
  have s12:=s1.trans s2
  refine ⟨_,rfl,a,rfl,⟨_,SqL.of (s12 _ _ hA)⟩,for_list (K:=K) (a:=a) (xs:=as.map V.ref) (fun i σ H3=>∃ o3,σ=[some (.ref a),some (.ref x),some (.ref y),o3]∧Same H H3∧H3 x=some (.lst (((ps.take i).flatMap (·.1)).map V.int))∧H3 y=some (.lst (((ps.take i).flatMap (·.2)).map V.int))) ?_ ?_ ?_ ?_⟩
  ·exact ⟨_,rfl,s12,s2 _ _ upd_same,upd_same⟩
  ·rintro i σ H3 _ ⟨_,_,s,_⟩
   exact SqL.of (s _ _ hA)
  ·rintro i v σ H3 hiv ⟨o3,rfl,s3,hx3,hy3⟩
   obtain ⟨c,ec,rfl⟩:∃ c,as[i]? = some c∧v=V.ref c:=by
    rw [List.getElem?_map] at hiv
    cases e:as[i]? with
    | none=>rw [e] at hiv;cases hiv
    | some g=>rw [e] at hiv;exact ⟨g,rfl,(Option.some.inj hiv).symm⟩
   obtain ⟨p,ep,u,v,h1,h2,h3,_,_⟩:=paired_getL PL i _ ec
   obtain ⟨hil,epi⟩:=List.getElem?_eq_some_iff.mp ep
   have hpl:=hi p (List.mem_of_getElem? ep)
   have y0:H y=none:=s1.free hy
   have hux:u≠x:=ne_of_none h2 hx
   have hvx:v≠x:=ne_of_none h3 hx
   have hvy:v≠y:=ne_of_none h3 y0
   have l1:=flat_len (f:=fun p:List Int×List Int=>p.1) (ps.take i) fun p hp=>(hi p (List.mem_of_mem_take hp)).1
   have l2:=flat_len (f:=fun p:List Int×List Int=>p.2) (ps.take i) fun p hp=>(hi p (List.mem_of_mem_take hp)).2
   rw [List.length_take] at l1 l2
   refine ⟨_,rfl,.inl ⟨rfl,_,SqL.of hx3⟩,_,rfl,c,_,0,_,rfl,rfl,SqT.of (s3 _ _ h1),rfl,x,u,_,_,rfl,rfl,hx3,s3 _ _ h2,?_,?_⟩
   ·rw [List.length_map,List.length_map]
    exact Nat.le_of_lt (smallM (by omega))
   have s4:=s3.put (o:=.lst (((ps.take i).flatMap (·.1)).map V.int++p.1.map V.int)) hx
   have hy4:upd H3 x (.lst (((ps.take i).flatMap (·.1)).map V.int++p.1.map V.int)) y=some (.lst (((ps.take i).flatMap (·.2)).map V.int)):=by
    rw [upd_ne hxy.symm]
    exact hy3
   refine ⟨_,rfl,.inl ⟨rfl,_,SqL.of hy4⟩,_,rfl,c,_,1,_,rfl,rfl,SqT.of (s4 _ _ h1),rfl,y,v,_,_,rfl,rfl,hy4,s4 _ _ h3,?_,_,rfl,s4.put y0,?_,?_⟩
   ·rw [List.length_map,List.length_map]
    exact Nat.le_of_lt (smallM (by omega))
   ·rw [upd_ne hxy,upd_same,List.take_succ_eq_append_getElem hil,List.flatMap_append,List.map_append,epi]
    simp
   ·rw [upd_same,List.take_succ_eq_append_getElem hil,List.flatMap_append,List.map_append,epi]
    simp
  ·rintro σ H3 ⟨o3,rfl,s3,hx3,hy3⟩
   rw [List.length_map,PL.length,List.take_length] at hx3 hy3
   refine ⟨_,rfl,_,rfl,zl,fun t ht=>?_⟩
   have s4:=Same.new (o:=HO.tup [V.ref x,V.ref y]) ht
   exact q t x y _ (s3.trans s4) upd_same hx (s1.free hy) hxy (s4 _ _ hx3) (s4 _ _ hy3)
end
end My
namespace My
open PySem L2 PyProof.Rows
def spotsN (ts:List Tab):List (Int×Int):=(List.range ts.length).flatMap fun t:Nat=>(List.range (nst ts)).map fun s:Nat=>((t:Int),(s:Int))
def univU (ts:List Tab):List PyData:=(spotsN ts).map n1++(spotsN ts).flatMap fun q=>(spotsN ts).map (n2 q)
theorem mem_spotsN {ts:List Tab}{q:Int×Int}:q∈spotsN ts↔∃ t s:Nat,q=((t:Int),(s:Int))∧t < ts.length∧s < nst ts:=by
 unfold spotsN
 rw [List.mem_flatMap]
 constructor
 ·rintro ⟨t,ht,h⟩
  obtain ⟨s,hs,rfl⟩:=List.mem_map.mp h
  exact ⟨t,s,rfl,List.mem_range.mp ht,List.mem_range.mp hs⟩
 ·rintro ⟨t,s,rfl,ht,hs⟩
  exact ⟨t,List.mem_range.mpr ht,List.mem_map.mpr ⟨s,List.mem_range.mpr hs,rfl⟩⟩
theorem length_spotsN (ts:List Tab):(spotsN ts).length=ts.length * nst ts:=by
 unfold spotsN
 rw [length_flat (n:=nst ts) _ fun x _=>by rw [List.length_map,List.length_range],List.length_range]
theorem length_univU {b:Int}{ts:List Tab} (o:Ok b ts):(univU ts).length≤5256:=by
 have:=o.t2
 have:=o.n2
 have h:(spotsN ts).length≤72:=by
  rw [length_spotsN]
  exact Nat.mul_le_mul (by omega:ts.length≤6) (by omega:nst ts≤12)
 unfold univU
 rw [List.length_append,List.length_map,length_flat (n:=(spotsN ts).length) _ fun x _=>by rw [List.length_map]]
 have:(spotsN ts).length * (spotsN ts).length≤72 * 72:=Nat.mul_le_mul h h
 omega
theorem mem_univU {ts:List Tab}{n:PyData}:n∈univU ts↔(∃ q∈spotsN ts,n=n1 q)∨∃ q∈spotsN ts,∃ r∈spotsN ts,n=n2 q r:=by
 unfold univU
 rw [List.mem_append,List.mem_map,List.mem_flatMap]
 constructor
 ·rintro (⟨q,h,rfl⟩ | ⟨q,h,h2⟩)
  ·exact .inl ⟨q,h,rfl⟩
  ·obtain ⟨r,h3,rfl⟩:=List.mem_map.mp h2
   exact .inr ⟨q,h,r,h3,rfl⟩
 ·rintro (⟨q,h,rfl⟩ | ⟨q,h,r,h2,rfl⟩)
  ·exact .inl ⟨q,h,rfl⟩
  ·exact .inr ⟨q,h,List.mem_map.mpr ⟨r,h2,rfl⟩⟩
theorem mvD_spots {b:Int}{ts:List Tab} (o:Ok b ts) {q:Int×Int} (h:q∈spotsN ts) {fs:List Int} (hf:figsIn b fs):mvD ts q fs∈spotsN ts:=by
 obtain ⟨t,s,rfl,ht,hs⟩:=mem_spotsN.mp h
 have:=o.rd_lt fs t (s:Int) (by omega) (by omega) hf
 refine mem_spotsN.mpr ⟨(t+fs.length) % ts.length,(rd ts t (s:Int) fs).toNat,?_,Nat.mod_lt _ o.t1,by omega⟩
 unfold mvD
 simp only [Int.toNat_natCast]
 rw [show (((rd ts t (s:Int) fs).toNat:Nat):Int)=rd ts t (s:Int) fs by omega]
theorem keptP_figs {b:Int}:∀ p∈keptP b,figsIn b p.1∧figsIn b p.2:=by
 intro p hp
 obtain ⟨f,hf,rfl⟩:=List.mem_map.mp hp
 have:=mem_figsOf.mp hf
 exact ⟨fun g hg=>by rw [List.mem_singleton.mp hg];exact this,fun g hg=>by rw [List.mem_singleton.mp hg];exact this⟩
theorem slipP_figs {b:Int}{k:Kd}:∀ p∈slipP b k,figsIn b p.1∧figsIn b p.2:=by
 intro p hp
 obtain ⟨h1,h2,h3⟩:=mem_slipP.mp hp
 exact ⟨h2,wr_figs h1 h2 _ h3⟩
def LabU (b:Int) (k:Kd) (ks ss:List Addr):V→PyData→Prop:=fun v d=>∃ (i:Nat) (a:Addr) (p:List Int×List Int),(ks++ss)[i]? = some a∧(keptP b++slipP b k)[i]? = some p∧v=.ref a∧d=pairD p
def Anyw:Addr→Prop:=fun _=>True
def grU (b:Int) (ts:List Tab) (k:Kd) (vT:V) (kD sD:Addr) (ks ss:List Addr):Gr :=
 ⟨succU b ts k,finU,n1 (0,0),univU ts,LabU b k ks ss,fun H=>TabsAt H vT ts∧H kD=some (.lst (ks.map V.ref))∧PrL H Anyw ks (keptP b)∧H sD=some (.lst (ss.map V.ref))∧PrL H Anyw ss (slipP b k)⟩
theorem grU_ok {b:Int}{ts:List Tab}{k:Kd}{vT:V}{kD sD:Addr}{ks ss:List Addr} (o:Ok b ts):GrOk (grU b ts k vT kD sD ks ss):=by
 have:=o.t1
 have:=o.n1
 refine ⟨mem_univU.mpr (.inl ⟨(0,0),mem_spotsN.mpr ⟨0,0,rfl,by omega,by omega⟩,rfl⟩),fun n hn l m hm=>?_,?_,fun H H' s h=>?_⟩
 ·rcases mem_univU.mp hn with ⟨q,hq,rfl⟩ | ⟨q,hq,r,hr,rfl⟩
  ·rcases List.mem_append.mp (show (l,m)∈(keptP b).map (fun p=>(pairD p,n1 (mvD ts (q.1,q.2) p.1)))++(slipP b k).map (fun p=>(pairD p,n2 (mvD ts (q.1,q.2) p.1) (mvD ts (q.1,q.2) p.2))) from hm) with h | h
   ·obtain ⟨p,hp,e⟩:=List.mem_map.mp h
    cases e
    exact mem_univU.mpr (.inl ⟨_,mvD_spots o hq (keptP_figs p hp).1,rfl⟩)
   ·obtain ⟨p,hp,e⟩:=List.mem_map.mp h
    cases e
    exact mem_univU.mpr (.inr ⟨_,mvD_spots o hq (slipP_figs p hp).1,_,mvD_spots o hq (slipP_figs p hp).2,rfl⟩)
  ·obtain ⟨p,hp,e⟩:=List.mem_map.mp (show (l,m)∈(keptP b).map (fun p=>(pairD p,n2 (mvD ts (q.1,q.2) p.1) (mvD ts (r.1,r.2) p.2))) from hm)
   cases e
   exact mem_univU.mpr (.inr ⟨_,mvD_spots o hq (keptP_figs p hp).1,_,mvD_spots o hr (keptP_figs p hp).2,rfl⟩)
 ·exact Nat.le_trans (length_univU o) (by decide)
 ·obtain ⟨h1,h2,h3,h4,h5⟩:=h
  exact ⟨h1.same s,s _ _ h2,h3.same s,s _ _ h4,h5.same s⟩
theorem key_n1 {K:PySem.W.Frag}{H:Hp}{a x:Addr}{q:Int×Int} (h:SqT K H a [.ref x,.non]) (hx:SqT K H x [.int q.1,.int q.2]):KeyAt K H false a (n1 q):=by
 refine ⟨.tup h rfl fun i y d h1 h2=>?_,rfl,by simp [n1,nodeD,PyData.depth,PyData.depthAll]⟩
 match i,h1,h2 with
 | 0,h1,h2=>cases h1;cases h2;exact (key_pair hx).kr
 | 1,h1,h2=>cases h1;cases h2;exact .non
 | i+2,h1,h2=>simp at h1
theorem key_n2 {K:PySem.W.Frag}{H:Hp}{a x y:Addr}{q r:Int×Int} (h:SqT K H a [.ref x,.ref y]) (hx:SqT K H x [.int q.1,.int q.2]) (hy:SqT K H y [.int r.1,.int r.2]):KeyAt K H false a (n2 q r):=by
 refine ⟨.tup h rfl fun i y d h1 h2=>?_,rfl,by simp [n2,nodeD,PyData.depth,PyData.depthAll]⟩
 match i,h1,h2 with
 | 0,h1,h2=>cases h1;cases h2;exact (key_pair hx).kr
 | 1,h1,h2=>cases h1;cases h2;exact (key_pair hy).kr
 | i+2,h1,h2=>simp at h1
theorem kr_ref {K:PySem.W.Frag}{H:Hp}{v:V}{t s:Int} (h:KR K H v (nodeD t s)):∃ a,v=.ref a∧SqT K H a [.int t,.int s]:=by
 have h0:=h
 cases h with
 | @tup a xs _ h1 h2 h3=>exact ⟨a,rfl,kr_pair h0⟩
theorem of_n1 {K:PySem.W.Frag}{H:Hp}{a:Addr}{q:Int×Int} (h:KeyAt K H false a (n1 q)):∃ x,SqT K H a [.ref x,.non]∧SqT K H x [.int q.1,.int q.2]:=by
 obtain ⟨h,_,_⟩:=h
 cases h with
 | @tup _ xs _ h1 h2 h3 =>
  obtain ⟨x,y,rfl⟩:=two_of h2
  obtain ⟨x',rfl,hx⟩:=kr_ref (h3 0 x (nodeD q.1 q.2) rfl rfl)
  have e2:=h3 1 y .none rfl rfl
  cases e2
  exact ⟨x',h1,hx⟩
theorem of_n2 {K:PySem.W.Frag}{H:Hp}{a:Addr}{q r:Int×Int} (h:KeyAt K H false a (n2 q r)):∃ x y,SqT K H a [.ref x,.ref y]∧SqT K H x [.int q.1,.int q.2]∧SqT K H y [.int r.1,.int r.2]:=by
 obtain ⟨h,_,_⟩:=h
 cases h with
 | @tup _ xs _ h1 h2 h3 =>
  obtain ⟨x,y,rfl⟩:=two_of h2
  obtain ⟨x',rfl,hx⟩:=kr_ref (h3 0 x (nodeD q.1 q.2) rfl rfl)
  obtain ⟨y',rfl,hy⟩:=kr_ref (h3 1 y (nodeD r.1 r.2) rfl rfl)
  exact ⟨x',y',h1,hx,hy⟩
section
variable {P:Program}{w:World}{K:PySem.W.Frag}{mg:Str→Option Value}{base:Heap}
abbrev s_ends_good:Stmt:=top 42
theorem sc_ends_good:FnScope ["node"] ["node"] (defScope s_ends_good):=fS
theorem ok_ends_good {f:Addr}{fd:FuncData} (F:Fun K "ends_good" "ends_good" s_ends_good f fd) (g:Gr) (ts:List Tab) (hfin:g.fin=finU) (huni:g.univ=univU ts):FnOk P w K mg base CX0 4 f fd ["node"] (spEnds K g):=by
 refine F.ok sc_ends_good (fun vs H Q E h=>?_) (fun cdv A outer s H vs Q E hr h=>?_)
 ·obtain ⟨_,_,rfl,_⟩:=h
  rfl
 ·obtain ⟨bn,n,rfl,hk,hu,_,q⟩:=h
  have nd:=sc_ends_good.nd
  have hq:=q H (Same.refl _)
  rw [hfin] at hq
  rw [huni] at hu
  refine ⟨_,(pss_one (ps_ret (pe_and (pe_cmpR op_notN (pe_ix ix_tup (pv 0) pe_int (fun _ _=>rfl)) pe_non (nomark _)) (pe_and (pe_cmpR op_eq (pe_ix ix_tup (pe_ix ix_tup (pv 0) pe_int (fun _ _=>rfl)) pe_int (fun _ _=>rfl)) pe_int (nomark _)) (pe_one (pe_cmpR op_eq (pe_ix ix_tup (pe_ix ix_tup (pv 0) pe_int (fun _ _=>rfl)) pe_int (fun _ _=>rfl)) pe_int (nomark _))))))),?_⟩
  rcases mem_univU.mp hu with ⟨r,hr',rfl⟩ | ⟨r,hr',r2,hr2,rfl⟩
  ·obtain ⟨x,h1,h2⟩:=of_n1 hk
   refine ⟨_,rfl,bn,_,1,_,rfl,rfl,h1,rfl,rfl,_,rfl,ifN (by decide) ?_⟩
   exact hq
  ·obtain ⟨x,y,h1,h2,h3⟩:=of_n2 hk
   rw [fin_n2] at hq
   refine ⟨_,rfl,bn,_,1,_,rfl,rfl,h1,rfl,rfl,_,rfl,ifY (by simp) ?_⟩
   refine ⟨_,rfl,bn,_,0,_,rfl,rfl,h1,rfl,x,_,1,_,rfl,rfl,h2,rfl,rfl,_,rfl,?_⟩
   by_cases e:r.2=0
   ·refine ifY (by simp [e]) ?_
    refine ⟨_,rfl,bn,_,1,_,rfl,rfl,h1,rfl,y,_,1,_,rfl,rfl,h3,rfl,rfl,?_⟩
    rw [decide_eq_true e,Bool.true_and] at hq
    rw [show decide (V.int r2.2=V.int 0)=decide (r2.2=0) by simp]
    exact hq
   ·refine ifN (by simp [e]) ?_
    rw [decide_eq_false e,Bool.false_and] at hq
    exact hq
end
end My
namespace My
open PySem L2 PyProof.Rows
def F2 (ts:List Tab) (q r:Int×Int) (p:List Int×List Int):PyData×PyData:=(pairD p,n2 (mvD ts q p.1) (mvD ts r p.2))
def F1 (ts:List Tab) (q:Int×Int) (p:List Int×List Int):PyData×PyData:=(pairD p,n1 (mvD ts q p.1))
def spPairSteps (K:PySem.W.Frag):Sp:=fun vs H Q _=>∃ (vT:V) (ts:List Tab) (b:Int) (sp ot D0:Addr) (q r:Int×Int) (as:List Addr) (ps:List (List Int×List Int)) (Lab:V→PyData→Prop),
 vs=[vT,.ref sp,.ref ot,.ref D0]∧TabsAt H vT ts∧Ok b ts∧SqT K H sp [.int q.1,.int q.2]∧SqT K H ot [.int r.1,.int r.2]∧q∈spotsN ts∧r∈spotsN ts∧H D0=some (.lst (as.map V.ref))∧PrL H Anyw as ps∧ps.length≤1000∧(∀ p∈ps,figsIn b p.1∧figsIn b p.2) ∧
 (∀ (i:Nat) a p,as[i]? = some a→ps[i]? = some p→Lab (.ref a) (pairD p)) ∧
 ∀ D ys H',Same H H'→H D=none→H' D=some (.lst ys)→Paired (StepAt K H' Lab) ys (ps.map (F2 ts q r))→Q (.ref D) H'
theorem steps_drop {K:PySem.W.Frag}{g:Gr}{cl:List (Str×Addr)}{frees:List Str}{fvs:List V} (hg:∀ H H':Hp,(∀ b o,(∀ φ,o≠HO.ext φ)→H b=some o→H' b=some o)→g.hp H→g.hp H') :
  ∀ v H Q,CellsX H cl frees fvs→spSteps K g [v] H Q E0→spSteps K g [v] (dropC H cl) (liftQ H cl Q) E0:=by
 rintro v H Q C ⟨b,n,e,hk,hu,hp,q⟩
 have dn:∀ a xs,SqT K H a xs→SqT K (dropC H cl) a xs:=fun a xs t=>by
  rcases t with (t | ⟨ob,t⟩) | t
  ·exact .inl (.inl (C.keep t (by intro φ z;cases z)))
  ·exact .inl (.inr ⟨ob,C.keep t (by intro φ z;cases z)⟩)
  ·exact .inr t
 refine ⟨b,n,e,hk.mono dn,hu,hg _ _ (fun b o n h=>C.keep h n) hp,fun D ys H' s hD hDl pr hN=>?_⟩
 have hDout:¬InCl cl D:=fun z=>by rw [hN D z] at hDl;cases hDl
 have back:∀ b o,H' b=some o→joinC H H' cl b=some o:=fun b o e=>by
  rw [joinC_out (fun z=>by rw [hN b z] at e;cases e)]
  exact e
 refine q D ys (joinC H H' cl) (fun b o e=>?_) ?_ (back _ _ hDl) (paired_imp (fun _ _ h=>h.mono fun a xs t=>?_) pr)
 ·by_cases z:InCl cl b
  ·rw [joinC_in z]
   exact e
  ·exact back _ _ (s _ _ (by rw [dropC_out z];exact e))
 ·rw [dropC_out hDout] at hD
  exact hD
 ·rcases t with (t | ⟨ob,t⟩) | t
  ·exact .inl (.inl (back _ _ t))
  ·exact .inl (.inr ⟨ob,back _ _ t⟩)
  ·exact .inr t
theorem tabs_drop {H H':Hp}{vT:V}{ts:List Tab} (s:∀ b o,(∀ φ,o≠HO.ext φ)→H b=some o→H' b=some o) (h:TabsAt H vT ts):TabsAt H' vT ts:=by
 obtain ⟨a1,vs,e1,h1,p1⟩:=h
 refine ⟨a1,vs,e1,s _ _ (by intro φ z;cases z) h1,paired_imp (fun x t hx=>?_) p1⟩
 obtain ⟨a2,vs2,e2,h2,p2⟩:=hx
 refine ⟨a2,vs2,e2,s _ _ (by intro φ z;cases z) h2,paired_imp (fun x r hx=>?_) p2⟩
 obtain ⟨a3,e3,h3⟩:=hx
 exact ⟨a3,e3,s _ _ (by intro φ z;cases z) h3⟩
theorem grU_drop {b:Int}{ts:List Tab}{k:Kd}{vT:V}{kD sD:Addr}{ks ss:List Addr} (H H':Hp) (s:∀ b o,(∀ φ,o≠HO.ext φ)→H b=some o→H' b=some o) (h:(grU b ts k vT kD sD ks ss).hp H):(grU b ts k vT kD sD ks ss).hp H':=by
 obtain ⟨h1,h2,h3,h4,h5⟩:=h
 have pr:∀ {as ps},PrL H Anyw as ps→PrL H' Anyw as ps:=fun h=>paired_imp (fun _ _ ⟨x,y,h1,h2,h3,h4,h5⟩=>⟨x,y,s _ _ (by intro φ z;cases z) h1,s _ _ (by intro φ z;cases z) h2,s _ _ (by intro φ z;cases z) h3,h4,h5⟩) h
 exact ⟨tabs_drop s h1,s _ _ (by intro φ z;cases z) h2,pr h3,s _ _ (by intro φ z;cases z) h4,pr h5⟩
section
variable {P:Program}{w:World}{K:PySem.W.Frag}{mg:Str→Option Value}{base:Heap}
abbrev s_pair_steps:Stmt:=top 43
theorem sc_pair_steps:FnScope ["tables","spot","other","pairs"] ["tables","spot","other","pairs"] (defScope s_pair_steps):=fS
theorem ok_pair_steps {f:Addr}{fd:FuncData} (F:Fun K "pair_steps" "pair_steps" s_pair_steps f fd) (B:Blt mg)  (h_moved:Has P w K mg base "moved" 1 ["tables","spot","figures"] (spMoved K)) :
  FnOk P w K mg base CX0 2 f fd ["tables","spot","other","pairs"] (spPairSteps K):=by
 refine F.ok sc_pair_steps (fun vs H Q E h=>?_) (fun cdv A outer s H vs Q E hr h=>?_)
 ·obtain ⟨_,_,_,_,_,_,_,_,_,_,_,rfl,_⟩:=h
  rfl
 ·obtain ⟨vT,ts,b,sp,ot,D0,q,r,as,ps,Lab,rfl,hT,ok,hq,hr',mq,mr,hD0,PL,hl,hfig,hLab,done⟩:=h
  have nd:=sc_pair_steps.nd
  obtain ⟨t,st,rfl,ht,hs⟩:=mem_spotsN.mp mq
  obtain ⟨u,v,rfl,hu,hv⟩:=mem_spotsN.mp mr
  have hpl:=PL.length
  have wk:=Walk.lst (K:=K) (SqL.of hD0)
  rw [List.length_map] at wk
  refine ⟨_,(pss_one (ps_ret (pe_comp (N:=["pair","tables","spot","other"]) (js:=[none,some 0,some 1,some 2]) rfl rfl (pi_list (pv 3)) (fun _ _ _ _=>(pg_name (i:=0) (ndOf (N:=["pair","tables","spot","other"]) (by decide +kernel)) rfl (Or.inl rfl))) (fun _ _ _ _=>pts_nil) (fun _ _ _ _=>(pe_tup (pa_cons (pv 0) (pa_cons (pe_tup (pa_cons (pe_fn h_moved (hm hr) (pa_cons (pv 1) (pa_cons (pv 2) (pa_cons (pe_ix (ix_tupK K) (pv 0) pe_int (fun _ _=>rfl)) pa_nil)))) (pa_cons (pe_fn h_moved (hm hr) (pa_cons (pv 1) (pa_cons (pv 3) (pa_cons (pe_ix (ix_tupK K) (pv 0) pe_int (fun _ _=>rfl)) pa_nil)))) pa_nil))) pa_nil))))))),?_⟩
  refine ⟨_,rfl,D0,rfl,⟨_,SqL.of hD0⟩,?_⟩
  refine block_rel wk (by omega) rfl (fun _=>true) (fun D k y H'=>StepAt K H' Lab y (F2 ts ((t:Int),(st:Int)) ((u:Int),(v:Int)) (ps.getD k ([],[])))) (fun D k v ys H1 H2 fr hD h=>h.mono (seqT_fr fr hD)) (fun k H3 Q' _ _ q'=>q' _ (Same.refl _)) (fun D k ys H3 Q' hk' _ hD hD3 s3 q'=>?_) (fun D ys H3 hD s3 hDl pr=>?_)
  ·rw [ref_getD hk']
   have hkp:k < ps.length:=by omega
   have ep:=List.getElem?_eq_getElem hkp
   have epd:ps.getD k ([],[])=ps[k]:=by rw [List.getD_eq_getElem?_getD,ep];rfl
   rw [epd] at q'
   have hfp:=hfig _ (List.getElem_mem hkp)
   generalize ps[k]=p at ep hfp q'
   obtain ⟨c,ec,x,y,h1,h2,h3,_,_⟩:=paired_get PL k _ ep
   have ecd:as.getD k 0=c:=by rw [List.getD_eq_getElem?_getD,ec];rfl
   rw [ecd]
   refine ⟨_,rfl,_,rfl,_,rfl,_,rfl,c,_,0,_,rfl,rfl,SqT.of (s3 _ _ h1),rfl,vT,ts,b,sp,x,t,(st:Int),p.1,rfl,hT.same s3,ok,s3.seqT hq,SqL.of (s3 _ _ h2),ht,by omega,by omega,hfp.1,fun q1 H4 s4 hq1=>?_⟩
   have s34:=s3.trans s4
   refine ⟨_,rfl,_,rfl,_,rfl,c,_,1,_,rfl,rfl,SqT.of (s34 _ _ h1),rfl,vT,ts,b,ot,y,u,(v:Int),p.2,rfl,hT.same s34,ok,s34.seqT hr',SqL.of (s34 _ _ h3),hu,by omega,by omega,hfp.2,fun q2 H5 s5 hq2=>?_⟩
   refine ⟨zl,fun n hn=>⟨zl,fun a ha=>?_⟩⟩
   have t1:=Same.new (o:=HO.tup [V.ref q1,V.ref q2]) hn
   have t2:=Same.new (o:=HO.tup [V.ref c,V.ref n]) ha
   refine q' _ _ (((s4.trans s5).trans t1).trans t2) ⟨a,V.ref c,n,rfl,SqT.of upd_same,hLab k c p ec ep,key_n2 (SqT.of (t2 _ _ upd_same)) (SqT.of ?_) (SqT.of ?_)⟩
   ·exact t2 _ _ (t1 _ _ (s5 _ _ hq1))
   ·exact t2 _ _ (t1 _ _ hq2)
  ·rw [List.filter_eq_self.mpr (fun _ _=>rfl)] at pr
   refine done D ys H3 s3 hD hDl ?_
   have:=paired_map_left (f:=fun k=>F2 ts ((t:Int),(st:Int)) ((u:Int),(v:Int)) (ps.getD k ([],[]))) (fun a b h=>h) pr
   rw [hpl,range_map_getD ps ([],[]) (F2 ts ((t:Int),(st:Int)) ((u:Int),(v:Int)))] at this
   exact this
abbrev s_slip_steps:Stmt:=top 45
abbrev s_slip_steps_steps:Stmt:=(defBody s_slip_steps).getD 3 (.Pass ⟨0,0,0,0⟩)
theorem sc_slip_steps_steps:FnScopeC ["node","kept","slipped","tables","ahead"] "node" ["kept","slipped","tables"] (defScope s_slip_steps_steps):=⟨rfl,rfl,rfl,by decide +kernel,rfl,by decide +kernel,by decide +kernel,by decide +kernel,by decide +kernel⟩
theorem ok_usteps (B:Blt mg) (h_moved:Has P w K mg base "moved" 1 ["tables","spot","figures"] (spMoved K)) (h_pair_steps:Has P w K mg base "pair_steps" 2 ["tables","spot","other","pairs"] (spPairSteps K)) {b:Int}{ts:List Tab} (ok:Ok b ts) (k:Kd) (vT:V) (kD sD:Addr) (ks ss:List Addr) (qual:Str) (cl:List (Str×Addr)) (doc pm ct:Value) (c:Addr) :
  FnOkC P w K mg base 4 (PySem.W.fnX "steps" qual (defArgs s_slip_steps_steps) (defBody s_slip_steps_steps) (defScope s_slip_steps_steps) cl .none .none doc pm none (.ref c) ct) "node" ["kept","slipped","tables"] [.ref kD,.ref sD,vT] (spSteps K (grU b ts k vT kD sD ks ss)):=by
 refine FnOkC.mono (clo_of (k:=2) sc_slip_steps_steps rfl (fun u=>rfl) (fun A outer s H f v Q hr h=>?_)) (by decide)
 obtain ⟨bn,n,e,hk,hu,hp,q⟩:=h
 cases e
 obtain ⟨hT,hkD,hkP,hsD,hsP⟩:=(show TabsAt H vT ts∧H kD=some (.lst (ks.map V.ref))∧PrL H Anyw ks (keptP b)∧H sD=some (.lst (ss.map V.ref))∧PrL H Anyw ss (slipP b k) from hp)
 have nd:=sc_slip_steps_steps.nd
 have lk:∀ (i:Nat) a p,ks[i]? = some a→(keptP b)[i]? = some p→LabU b k ks ss (.ref a) (pairD p):=fun i a p h1 h2=>by
  refine ⟨i,a,p,?_,?_,rfl,rfl⟩
  ·rw [List.getElem?_append_left (List.getElem?_eq_some_iff.mp h1).1]
   exact h1
  ·rw [List.getElem?_append_left (List.getElem?_eq_some_iff.mp h2).1]
   exact h2
 have ls:∀ (i:Nat) a p,ss[i]? = some a→(slipP b k)[i]? = some p→LabU b k ks ss (.ref a) (pairD p):=fun i a p h1 h2=>by
  refine ⟨ks.length+i,a,p,?_,?_,rfl,rfl⟩
  ·rw [List.getElem?_append_right (by omega),show ks.length+i-ks.length=i by omega]
   exact h1
  ·rw [hkP.length,List.getElem?_append_right (by omega),show (keptP b).length+i-(keptP b).length=i by omega]
   exact h2
 have hkl:(keptP b).length≤10:=by
  have:=ok.b2
  unfold keptP
  rw [List.length_map,length_figsOf]
  omega
 have hsl:(slipP b k).length≤1000:=by
  have:=slipTo_len b k (wins b (wid k)).length ok.b2
  rw [show slipTo b k (wins b (wid k)).length=slipP b k by unfold slipTo;rw [List.take_length];rfl] at this
  exact this
 refine ⟨_,(pss_cons (ps_if (pt_cmpR op_notN (pe_ix ix_tup (pv 0) pe_int (fun _ _=>rfl)) pe_non (nomark _)) (pss_one (ps_ret (pe_fn h_pair_steps (hm hr) (pa_cons (pv 3) (pa_cons (pe_ix ix_tup (pv 0) pe_int (fun _ _=>rfl)) (pa_cons (pe_ix ix_tup (pv 0) pe_int (fun _ _=>rfl)) (pa_cons (pv 1) pa_nil))))))) pss_nil)
   (pss_cons (ps_setC (i:=4) (N:=["pair","tables","node"]) (js:=[none,some 3,some 0]) nd rfl rfl rfl rfl (pi_list (pv 1)) (fun _ _ _ _=>(pg_name (i:=0) (ndOf (N:=["pair","tables","node"]) (by decide +kernel)) rfl (Or.inl rfl))) (fun _ _ _ _=>pts_nil) (fun _ _ _ _=>(pe_tup (pa_cons (pv 0) (pa_cons (pe_tup (pa_cons (pe_fn h_moved (hm hr) (pa_cons (pv 1) (pa_cons (pe_ix (ix_tupK K) (pv 2) pe_int (fun _ _=>rfl)) (pa_cons (pe_ix (ix_tupK K) (pv 0) pe_int (fun _ _=>rfl)) pa_nil)))) (pa_cons pe_non pa_nil))) pa_nil)))))
   (pss_one (ps_ret (pe_op op_cat (pv 4) (pe_fn h_pair_steps (hm hr) (pa_cons (pv 3) (pa_cons (pe_ix ix_tup (pv 0) pe_int (fun _ _=>rfl)) (pa_cons (pe_ix ix_tup (pv 0) pe_int (fun _ _=>rfl)) (pa_cons (pv 2) pa_nil)))))))))),?_⟩
 rcases mem_univU.mp hu with ⟨r,mr,rfl⟩ | ⟨r,mr,r2,mr2,rfl⟩
 ·obtain ⟨x,h1,h2⟩:=of_n1 hk
  refine ⟨_,rfl,bn,_,1,_,rfl,rfl,h1,rfl,rfl,_,rfl,ifN (by decide) ?_⟩
  have hpl:=hkP.length
  have wk:=Walk.lst (K:=K) (SqL.of hkD)
  rw [List.length_map] at wk
  obtain ⟨t,st,e,ht,hs⟩:=mem_spotsN.mp mr
  subst e
  refine ⟨_,rfl,kD,rfl,⟨_,SqL.of hkD⟩,?_⟩
  refine block_rel wk (by omega) rfl (fun _=>true) (fun D j y H'=>StepAt K H' (LabU b k ks ss) y (F1 ts ((t:Int),(st:Int)) ((keptP b).getD j ([],[])))) (fun D j v ys H1 H2 fr hD h=>h.mono (seqT_fr fr hD)) (fun j H3 Q' _ _ q'=>q' _ (Same.refl _)) (fun D j ys H3 Q' hj' _ hD hD3 s3 q'=>?_) (fun A ys H3 hA s3 hAl pr=>?_)
  ·rw [ref_getD hj']
   have hjp:j < (keptP b).length:=by omega
   have ep:=List.getElem?_eq_getElem hjp
   have epd:(keptP b).getD j ([],[])=(keptP b)[j]:=by rw [List.getD_eq_getElem?_getD,ep];rfl
   rw [epd] at q'
   have hfp:=keptP_figs _ (List.getElem_mem hjp)
   generalize (keptP b)[j]=p at ep hfp q'
   obtain ⟨c,ec,u,v,g1,g2,g3,_,_⟩:=paired_get hkP j _ ep
   have ecd:ks.getD j 0=c:=by rw [List.getD_eq_getElem?_getD,ec];rfl
   rw [ecd]
   refine ⟨_,rfl,_,rfl,_,rfl,bn,_,0,_,rfl,rfl,s3.seqT h1,rfl,_,rfl,c,_,0,_,rfl,rfl,SqT.of (s3 _ _ g1),rfl,vT,ts,b,x,u,t,(st:Int),p.1,rfl,hT.same s3,ok,s3.seqT h2,SqL.of (s3 _ _ g2),ht,by omega,by omega,hfp.1,fun q1 H4 s4 hq1=>?_⟩
   refine ⟨zl,fun n hn=>⟨zl,fun a ha=>?_⟩⟩
   have t1:=Same.new (o:=HO.tup [V.ref q1,V.non]) hn
   have t2:=Same.new (o:=HO.tup [V.ref c,V.ref n]) ha
   exact q' _ _ ((s4.trans t1).trans t2) ⟨a,V.ref c,n,rfl,SqT.of upd_same,lk j c p ec ep,key_n1 (SqT.of (t2 _ _ upd_same)) (SqT.of (t2 _ _ (t1 _ _ hq1)))⟩
  ·rw [List.filter_eq_self.mpr (fun _ _=>rfl)] at pr
   have pa:=paired_map_left (f:=fun j=>F1 ts ((t:Int),(st:Int)) ((keptP b).getD j ([],[]))) (fun a b h=>h) pr
   rw [hpl,range_map_getD (keptP b) ([],[]) (F1 ts ((t:Int),(st:Int)))] at pa
   refine ⟨_,rfl,_,rfl,_,rfl,bn,_,0,_,rfl,rfl,s3.seqT h1,rfl,_,rfl,bn,_,0,_,rfl,rfl,s3.seqT h1,rfl,_,rfl,vT,ts,b,x,x,sD,((t:Int),(st:Int)),((t:Int),(st:Int)),ss,slipP b k,LabU b k ks ss,rfl,hT.same s3,ok,s3.seqT h2,s3.seqT h2,mr,mr,s3 _ _ hsD,hsP.same s3,hsl,slipP_figs,ls,fun D2 ys2 H5 s5 hD2 hDl2 pr2=>?_⟩
   refine ⟨A,D2,_,_,rfl,rfl,s5 _ _ hAl,hDl2,?_,fun R hR=>?_⟩
   ·have l1:=paired_length pa
    have l2:=paired_length pr2
    rw [List.length_map] at l1 l2
    exact Nat.le_of_lt (smallM (by omega))
   have s6:=Same.new (o:=HO.lst (ys++ys2)) hR
   refine q R _ _ ((s3.trans s5).trans s6) ((s3.trans s5).free hR) upd_same ?_
   exact paired_append (paired_imp (fun _ _ h=>h.mono fun _ _ z=>s6.seqT (s5.seqT z)) pa) (paired_imp (fun _ _ h=>h.mono fun _ _ z=>s6.seqT z) pr2)
 ·obtain ⟨x,y,h1,h2,h3⟩:=of_n2 hk
  refine ⟨_,rfl,bn,_,1,_,rfl,rfl,h1,rfl,rfl,_,rfl,ifY (by simp) ?_⟩
  refine ⟨_,rfl,_,rfl,bn,_,0,_,rfl,rfl,h1,rfl,_,rfl,bn,_,1,_,rfl,rfl,h1,rfl,_,rfl,vT,ts,b,x,y,kD,r,r2,ks,keptP b,LabU b k ks ss,rfl,hT,ok,h2,h3,mr,mr2,hkD,hkP,by omega,keptP_figs,lk,fun D2 ys2 H5 s5 hD2 hDl2 pr2=>?_⟩
  exact q D2 ys2 H5 s5 hD2 hDl2 pr2
end
end My
namespace My
open PySem L2 PyProof.Rows
theorem ints_inj:∀ {xs ys:List Int},xs.map PyData.int=ys.map PyData.int→xs=ys
 | [],[],_=>rfl
 | [],_ :: _,h=>by simp at h
 | _ :: _,[],h=>by simp at h
 | x :: xs,y :: ys,h=>by
  rw [List.map_cons,List.map_cons] at h
  injection h with h1 h2
  injection h1 with h1
  rw [h1,ints_inj h2]
theorem pairD_inj {p q:List Int×List Int} (h:pairD p=pairD q):p=q:=by
 unfold pairD lstD at h
 injection h with h
 injection h with h1 h2
 injection h2 with h2 _
 injection h1 with h1
 injection h2 with h2
 exact Prod.ext (ints_inj h1) (ints_inj h2)
theorem lab_prs {b:Int}{k:Kd}{ks ss:List Addr}{H:Hp} (h:PrL H Anyw (ks++ss) (keptP b++slipP b k)):∀ {ps:List (List Int×List Int)}{lvs:List V},Paired (LabU b k ks ss) lvs (ps.map pairD)→∃ as,lvs=as.map V.ref∧PrL H Anyw as ps
 | [],_,.nil=>⟨[],rfl,.nil⟩
 | p :: ps,_,.cons ⟨i,a,p',e1,e2,e3,e4⟩ t=>by
  obtain ⟨as,e5,h2⟩:=lab_prs h t
  obtain rfl:=pairD_inj e4
  obtain ⟨a',e6,h3⟩:=paired_get h i _ e2
  rw [e1] at e6
  cases e6
  exact ⟨a :: as,by rw [e3,e5];rfl,.cons h3 h2⟩
def kp (f:Int):List Int×List Int:=([f],[f])
theorem kl_map (xs:List Int):xs.map kl=(xs.map kp).map pairD:=by
 rw [List.map_map]
 rfl
theorem flat1:∀ xs:List Int,(xs.map kp).flatMap (·.1)=xs
 | []=>rfl
 | x :: xs=>by
  rw [List.map_cons,List.flatMap_cons,flat1 xs]
  rfl
theorem flat2:∀ xs:List Int,(xs.map kp).flatMap (·.2)=xs
 | []=>rfl
 | x :: xs=>by
  rw [List.map_cons,List.flatMap_cons,flat2 xs]
  rfl
structure UnS (b:Int) (ts:List Tab) (k:Kd) (xs ys:List Int):Prop where
 fx:figsIn b xs
 fy:figsIn b ys
 gx:rd ts 0 0 xs=0
 gy:rd ts 0 0 ys=0
 sl:ys∈slp b k xs
def spUnseen (Pt:Addr) (qs:List (Pos×Str)):Sp:=fun vs H Q _=>∃ (v:V) (ts:List Tab) (b:Int) (k:Kd),vs=[v,.str (kst k)]∧SchAt H v b ts∧Ok b ts∧TabSt H Pt qs ∧
 (∀ H',Sam H H'→TabSt H' Pt qs→(∀ xs ys,¬UnS b ts k xs ys)→Q .non H') ∧
 (∀ t x y xs ys H',Sam H H'→TabSt H' Pt qs→H' t=some (.tup [.ref x,.ref y])→H x=none→H y=none→x≠y→H' x=some (.lst (xs.map V.int))→H' y=some (.lst (ys.map V.int))→UnS b ts k xs ys →
  (∀ xs' ys',UnS b ts k xs' ys'→xs.length≤xs'.length)→xs.length≤6000→ys.length≤6000→Q (.ref t) H')
def spSlipSteps (P:Program) (w:World) (K:PySem.W.Frag) (mg:Str→Option Value) (base:Heap) (Pt:Addr) (qs:List (Pos×Str)):Sp:=fun vs H Q _=>∃ (v:V) (ts:List Tab) (b:Int) (k:Kd),vs=[v,.str (kst k)]∧SchAt H v b ts∧Ok b ts∧TabSt H Pt qs ∧
 ∀ f kD sD ks ss vT H',Sam H H'→TabSt H' Pt qs→CloX P w K mg base 4 f (spSteps K (grU b ts k vT kD sD ks ss)) H'→(grU b ts k vT kD sD ks ss).hp H'→(∀ z,H' z=none→H z=none)→Q (.ref f) H'
theorem slp_figs {b:Int}{k:Kd}{xs ys:List Int} (hx:figsIn b xs) (h:ys∈slp b k xs):figsIn b ys:=by
 obtain ⟨as,w,cs,m,rfl,hw,hm,rfl⟩:=mem_slp.mp h
 have h2:=wr_figs hw (fun g z=>hx g (by simp [z])) m hm
 intro g hg
 rcases List.mem_append.mp hg with hg | hg
 ·rcases List.mem_append.mp hg with hg | hg
  ·exact hx g (by simp [hg])
  ·exact h2 g hg
 ·exact hx g (by simp [hg])
section
variable {P:Program}{w:World}{K:PySem.W.Frag}{mg:Str→Option Value}{base:Heap}
def qsU:List (Pos×Str):=[(defPos s_slip_steps_steps,"slip_steps.<locals>.steps")]
theorem farU1:farOk qsU (defPos s_slip_steps_steps) "slip_steps.<locals>.steps"=true:=by decide +kernel
theorem sc_slip_steps:FnScope ["scheme","kind","tables","kept","slipped","steps"] ["scheme","kind"] (defScope s_slip_steps):=fS
theorem ok_slip_steps {f c Pt:Addr}{fd:FuncData} (F:Fun K "slip_steps" "slip_steps" s_slip_steps f fd) (hfd:fd.code=.ref c) (B:Blt mg) (BM:BMain mg base) (CH:PySem.W.CodeHd base c Pt)
  (h_slipped_pairs:Has P w K mg base "slipped_pairs" 2 ["kind","base"] (spSlipped K))
  (h_moved:Has P w K mg base "moved" 1 ["tables","spot","figures"] (spMoved K)) (h_pair_steps:Has P w K mg base "pair_steps" 2 ["tables","spot","other","pairs"] (spPairSteps K)):FnOk P w K mg base CX0 5 f fd ["scheme","kind"] (spSlipSteps P w K mg base Pt qsU):=by
 refine F.okR hfd sc_slip_steps (fun vs H Q E h=>?_) (fun A outer s H vs Q E hr h=>?_)
 ·obtain ⟨_,_,_,_,rfl,_⟩:=h
  rfl
 ·obtain ⟨v,ts,b,k,rfl,hC,ok,T,q⟩:=h
  have nd:=sc_slip_steps.nd
  have b1:=ok.b1
  have b2:=ok.b2
  have hcode:(cxOf CX0 P w K mg base ["scheme","kind","tables","kept","slipped","steps"] "slip_steps" (defScope s_slip_steps) f (.ref c) A outer s H E).nox.env.code=.ref c:=rfl
  refine ⟨_,(psr_cons (ps_set (i:=2) nd rfl (Or.inr rfl) (pe_ix ix_tup (pv 0) pe_int (fun _ _=>rfl)))
   (psr_cons (ps_set (i:=3) nd rfl (Or.inr rfl) (pe_comp (N:=["figure"]) (js:=[none]) rfl rfl (pi_range1 rfl B.range (pa_cons (pe_ix ix_tup (pv 0) pe_int (fun _ _=>rfl)) pa_nil)) (fun _ _ _ _=>(pg_name (i:=0) (ndOf (N:=["figure"]) (by decide +kernel)) rfl (Or.inl rfl))) (fun _ _ _ _=>pts_nil) (fun _ _ _ _=>(pe_tup (pa_cons (pe_lst (pa_cons (pv 0) pa_nil)) (pa_cons (pe_lst (pa_cons (pv 0) pa_nil)) pa_nil))))))
   (psr_cons (ps_set (i:=4) nd rfl (Or.inr rfl) (pe_fn h_slipped_pairs (hm hr) (pa_cons (pv 1) (pa_cons (pe_ix ix_tup (pv 0) pe_int (fun _ _=>rfl)) pa_nil))))
   (psr_cons (ps_def (i:=5) (qual:="slip_steps.<locals>.steps") BM hcode CH nd rfl (Or.inl rfl) (hfree_of rfl))
   (psr_ret (pv 5)))))),?_⟩
  obtain ⟨a0,vT,rfl,ha0,hT⟩:=id hC
  refine ⟨_,rfl,a0,_,1,_,rfl,rfl,SqT.of ha0,rfl,?_⟩
  refine ⟨_,rfl,a0,_,0,_,rfl,rfl,SqT.of ha0,rfl,b,rfl,by omega,by omega,?_⟩
  refine block_rel (Walk.rng 0 b.toNat) (by omega) rfl (fun _=>true) (fun D' j y H'=>∃ a,y=V.ref a∧PrAt H' (fun x=>Anyw x∧x≠D') a ([(j:Int)],[(j:Int)])) (pairs_mono (f:=fun j=>([(j:Int)],[(j:Int)])) (N:=Anyw))
   (fun j H5 Q' _ _ q'=>q' _ (Same.refl _)) (fun D' j zs H5 Q' hj _ hD' hD5 s5 q'=>?_) (fun kD zs H2 hkD s2 hkl pr=>?_)
  ·refine ⟨_,rfl,zl,fun x hx=>⟨_,rfl,zl,fun y hy=>⟨zl,fun a ha=>?_⟩⟩⟩
   have t1:=Same.new (o:=HO.lst [V.int (0+(j:Int))]) hx
   have t2:=Same.new (o:=HO.lst [V.int (0+(j:Int))]) hy
   have t3:=Same.new (o:=HO.tup [V.ref x,V.ref y]) ha
   refine q' _ _ ((t1.trans t2).trans t3) ⟨a,rfl,x,y,upd_same,?_,?_,⟨trivial,(ne_of_none hD5 hx).symm⟩,⟨trivial,(ne_of_none (t1 _ _ hD5) hy).symm⟩⟩
   ·rw [t3 _ _ (t2 _ _ upd_same),Int.zero_add]
    rfl
   ·rw [t3 _ _ upd_same,Int.zero_add]
    rfl
  obtain ⟨ks,rfl,hkP⟩:=paired_prs (f:=fun j:Nat=>([(j:Int)],[(j:Int)])) pr
  have hkP:PrL H2 Anyw ks (keptP b):=by
   rw [List.filter_eq_self.mpr (fun _ _=>rfl)] at hkP
   have e:(List.range b.toNat).map (fun j:Nat=>(([(j:Int)],[(j:Int)]):List Int×List Int))=keptP b:=by
    unfold keptP figsOf
    rw [List.map_map]
    rfl
   rw [e] at hkP
   exact hkP.weak fun _ _=>trivial
  refine ⟨_,rfl,_,rfl,a0,_,0,_,rfl,rfl,SqT.of (s2 _ _ ha0),rfl,k,b,rfl,b1,b2,fun sD ss H3 s3 hsD hsl hsP=>?_⟩
  have hsP:PrL H3 Anyw ss (slipP b k):=hsP.weak fun _ _=>trivial
  have s13:=s2.trans s3
  refine tDef_of (qs:=qsU) (T.same s13) List.mem_cons_self (far_of farU1) fun fS cS docS pmS ctS H4 s4 T4 nS hfS hcS n4=>?_
  refine ⟨_,rfl,fun H5 Tr=>?_⟩
  have s14:Sam H H4:=s13.sam.trans s4
  have hT4:TabsAt H4 vT ts:=by
   obtain ⟨a0',vT',e0,ha3,hT3⟩:=hC.sam s14
   cases e0
   have ha3':=s4.tup (s13 _ _ ha0)
   rw [ha3] at ha3'
   cases ha3'
   exact hT3
  have prSam:∀ {as ps},PrL H3 Anyw as ps→PrL H4 Anyw as ps:=fun h=>paired_imp (fun _ _ ⟨x,y,h1,h2,h3,h4,h5⟩=>⟨x,y,s4.tup h1,s4.lst h2,s4.lst h3,h4,h5⟩) h
  have hkP4:=prSam (hkP.same s3)
  have hsP4:=prSam hsP
  have hkD4:=s4.lst (s3 _ _ hkl)
  have hsD4:=s4.lst hsl
  have s5:=Tr.old
  refine q fS kD sD ks ss vT H5 (s14.trans s5.sam) (T4.same s5) ⟨_,_,_,_,cS,ok_usteps B h_moved h_pair_steps ok k vT kD sD ks ss _ _ _ _ _ cS,s5 _ _ hfS,rfl,s5 _ _ hcS,Tr.clo (defScope s_slip_steps_steps) _ _ rfl sc_slip_steps_steps.fre fun i x u h1 h2=>?_⟩ ⟨hT4.same s5,s5 _ _ hkD4,hkP4.same s5,s5 _ _ hsD4,hsP4.same s5⟩ fun z hz=>s13.free (n4 z (Tr.new z hz))
  match i,h1,h2 with
  | 0,h1,h2=>cases h1;cases h2;exact ⟨by decide +kernel,Or.inl rfl,3,rfl,rfl⟩
  | 1,h1,h2=>cases h1;cases h2;exact ⟨by decide +kernel,Or.inl rfl,4,rfl,rfl⟩
  | 2,h1,h2=>cases h1;cases h2;exact ⟨by decide +kernel,Or.inl rfl,2,rfl,rfl⟩
  | i+3,h1,h2=>simp at h1
abbrev s_unseen:Stmt:=top 46
theorem sc_unseen:FnScope ["scheme","kind","pairs"] ["scheme","kind"] (defScope s_unseen):=fS
theorem ok_unseen {f Pt:Addr}{fd:FuncData}{qs:List (Pos×Str)} (F:Fun K "unseen" "unseen" s_unseen f fd) (B:Blt mg) (St:StartAt K mg)
  (h_check_scheme:Has P w K mg base "check_scheme" 5 ["scheme"] spCheck) (h_check_kind:Has P w K mg base "check_kind" 1 ["kind"] spKind) (h_joined:Has P w K mg base "joined" 1 ["pairs"] (spJoined K))
  (h_ends:∃ f fd,mg "ends_good"=some (.ref f)∧PySem.W.keepIn K (.ref f)=true∧Binds K fd ["node"] []∧∀ g ts,g.fin=finU→g.univ=univU ts→FnOk P w K mg base CX0 4 f fd ["node"] (spEnds K g))
  (h_shortest:HasS P w K mg base "shortest" 6 ["start","steps","ends"] (preSh P w K mg base) (spSh K)) (h_slip_steps:Has P w K mg base "slip_steps" 5 ["scheme","kind"] (spSlipSteps P w K mg base Pt qs)):FnOk P w K mg base CX0 8 f fd ["scheme","kind"] (spUnseen Pt qs):=by
 refine F.ok sc_unseen (fun vs H Q E h=>?_) (fun cdv A outer s H vs Q E hr h=>?_)
 ·obtain ⟨_,_,_,_,rfl,_⟩:=h
  rfl
 ·obtain ⟨v,ts,b,k,rfl,hC,ok,T,qN,qL⟩:=h
  have nd:=sc_unseen.nd
  obtain ⟨aS,mS,hSt⟩:=St.at'
  obtain ⟨fE,fdE,mE,kE,bE,okE⟩:=h_ends
  refine ⟨_,(pss_cons (ps_expr (pe_fn h_check_scheme (hm hr) (pa_cons (pv 0) pa_nil)))
   (pss_cons (ps_expr (pe_fn h_check_kind (hm hr) (pa_cons (pv 1) pa_nil)))
   (pss_cons (ps_set (i:=2) nd rfl (Or.inl rfl) (pe_fnS h_shortest (hm hr) (pa_cons (pe_tup (pa_cons (pe_glob (v:=.ref aS) rfl mS rfl) (pa_cons pe_non pa_nil))) (pa_cons (pe_fn h_slip_steps (hm hr) (pa_cons (pv 0) (pa_cons (pv 1) pa_nil))) (pa_cons (pe_glob (v:=.ref fE) rfl mE rfl) pa_nil)))))
   (pss_cons (ps_if (pt_cmpR op_isN (pv 2) pe_non (nomark _)) (pss_one (ps_ret pe_non)) pss_nil)
   (pss_one (ps_ret (pe_fn h_joined (hm hr) (pa_cons (pv 2) pa_nil)))))))),?_⟩
  refine ⟨_,rfl,v,ts,b,rfl,hC,ok,fun H1 s1=>⟨_,rfl,k,rfl,?_⟩⟩
  refine ⟨zl,fun nS0 hnS=>?_⟩
  have s5:=Same.new (o:=HO.tup [V.ref aS,V.non]) hnS
  have s15:=s1.trans s5
  refine ⟨_,rfl,_,rfl,v,ts,b,k,rfl,hC.same s15,ok,T.same s15,fun fS kD sD ks ss vT H4 s4 T4 CX hg n4=>?_⟩
  have hn4:=s4.tup (upd_same (H:=H1) (a:=nS0) (o:=HO.tup [V.ref aS,V.non]))
  obtain ⟨hT4,hkD4,hkP4,hsD4,hsP4⟩:=(show TabsAt H4 vT ts∧H4 kD=some (.lst (ks.map V.ref))∧PrL H4 Anyw ks (keptP b)∧H4 sD=some (.lst (ss.map V.ref))∧PrL H4 Anyw ss (slipP b k) from hg)
  have s14:Sam H H4:=s15.sam.trans s4
  refine ⟨grU b ts k vT kD sD ks ss,fun pins s' I=>⟨nS0,fS,fE,rfl,?_,?_⟩,nS0,fS,fE,rfl,key_n1 (q:=(0,0)) (SqT.of hn4) (hSt _),grU_ok ok,hg,fun H6 s6 hno=>?_,fun D lvs ls m H6 s6 hD hDl hLab hW hf hmin hlt=>?_⟩
  ·obtain ⟨fd,p,frees,fvs,c,F,h1,h2,h3,C⟩:=CX
   exact .cloX F h1 h2 h3 C (steps_drop grU_drop)
  ·exact .mod (okE _ ts rfl rfl) kE bE
  ·refine ⟨_,rfl,rfl,_,rfl,iteT ?_⟩
   exact qN H6 (s14.trans s6.sam) (T4.same s6) fun xs ys U=>seen_all ok hno U.fx U.gx U.sl U.gy
  ·refine ⟨_,rfl,rfl,_,rfl,iteF ?_⟩
   obtain ⟨as,p,cs,ha,hp,hc,e1,g1,g2,hslp⟩:=end_pair (wk_isW ok hW) hf
   have e2:ls=((as.map kp)++[p]++(cs.map kp)).map pairD:=by
    rw [e1,kl_map,kl_map,List.map_append,List.map_append]
    rfl
   rw [e2] at hLab
   obtain ⟨ps',e3,hPL⟩:=lab_prs (paired_append (hkP4.same s6) (hsP4.same s6)) hLab
   subst e3
   obtain ⟨w1,w2,w3⟩:=mem_slipP.mp hp
   have hwk:=wid_pos k
   have hm5:=wr_item b k p.1 (by omega) p.2 w3
   have hll:as.length+1+cs.length < 5256:=by
    have:=length_univU ok
    rw [e1,show (grU b ts k vT kD sD ks ss).univ=univU ts from rfl] at hlt
    simp only [List.length_append,List.length_map,List.length_singleton] at hlt
    omega
   refine ⟨_,rfl,D,ps',(as.map kp)++[p]++(cs.map kp),Anyw,rfl,hDl,hPL,?_,fun p' hp'=>?_,fun t x y H7 s7 ht hx hy hxy hxl hyl=>?_⟩
   ·simp only [List.length_append,List.length_map,List.length_singleton]
    omega
   ·rcases List.mem_append.mp hp' with hp' | hp'
    ·rcases List.mem_append.mp hp' with hp' | hp'
     ·obtain ⟨f,_,rfl⟩:=List.mem_map.mp hp'
      exact ⟨by show 1≤10;omega,by show 1≤10;omega⟩
     ·rw [List.mem_singleton.mp hp']
      exact ⟨by omega,by omega⟩
    ·obtain ⟨f,_,rfl⟩:=List.mem_map.mp hp'
     exact ⟨by show 1≤10;omega,by show 1≤10;omega⟩
   have f1:((as.map kp)++[p]++(cs.map kp)).flatMap (·.1)=as++p.1++cs:=by
    rw [List.flatMap_append,List.flatMap_append,flat1,flat1]
    simp
   have f2:((as.map kp)++[p]++(cs.map kp)).flatMap (·.2)=as++p.2++cs:=by
    rw [List.flatMap_append,List.flatMap_append,flat2,flat2]
    simp
   rw [f1] at hxl
   rw [f2] at hyl
   have fx:figsIn b (as++p.1++cs):=fun g hg=>by
    rcases List.mem_append.mp hg with hg | hg
    ·rcases List.mem_append.mp hg with hg | hg
     ·exact ha g hg
     ·exact w2 g hg
    ·exact hc g hg
   have fr6:∀ z,H6 z=none→H z=none:=fun z hz=>s15.free (n4 z (s6.free hz))
   refine qL t x y _ _ H7 (s14.trans (s6.trans s7).sam) ((T4.same s6).same s7) ht (fr6 x hx) (fr6 y hy) hxy hxl hyl ⟨fx,slp_figs fx hslp,g1,g2,hslp⟩ (fun xs' ys' U=>?_) ?_ ?_
   ·obtain ⟨as',w',cs',m',rfl,hw',hm',rfl⟩:=mem_slp.mp U.sl
    have hp':(w',m')∈slipP b k:=mem_slipP.mpr ⟨hw',fun g z=>U.fx g (by simp [z]),hm'⟩
    have hwk':=wk_b ok (as:=as') (fun g z=>U.fx g (by simp [z])) hp' _ cs' rfl fun g z=>U.fx g (by simp [z])
    have:=hmin _ _ hwk' (by
     rw [show (grU b ts k vT kD sD ks ss).fin=finU from rfl,fin_n2]
     have e1:(mvD ts (0,0) (as'++w'++cs')).2=0:=U.gx
     have e2:(mvD ts (0,0) (as'++m'++cs')).2=0:=U.gy
     rw [show ((w',m'):List Int×List Int).1=w' from rfl,show ((w',m'):List Int×List Int).2=m' from rfl,e1,e2]
     rfl)
    rw [e1] at this
    simp only [List.length_append,List.length_map,List.length_singleton] at this ⊢
    omega
   ·simp only [List.length_append]
    omega
   ·simp only [List.length_append]
    omega
end
end My
namespace L2
open PySem PySem.Spec PyProof.Rows
section
variable {prog:Program}{w:World}{A:Around}{E:Value→Shared→Prop}{s:Shared}{d it:Addr}{o:Obj}{es:Array DictEntry}{ep i:Nat}
theorem td_of (ho:s.heap.get? d=some o) (hc:o.ExactDict):s.TypeIs (.ref d) "dict":=⟨o,ho,hc.1⟩
theorem raw_iter {Q:Value→Shared→Prop} (low:(d == sysModules)=false) (ho:s.heap.get? d=some o) (hc:o.ExactDict) (hdat:o.data=.dict es ep)
  (fin:Q (.ref s.heap.objs.size) { s with heap:=s.heap.push { cls:=.type "dict_keyiterator",data:=.fields #[.ref d,.int 0 0,.int es.size 0,.int ep 0] } }):wpAny (model prog w) A (pyIter (.ref d)) Q E s:=by
 refine wpAny_pyIter_slot (td_of ho hc) F.slot_dict_iter (wpAny_call_entry F.slot_dict_iter (td_of ho hc) F.entry_dict_iter ?_ (F.args_dict_iter_1 _))
 unfold Builtin.«dict.__iter__» Builtin.Dict.dictSlotNone
 refine wpAny_bind (wpAny_bind (wpAny_notOrdered_dict (td_of ho hc) ?_))
 refine (show wpAny _ _ (pure (Value.ref d)) _ _ s from wpAny_pure ?_)
 refine (show wpAny _ _ (Builtin.Dict.showsAll d >>= _) _ _ s from ?_)
 unfold Builtin.Dict.showsAll
 rw [low]
 refine wpAny_bind (wpAny_pure (wpAny_bind (wpAny_dictEntries ho hdat (wpAny_bind (wpAny_dictEpoch ho hdat ?_)))))
 exact wpAny_bind (wpAny_newObj_type (wpAny_pure ⟨_,rfl,"dict_keyiterator",_,⟨_,Heap.get?_push_size _ rfl,rfl⟩,F.slot_dict_keyiterator_next.lookup,by simpa [rawInt] using fin⟩))
theorem raw_item {e:DictEntry}{Q:Option Value→Shared→Prop} (hit:s.heap.IsKeyIter it d i es.size ep) (ho:s.heap.get? d=some o) (hdat:o.data=.dict es ep) (he:es[i]? = some e)
  (fin:∀ h',h'.IsKeyIter it d (i+1) es.size ep→Heap.SameBut it s.heap h'→Q (some e.key) { s with heap:=h' }):wpAny (model prog w) A (pyNext (.ref it)) Q E s:=by
 obtain ⟨oi,hoi,hci,hdi⟩:=id hit
 have lt:i < es.size:=(Array.getElem?_eq_some_iff.mp he).1
 have own:Builtin.Dict_items.ownsTuple "dict_keyiterator"=false:=by decide
 unfold pyNext
 refine wpAny_bind (wpAny_attempt (wpAny_callSpecial?_slot (name:=Str.ofString "__next__") hit.typeIs F.slot_dict_keyiterator_next (wpAny_call_entry F.slot_dict_keyiterator_next hit.typeIs F.entry_dict_keyiterator_next ?_ (F.args_dict_keyiterator_next_1 _))))
 refine wpAny_bind (wpAny_pure (wpAny_bind (wpAny_bind ?_)))
 first | refine wpAny_bind (wpAny_typeNameOfWhole_keyiter hit.typeIs (wpAny_pure (wpAny_bind (wpAny_fieldsOf hoi hdi ?_)))) | refine wpAny_bind (wpAny_typeNameOf_keyiter hit.typeIs (wpAny_pure (wpAny_bind (wpAny_fieldsOf hoi hdi ?_))))
 simp only [own,Bool.false_eq_true,if_false]
 refine (show wpAny _ _ (if (Value.ref d == Value.none)=true then _ else _) _ _ s from ?_)
 rw [if_neg (show ¬(Value.ref d == Value.none)=true from Bool.false_ne_true)]
 refine wpAny_bind (wpAny_pure (wpAny_bind (wpAny_dictEntries ho hdat ?_)))
 rw [if_neg (show ¬_ by simp)]
 refine wpAny_bind (wpAny_pure (wpAny_bind (wpAny_dictEpoch ho hdat ?_)))
 rw [if_neg (show ¬_ by simp)]
 refine wpAny_pure ?_
 simp only [show ¬((i:Int) < 0) by omega,if_false,Int.toNat_natCast,he]
 refine wpAny_bind ?_
 first | refine wpAny_bind (wpAny_typeNameOfWhole_keyiter hit.typeIs (wpAny_pure (wpAny_bind (wpAny_isOneOf_keyiter hit.typeIs ?_)))) | refine wpAny_bind (wpAny_typeNameOf_keyiter hit.typeIs (wpAny_pure (wpAny_bind (wpAny_isOneOf_keyiter hit.typeIs ?_))))
 refine (show wpAny _ _ (setField (.ref it) 1 (rawInt ((i:Int)+1)) >>= _) _ _ s from wpAny_bind (wpAny_setField hoi hdi (by simp) ?_))
 have next:(s.heap.update it (Obj.mapFields (·.setIfInBounds 1 (rawInt ((i:Int)+1))))).IsKeyIter it d (i+1) es.size ep :=
  ⟨_,Heap.get?_update_self _ hoi (Obj.isFreed_of_fields (Obj.data_mapFields hdi _)),Eq.trans (Obj.cls_mapFields ..) hci,by rw [Obj.data_mapFields hdi];simp [rawInt]⟩
 refine wpAny_bind (wpAny_holding (wpAny_bind (wpAny_isOneOf_keyiter (s:={ s with heap:=s.heap.update it (Obj.mapFields (·.setIfInBounds 1 (rawInt ((i:Int)+1)))) }) next.typeIs ?_)))
 exact (show wpAny _ _ (pure e.key) _ _ _ from wpAny_pure (wpAny_pure ⟨_,rfl,wpAny_pure (fin _ next (Heap.SameBut.update ..))⟩))
theorem raw_end {Q:Option Value→Shared→Prop} (hh:A.handled=none) (hit:s.heap.IsKeyIter it d i es.size ep) (ho:s.heap.get? d=some o) (hdat:o.data=.dict es ep) (he:es.size≤i)
  (fin:∀ h',Heap.ExtBut it s.heap h'→Q none { s with heap:=h' }):wpAny (model prog w) A (pyNext (.ref it)) Q E s:=by
 obtain ⟨oi,hoi,hci,hdi⟩:=id hit
 have own:Builtin.Dict_items.ownsTuple "dict_keyiterator"=false:=by decide
 unfold pyNext
 refine wpAny_bind (wpAny_attempt (wpAny_callSpecial?_slot (name:=Str.ofString "__next__") hit.typeIs F.slot_dict_keyiterator_next (wpAny_call_entry F.slot_dict_keyiterator_next hit.typeIs F.entry_dict_keyiterator_next ?_ (F.args_dict_keyiterator_next_1 _))))
 refine wpAny_bind (wpAny_pure (wpAny_bind (wpAny_bind ?_)))
 first | refine wpAny_bind (wpAny_typeNameOfWhole_keyiter hit.typeIs (wpAny_pure (wpAny_bind (wpAny_fieldsOf hoi hdi ?_)))) | refine wpAny_bind (wpAny_typeNameOf_keyiter hit.typeIs (wpAny_pure (wpAny_bind (wpAny_fieldsOf hoi hdi ?_))))
 simp only [own,Bool.false_eq_true,if_false]
 refine (show wpAny _ _ (if (Value.ref d == Value.none)=true then _ else _) _ _ s from ?_)
 rw [if_neg (show ¬(Value.ref d == Value.none)=true from Bool.false_ne_true)]
 refine wpAny_bind (wpAny_pure (wpAny_bind (wpAny_dictEntries ho hdat ?_)))
 rw [if_neg (show ¬_ by simp)]
 refine wpAny_bind (wpAny_pure (wpAny_bind (wpAny_dictEpoch ho hdat ?_)))
 rw [if_neg (show ¬_ by simp)]
 refine wpAny_pure ?_
 simp only [show ¬((i:Int) < 0) by omega,if_false,Int.toNat_natCast,Array.getElem?_eq_none he]
 refine wpAny_bind ?_
 first | refine wpAny_bind (wpAny_typeNameOfWhole_keyiter hit.typeIs (wpAny_pure ?_)) | refine wpAny_bind (wpAny_typeNameOf_keyiter hit.typeIs (wpAny_pure ?_))
 refine (show wpAny _ _ (setField (.ref it) 0 .none >>= _) _ _ s from wpAny_bind (wpAny_setField hoi hdi (by simp) ?_))
 refine (show wpAny _ _ (newExc (.type "StopIteration") [] >>= _) _ _ _ from wpAny_bind ?_)
 simp only [newExc,newTuple]
 refine wpAny_bind (wpAny_newObj_type (wpAny_bind (m:=firstArgMember _ _) (wpAny_of_eq (a:=Value.none) (by first | rfl | (simp only [firstArgMember];rfl)) (wpAny_newObj_type ?_ (by size_fits)))) (by size_fits))
 simp only [raiseNew]
 refine wpAny_bind (wpAny_handled ?_)
 rw [show A.in1.handled=none from hh]
 refine wpAny_bind (wpAny_pure ?_)
 refine wpAny_throw ?_
 refine wpAny_bind (wpAny_isInstance (b:=true) (T:="StopIteration") ⟨_,Heap.get?_push_size _ rfl,rfl⟩ isSubtype_stop ?_)
 exact wpAny_pure (fin _ (((Heap.SameBut.update ..).extBut.push _).push _))
end
def Itn (P:Program) (w:World) (c:Bool) (d:Addr) (xs:List (PyData×Addr×Value)) (ep:Nat):It :=
 ⟨fun i H=>H d=some (.ext (dφ P w c d xs ep))∧i < xs.length,fun i H x H'=>H'=H∧∃ k b u,xs[i]? = some (k,b,u)∧x=.ref b,fun i H=>H d=some (.ext (dφ P w c d xs ep))∧xs.length≤i⟩
theorem dict_obj {X:Cx}{pins:List (Addr×Obj)}{σ:St}{H:Hp}{s:Shared}{c:Bool}{d:Addr}{xs:List (PyData×Addr×Value)}{ep:Nat} (I:Inv X pins σ H s) (e:H d=some (.ext (dφ X.prog X.w c d xs ep))) :
  (d == sysModules)=false∧∃ o es,s.heap.get? d=some o∧o.ExactDict∧o.data=.dict es ep∧es.toList=xs.map (entryOfKey (nkKind X.prog X.w c))∧es.size=xs.length:=by
 obtain ⟨⟨h0,o,es,h1,h2,h3,h4,h5⟩,_,_⟩:=(show ObjOk X.prog X.w H s.heap d (.ext (dφ X.prog X.w c d xs ep)) from I.hok d _ e)
 exact ⟨h0,o,es,h1,h2,h3,h4,size_of_entries h4⟩
theorem turn_dict {P:Program}{w:World}{K:PySem.W.Frag}{tg:Expr}{c:Bool}{xs:List (PyData×Addr×Value)}{ep:Nat} (d it:Addr):Turn P w K tg (Itn P w c d xs ep) [it] it (fun i h=>h.IsKeyIter it d i xs.length ep) where
 mem:=by simp
 obj:=fun i h st b hb=>by
  have e:b=it:=by simpa using hb
  subst e
  obtain ⟨o,e,c,d⟩:=st
  exact ⟨o,e,fun v z=>by rw [d] at z;cases z⟩
 keep:=fun i h h' st k=>st.at fun o e=>k it (by simp) o e
 item:=by
  intro X hP hw hK hc i pins s σ H E I hf st hg
  subst hP hw hK
  obtain ⟨hd,hi⟩:=hg
  obtain ⟨h0,o,es,h1,h2,h3,h4,h5⟩:=dict_obj I hd
  obtain ⟨f0,f1,f2,f3,f4,f5⟩:=hf it (by simp)
  have e1:=List.getElem?_eq_getElem hi
  generalize xs[i]=x at e1
  obtain ⟨k,b,u⟩:=x
  have e2:es[i]? = some (entryOfKey (nkKind X.prog X.w c) (k,b,u)):=by rw [entry_at h4,e1];rfl
  refine raw_item (es:=es) (by rw [h5];exact st) h1 h3 e2 fun h' st' sb=>?_
  rw [h5] at st'
  have I1:Inv X pins σ H { s with heap:=h' }:=I.turned (t':=s.toks) (fun b o hb e=>(sb.2 b hb).trans e) f0 f1 f3 f4 f5
  obtain ⟨oi,ei,ci,di⟩:=id st'
  exact ⟨_,rfl,go_of (s:={ s with heap:=h' }) ei ci di (by decide) ⟨.ref b,H,I1,rfl,⟨rfl,k,b,u,e1,rfl⟩,st',fun b hb=>(hf b hb).1⟩⟩
 done:=by
  intro X hP hw hK hc i pins s σ H E I hf st hg
  subst hP hw hK
  obtain ⟨hd,hi⟩:=hg
  obtain ⟨h0,o,es,h1,h2,h3,h4,h5⟩:=dict_obj I hd
  obtain ⟨f0,f1,f2,f3,f4,f5⟩:=hf it (by simp)
  exact raw_end (es:=es) (I.ok.hd hc) (by rw [h5];exact st) h1 h3 (by omega) fun h' eb=>⟨rfl,I.turned (t':=s.toks) (fun b o hb e=>eb b o hb e) f0 f1 f3 f4 f5⟩
 self:=fun _ _ _ _ _ st h=>wpAny_pyIter_keyiter st h
def iDict (P:Program) (w:World) (c:Bool) (tl:TE):TI:=fun σ H R=>tl σ H fun x H1=>∃ a xs ep,x=.ref a∧H1 a=some (.ext (dφ P w c a xs ep))∧R (Itn P w c a xs ep) H1
theorem pi_dict {X:Cx}{tg l:Expr}{tl:TE} (c:Bool) (hl:PE X l tl):PI X tg l (iDict X.prog X.w c tl):=by
 intro pins s σ H R I h
 refine thnE (hl pins s σ H _ I h) fun v s1 x H1 I1 r1 q1=>?_
 obtain ⟨a,xs,ep,e,hd,q⟩:=q1
 subst e
 cases r1
 obtain ⟨h0,o,es,h1,h2,h3,h4,h5⟩:=dict_obj I1 hd
 refine raw_iter h0 h1 h2 h3 ?_
 refine ⟨s1.heap.objs.size,[s1.heap.objs.size],_,_,H1,rfl,I1.kept (t':=s1.toks) fun b o e=>Heap.get?_push_of_some _ e,turn_dict a _,⟨_,Heap.get?_push_size _ rfl,rfl,by rw [h5];rfl⟩,fun b hb=>?_,q⟩
 have e:b=s1.heap.objs.size:=by simpa using hb
 subst e
 exact I1.fpOk (Nat.le_refl _) (I1.hok.fresh (Nat.le_refl _))
theorem for_dict {P:Program}{w:World}{c:Bool}{a:Addr}{xs:List (PyData×Addr×Value)}{ep:Nat}{g:TG}{tb:TS}{D:Ends}{σ:St}{H:Hp} (Pv:Nat→St→Hp→Prop) (h0:Pv 0 σ H) (hl:∀ i σ H,i≤xs.length→Pv i σ H→H a=some (.ext (dφ P w c a xs ep)))
  (hs:∀ i k b u σ H,xs[i]? = some (k,b,u)→Pv i σ H→g (.ref b) σ H fun σ2 H2=>tb { D with nx:=Pv (i+1),ct:=Pv (i+1),bk:=D.nx } σ2 H2) (hd:∀ σ H,Pv xs.length σ H→D.nx σ H) :
  ∃ W:Nat→Nat→St→Hp→Prop,(∃ m,W 0 m σ H)∧∀ i m σ H,W i m σ H →
   ((Itn P w c a xs ep).stop i H∧D.nx σ H)∨((Itn P w c a xs ep).go i H∧∃ N:St→Hp→Prop,(∀ σ' H',N σ' H'→∃ m',m' < m∧W (i+1) m' σ' H')∧∀ x H',(Itn P w c a xs ep).yld i H x H'→g x σ H' fun σ2 H2=>tb { D with nx:=N,ct:=N,bk:=D.nx } σ2 H2):=by
 refine ⟨fun i m σ H=>m=xs.length-i∧i≤xs.length∧Pv i σ H,⟨xs.length,by simp,Nat.zero_le _,h0⟩,?_⟩
 rintro i m σ H ⟨rfl,hi,p⟩
 have q:=hl i σ H hi p
 by_cases hlt:i < xs.length
 ·refine .inr ⟨⟨q,hlt⟩,Pv (i+1),fun σ' H' p'=>⟨xs.length-(i+1),by omega,rfl,hlt,p'⟩,fun x H' y=>?_⟩
  obtain ⟨e,k,b,u,e2,e3⟩:=y
  subst e e3
  exact hs i k b u σ _ e2 p
 ·have e:i=xs.length:=by omega
  subst e
  exact .inl ⟨⟨q,Nat.le_refl _⟩,hd σ H p⟩
end L2
namespace My
section
variable {ν lam:Type}
def cnt (succ:ν→List (lam×ν)) (fin:ν→Bool):Nat→ν→Int
 | 0,m=>if fin m=true then 1 else 0
 | n+1,m=>((succ m).map fun st=>cnt succ fin n st.2).sum
def sumD (cs:List (ν×Int)) (φ:ν→Int):Int:=(cs.map fun p=>p.2 * φ p.1).sum
theorem sumD_nil (φ:ν→Int):sumD [] φ=0:=rfl
theorem sumD_cons (p:ν×Int) (cs:List (ν×Int)) (φ:ν→Int):sumD (p :: cs) φ=p.2 * φ p.1+sumD cs φ:=by
 unfold sumD
 rw [List.map_cons,List.sum_cons]
end
section
variable {ν:Type} [DecidableEq ν]
def getI:List (ν×Int)→ν→Int
 | [],_=>0
 | p :: r,k=>if p.1=k then p.2 else getI r k
def addI:List (ν×Int)→ν→Int→List (ν×Int)
 | [],k,x=>[(k,x)]
 | p :: r,k,x=>if p.1=k then (p.1,p.2+x) :: r else p :: addI r k x
theorem sumD_add (k:ν) (x:Int) (φ:ν→Int):∀ cs:List (ν×Int),sumD (addI cs k x) φ=sumD cs φ+x * φ k
 | []=>by
  show sumD [(k,x)] φ=_
  rw [sumD_cons,sumD_nil]
  show x * φ k+0=0+x * φ k
  omega
 | p :: r=>by
  unfold addI
  split
  ·rename_i h
   rw [sumD_cons,sumD_cons]
   show (p.2+x) * φ p.1+_=_
   rw [Int.add_mul,← h]
   omega
  ·rw [sumD_cons,sumD_cons,sumD_add k x φ r]
   omega
theorem keys_add {k q:ν}{x:Int}:∀ {cs:List (ν×Int)},q∈(addI cs k x).map (·.1)↔q=k∨q∈cs.map (·.1)
 | []=>by
  show q∈[k]↔_
  simp
 | p :: r=>by
  unfold addI
  split
  ·rename_i h
   show q∈p.1 :: r.map (·.1)↔q=k∨q∈p.1 :: r.map (·.1)
   rw [List.mem_cons,h]
   constructor
   ·rintro (h | h)
    ·exact .inl h
    ·exact .inr (.inr h)
   ·rintro (h | h | h)
    ·exact .inl h
    ·exact .inl h
    ·exact .inr h
  ·rw [List.map_cons,List.map_cons,List.mem_cons,List.mem_cons,keys_add (cs:=r)]
   constructor
   ·rintro (h | h | h)
    ·exact .inr (.inl h)
    ·exact .inl h
    ·exact .inr (.inr h)
   ·rintro (h | h | h)
    ·exact .inr (.inl h)
    ·exact .inl h
    ·exact .inr (.inr h)
theorem nodup_add {k:ν}{x:Int}:∀ {cs:List (ν×Int)},(cs.map (·.1)).Nodup→((addI cs k x).map (·.1)).Nodup
 | [],_=>by
  show [k].Nodup
  simp
 | p :: r,h=>by
  rw [List.map_cons,List.nodup_cons] at h
  unfold addI
  split
  ·rw [List.map_cons,List.nodup_cons]
   exact h
  ·rename_i hne
   rw [List.map_cons,List.nodup_cons]
   refine ⟨fun z=>?_,nodup_add h.2⟩
   rcases keys_add.mp z with z | z
   ·exact hne z
   ·exact h.1 z
theorem add_new {k:ν}{x:Int}:∀ {cs:List (ν×Int)},k∉cs.map (·.1)→addI cs k x=cs++[(k,x)]∧getI cs k=0
 | [],_=>⟨rfl,rfl⟩
 | p :: r,h=>by
  rw [List.map_cons,List.mem_cons,not_or] at h
  have ih:=add_new (x:=x) h.2
  unfold addI getI
  rw [if_neg (Ne.symm h.1),if_neg (Ne.symm h.1),ih.1,ih.2]
  exact ⟨rfl,rfl⟩
theorem vals_add {k:ν}{x:Int}{R S:Int→Prop} (h0:∀ v,R v→S (v+x)) (h1:∀ v,R v→S v) (hx:S x):∀ {cs:List (ν×Int)},(∀ p∈cs,R p.2)→∀ p∈addI cs k x,S p.2
 | [],_,p,hp=>by
  rw [List.mem_singleton.mp (show p∈[(k,x)] from hp)]
  exact hx
 | q :: r,h,p,hp=>by
  unfold addI at hp
  split at hp
  ·rcases List.mem_cons.mp hp with rfl | hp
   ·exact h0 _ (h q List.mem_cons_self)
   ·exact h1 _ (h p (List.mem_cons_of_mem _ hp))
  ·rcases List.mem_cons.mp hp with rfl | hp
   ·exact h1 _ (h _ List.mem_cons_self)
   ·exact vals_add h0 h1 hx (fun p hp=>h p (List.mem_cons_of_mem _ hp)) p hp
theorem filter_sum {P:ν→Bool}:∀ cs:List (ν×Int),((cs.filter fun p=>P p.1).map (·.2)).sum=sumD cs fun n=>if P n=true then 1 else 0
 | []=>rfl
 | p :: r=>by
  rw [sumD_cons,List.filter_cons]
  by_cases h:P p.1=true
  ·rw [if_pos h,if_pos h,List.map_cons,List.sum_cons,filter_sum r]
   omega
  ·rw [if_neg h,if_neg h,filter_sum r]
   omega
end
theorem range_filter {α β:Type} (d:α) (P:α→Bool) (f:α→β):∀ xs:List α,(((List.range xs.length).filter fun k=>P (xs.getD k d)).map fun k=>f (xs.getD k d))=(xs.filter P).map f:=by
 intro xs
 induction xs with
 | nil=>rfl
 | cons x xs ih =>
  rw [List.length_cons,List.range_succ_eq_map,List.filter_cons,List.filter_cons,List.filter_map]
  have e:((List.range xs.length).filter ((fun k=>P ((x :: xs).getD k d)) ∘ Nat.succ)).map Nat.succ=((List.range xs.length).filter fun k=>P (xs.getD k d)).map Nat.succ:=rfl
  have e2:(((List.range xs.length).filter fun k=>P (xs.getD k d)).map Nat.succ).map (fun k=>f ((x :: xs).getD k d))=(xs.filter P).map f:=by
   rw [List.map_map,← ih]
   rfl
  by_cases h:P x=true
  ·rw [if_pos (show P ((x :: xs).getD 0 d)=true from h),if_pos h,List.map_cons,List.map_cons,e,e2]
   rfl
  ·rw [if_neg (show ¬P ((x :: xs).getD 0 d)=true from h),if_neg h,e,e2]
end My
namespace L2
open PySem PySem.Spec PyProof.Rows
section
variable {X:Cx}{o e1 e2:Expr}{td:TE}{ta:TA}{apos cpos:Pos}
def tNGetD (X:Cx) (c:Bool) (td:TE) (ta:TA):TE:=fun σ H Q=>td σ H fun x H1=>(∃ a kvs,x=.ref a∧DAt X.prog X.w X.K c H1 a kvs)∧ta σ H1 fun vs H2=>∃ a y z r,x=.ref a∧vs=[y,z]∧NGet X.prog X.w X.K c H2 a y r∧Q (r.getD z) H2
theorem pe_ngetd (c:Bool) (hu:X.A.units+64 < cLine) (ho:PE X o td) (ha:PA X [e1,e2] ta)
  (hbase:attributeBase o "get" X.env (eval o X.env)=eval o X.env:=by rfl)
  (hfew:((backTo cpos (starEach [e1,e2] X.env)).all (fun x=>!x.1)&&(backToKw cpos (keywordEach [] X.env)).all (fun x=>x.1.isSome)
   && decide (([e1,e2]:List Expr).length+([]:List Keyword).length+(if ([]:List Keyword).isEmpty then 0 else 1) < 30))=true:=by rfl)
  (hline:(apos.endLine == cpos.line)=true:=by rfl) (hs:starEach [e1,e2] X.env=(false,eval e1 X.env) :: starEach [e2] X.env:=by rfl) (hplain:(backTo cpos (starEach [e2] X.env)).any (·.1)=false:=by rfl) :
  PE X (.Call (.Attribute o "get" apos) [e1,e2] [] cpos) (tNGetD X c td ta):=by
 intro pins s σ H Q I h
 refine wpAny_Call_method_late hbase hfew hline rfl (thnE (ho pins s σ H _ I h) fun v s1 x H1 I1 r1 zz14=>?_)
 obtain ⟨⟨a,kvs,ex,⟨xs,ep,he,hr⟩,hz⟩,q1⟩:=zz14
 subst ex
 obtain rfl:v=Value.ref a:=r1
 obtain ⟨h0,o',es,h1,h2,h3,h4,h5⟩:=dict_obj I1 he
 refine ⟨"dict","dict.get",PySem.F.plainAttrs_dict,PySem.F.slot_dict_get,PySem.F.type_dict_get,td_of h1 h2,(fun b e=>by cases e;exact ⟨o',h1,h2.2.1⟩),?_⟩
 have hA:=ha cpos pins s1 σ H1 _ I1 q1
 rw [hs] at hA ⊢
 refine Calls.callWith_builtin (by show (false||(backTo cpos (starEach [e2] X.env)).any (·.1))=false;rw [hplain]<;>rfl) (Calls.evalArgs_plain ?_)
 refine thn hA fun us s2 ⟨vs,H2,I2,r2,a',y,z,r,ea,ev,⟨kvs',k,b,⟨⟨xs',ep',he',hr'⟩,hz'⟩,ey,hk,hv⟩,q2⟩=>?_
 cases ea
 subst ev
 subst ey
 obtain ⟨u1,u2,rfl,ru1,ru2⟩:=vals2 r2
 obtain rfl:u1=Value.ref b:=ru1
 obtain ⟨hd,dd⟩:=dn_of I2 he' hr'
 refine call_meetsIn PySem.F.slot_dict_get dd.typeIs PySem.F.entry_dict_get (PySem.F.args_dict_get_3 _ _ _) (meetsH_dict_get_default (nkKind X.prog X.w c) a b hd u2) ⟨nroom hu,k,xs',hk.is I2,dd,?_⟩
 refine ⟨r.getD z,H2,I2.tok _,?_,q2⟩
 have hrel:=hr'.val k
 rw [hv]
 cases g1:valN kvs' k<;>cases g2:(atKey xs' k).map (·.2)<;>rw [g1,g2] at hrel
 ·exact ru2
 ·exact False.elim hrel
 ·exact False.elim hrel
 ·exact hrel
def tNGetK (P:Program) (w:World) (K:PySem.W.Frag) (c:Bool) (td ty:TE):TE:=fun σ H Q=>td σ H fun x H1=>ty σ H1 fun y H2=>∃ a v,x=.ref a∧NGet P w K c H2 a y (some v)∧Q v H2
theorem pe_ngetK {i:Expr}{pos:Pos}{ty:TE} (P:Program) (w:World) (K:PySem.W.Frag) (hX:X.prog=P∧X.w=w∧X.K=K) (c:Bool) (hu:X.A.units+64 < cLine) (ho:PE X o td) (hi:PE X i ty) (hs:PlainIx i):PE X (.Subscript o i pos) (tNGetK P w K c td ty):=by
 obtain ⟨rfl,rfl,rfl⟩:=hX
 exact pe_nget c hu ho hi hs
theorem call_sumL (hc:X.calm=true):CallR X (.builtin "sum") (fun xs H Q=>∃ (p:Addr) (ns:List Int),xs=[.ref p]∧SqL X.K H p (ns.map V.int)∧Q (.int ns.sum) H):=by
 intro pins s σ H xs us Q I r h
 obtain ⟨p,ns,rfl,hp,q⟩:=h
 obtain ⟨u,rfl,ru⟩:=vals1 r
 cases ru
 obtain ⟨its,rv,pl,hz⟩:=I.list hp
 have hi:IntsAre its ns:=intsAre_of rv
 obtain ⟨ps,eps⟩:=hi.allInts.items
 have hn:ns=ps.toList.map (·.1):=by
  rw [← nums_intItems,← eps]
  exact hi.numsOf.symm
 refine sum_intListG (xs:=ps) (I.ok.hd hc) (by rw [← eps];exact pl.isList) fun h' tk t' hk=>?_
 refine ⟨.int ns.sum,H,I.kept (t':=tk) hk,⟨t',?_⟩,q⟩
 rw [hn,preSum_eq,List.take_of_length_le (by simp)]
end
section
variable {prog:Program}{w:World}{A:Around}{E:Value→Shared→Prop}{s:Shared}{d it:Addr}{o:Obj}{es:Array DictEntry}{ep i:Nat}{ok ov:Value}
theorem rawI_view (d:Addr) (low:(d == sysModules)=false):MeetsIn prog w (Builtin.«dict.items» ⟨[.ref d],[]⟩) (fun _ R s=>s.TypeIs (.ref d) "dict"∧R (.ok (.ret (.ref s.heap.objs.size))) { s with heap:=s.heap.push { cls:=.type "dict_items",data:=.fields #[.ref d] } }) :=
 .of_wp fun A R s ⟨hT,h⟩=>by
  unfold Builtin.«dict.items» Builtin.Dict.noArgs
  refine wpAny_bind (wpAny_bind (wpAny_notOrdered_dict hT ?_))
  refine (show wpAny _ _ (pure d) _ _ s from wpAny_pure ?_)
  refine (show wpAny _ _ (Builtin.Dict.showsAll d >>= _) _ _ s from ?_)
  unfold Builtin.Dict.showsAll
  rw [low]
  exact wpAny_bind (wpAny_pure (wpAny_bind (wpAny_newObj_type (wpAny_pure ⟨_,rfl,h⟩))))
theorem rawI_iter {v:Addr}{Q:Value→Shared→Prop} (hv:s.heap.IsItemsView v d) (ho:s.heap.get? d=some o) (hdat:o.data=.dict es ep)
  (fin:Q (.ref s.heap.objs.size) { s with heap:=s.heap.push { cls:=.type "dict_itemiterator",data:=.fields #[.none,.bool false,.ref d,.int 0 0,.int es.size 0,.int ep 0,.none,.none] } }):wpAny (model prog w) A (pyIter (.ref v)) Q E s:=by
 obtain ⟨ov,hov,hcv,hdv⟩:=id hv
 refine wpAny_pyIter_slot hv.typeIs F.slot_dict_items_iter (wpAny_call_entry F.slot_dict_items_iter hv.typeIs F.entry_dict_items_iter ?_ (F.args_dict_items_iter_1 _))
 unfold Builtin.«dict_items.__iter__» Builtin.Dict_items.dictOf Builtin.Dict_items.newIterator
 refine wpAny_bind (wpAny_pure (wpAny_bind (wpAny_bind (wpAny_field hov hdv (x:=.ref d) rfl (wpAny_pure (wpAny_bind (wpAny_bind (wpAny_dictEntries ho hdat (wpAny_bind (wpAny_dictEpoch ho hdat ?_))))))))))
 have own:Builtin.Dict_items.ownsTuple "dict_itemiterator"=true:=by decide
 simp only [own,if_true]
 refine wpAny_newObj_type (wpAny_pure ⟨_,rfl,"dict_itemiterator",_,⟨_,Heap.get?_push_size _ rfl,rfl⟩,F.slot_dict_itemiterator_next.lookup,?_⟩) (by simp only [sizeOk,Builtin.Dict_items.ownedTupleFields,List.size_toArray,List.length_append,List.length_cons,List.length_nil,sizeLine_eq];omega)
 simpa [rawInt,Builtin.Dict_items.ownedTupleFields] using fin
theorem rawI_item {e:DictEntry}{Q:Option Value→Shared→Prop} (hit:IsItemIter s.heap it d i es.size ep ok ov) (ho:s.heap.get? d=some o) (hdat:o.data=.dict es ep) (he:es[i]? = some e)
  (fin:∀ h',IsItemIterOut h' it d (i+1) es.size ep e.key e.val s.heap.objs.size→h'.get? s.heap.objs.size=some { cls:=.type "tuple",data:=.seq #[e.key,e.val] }→(∀ b o,b≠it→s.heap.get? b=some o→h'.get? b=some o)→Q (some (.ref s.heap.objs.size)) { s with heap:=h' }) :
  wpAny (model prog w) A (pyNext (.ref it)) Q E s:=by
 obtain ⟨hp,g,dr,tk,os⟩:=s
 have hT:Shared.TypeIs ⟨hp,g,dr,tk,os⟩ (.ref it) "dict_itemiterator":=⟨_,hit,rfl⟩
 have lt:i < es.size:=(Array.getElem?_eq_some_iff.mp he).1
 have own:Builtin.Dict_items.ownsTuple "dict_itemiterator"=true:=by decide
 unfold pyNext
 refine wpAny_bind (wpAny_attempt (wpAny_callSpecial?_slot (name:=Str.ofString "__next__") hT F.slot_dict_itemiterator_next (wpAny_call_entry F.slot_dict_itemiterator_next hT F.entry_dict_itemiterator_next ?_ (F.args_dict_itemiterator_next_1 _))))
 refine wpAny_bind (wpAny_pure (wpAny_bind (wpAny_bind ?_)))
 first | refine wpAny_bind (wpAny_typeNameOfWhole_itemiter hT (wpAny_pure (wpAny_bind (wpAny_fieldsOf hit rfl ?_)))) | refine wpAny_bind (wpAny_typeNameOf_itemiter hT (wpAny_pure (wpAny_bind (wpAny_fieldsOf hit rfl ?_))))
 simp only [own,if_true]
 refine (show wpAny _ _ (if (Value.ref d == Value.none)=true then _ else _) _ _ _ from ?_)
 rw [if_neg (show ¬(Value.ref d == Value.none)=true from Bool.false_ne_true)]
 refine wpAny_bind (wpAny_pure (wpAny_bind (wpAny_dictEntries ho hdat ?_)))
 rw [if_neg (show ¬_ by simp)]
 refine wpAny_bind (wpAny_pure (wpAny_bind (wpAny_dictEpoch ho hdat ?_)))
 rw [if_neg (show ¬_ by simp)]
 refine wpAny_pure ?_
 simp only [show ¬((i:Int) < 0) by omega,if_false,Int.toNat_natCast,he]
 refine wpAny_bind ?_
 first | refine wpAny_bind (wpAny_typeNameOfWhole_itemiter hT (wpAny_pure (wpAny_bind (wpAny_isOneOf_itemiter hT ?_)))) | refine wpAny_bind (wpAny_typeNameOf_itemiter hT (wpAny_pure (wpAny_bind (wpAny_isOneOf_itemiter hT ?_))))
 refine (show wpAny _ _ (setField (.ref it) 3 (rawInt ((i:Int)+1)) >>= _) _ _ ⟨hp,g,dr,tk,os⟩ from wpAny_bind (wpAny_setField_rec hit (by simp) fun h1 k1 b1=>?_))
 have k1':IsItemIter h1 it d (i+1) es.size ep ok ov:=by
  unfold IsItemIter
  rw [show ((i+1:Nat):Int)=(i:Int)+1 by omega]
  simpa [rawInt] using k1
 have hT1:Shared.TypeIs ⟨h1,g,dr,tk,os⟩ (.ref it) "dict_itemiterator":=⟨_,k1',rfl⟩
 have b1':Heap.SameBut it hp h1:=b1
 refine wpAny_bind (wpAny_holding (wpAny_bind (wpAny_isOneOf_itemiter hT1 (wpAny_bind (wpAny_isOneOf_itemiter hT1 ?_)))))
 refine (show wpAny _ _ (Builtin.Dict_items.pairFromOwner (.ref it) 6 e.key e.val) _ _ ⟨h1,g,dr,tk,os⟩ from ?_)
 unfold Builtin.Dict_items.pairFromOwner
 refine wpAny_bind (wpAny_newTuple ?_)
 obtain ⟨h2,eh2⟩:∃ h2,h2=h1.push { cls:=.type "tuple",data:=.seq #[e.key,e.val] }:=⟨_,rfl⟩
 have k2:IsItemIter h2 it d (i+1) es.size ep ok ov:=by rw [eh2];exact Heap.get?_push_of_some _ k1'
 have z1:h1.objs.size=hp.objs.size:=b1'.1
 have lti:it < hp.objs.size:=Heap.lt_size hit
 have t2:h2.get? hp.objs.size=some { cls:=.type "tuple",data:=.seq #[e.key,e.val] }:=by rw [eh2,← z1];exact Heap.get?_push_size _ rfl
 have o2:∀ b o,b≠it→hp.get? b=some o→h2.get? b=some o:=fun b o hb q=>by rw [eh2];exact Heap.get?_push_of_some _ (b1'.extBut b o hb q)
 refine (show wpAny _ _ (Builtin.Dict_items.ownedTupleIsFree (.ref it) >>= _) _ _ ⟨h1.push { cls:=.type "tuple",data:=.seq #[e.key,e.val] },g,dr,tk,os⟩ from ?_)
 rw [← eh2,z1]
 clear eh2 k1 k1' b1 b1' hT1 z1 h1
 unfold Builtin.Dict_items.ownedTupleIsFree
 refine wpAny_bind (wpAny_bind (wpAny_field k2 rfl (x:=.none) rfl (wpAny_pure ?_)))
 simp only [if_true]
 refine wpAny_bind (wpAny_field k2 rfl (x:=ok) rfl (wpAny_bind (wpAny_field k2 rfl (x:=ov) rfl (wpAny_bind (wpAny_setField_rec k2 (by simp) fun h3 k3 b3=>?_)))))
 have k3':IsItemIter h3 it d (i+1) es.size ep e.key ov:=k3
 refine wpAny_bind (wpAny_setField_rec k3' (by simp) fun h4 k4 b4=>?_)
 have k4':IsItemIter h4 it d (i+1) es.size ep e.key e.val:=k4
 refine wpAny_bind (wpAny_setField_rec k4' (by simp) fun h5 k5 b5=>?_)
 have k5':IsItemIterOut h5 it d (i+1) es.size ep e.key e.val hp.objs.size:=k5
 refine wpAny_bind (wpAny_setField_rec k5' (by simp) fun h6 k6 b6=>?_)
 have k6':IsItemIterOut h6 it d (i+1) es.size ep e.key e.val hp.objs.size:=k6
 have all:∀ b o,b≠it→h2.get? b=some o→h6.get? b=some o:=fun b o hb q=>b6.extBut b o hb (b5.extBut b o hb (b4.extBut b o hb (b3.extBut b o hb q)))
 exact wpAny_bind (wpAny_letGo (wpAny_pure (wpAny_pure ⟨_,rfl,wpAny_pure (fin h6 k6' (all _ _ (Nat.ne_of_gt lti) t2) fun b o hb q=>all b o hb (o2 b o hb q))⟩)))
theorem rawI_end {Q:Option Value→Shared→Prop} (hh:A.handled=none) (hit:IsItemIter s.heap it d i es.size ep ok ov) (ho:s.heap.get? d=some o) (hdat:o.data=.dict es ep) (he:es.size≤i)
  (fin:∀ h',Heap.ExtBut it s.heap h'→Q none { s with heap:=h' }):wpAny (model prog w) A (pyNext (.ref it)) Q E s:=by
 have hT:s.TypeIs (.ref it) "dict_itemiterator":=⟨_,hit,rfl⟩
 have own:Builtin.Dict_items.ownsTuple "dict_itemiterator"=true:=by decide
 unfold pyNext
 refine wpAny_bind (wpAny_attempt (wpAny_callSpecial?_slot (name:=Str.ofString "__next__") hT F.slot_dict_itemiterator_next (wpAny_call_entry F.slot_dict_itemiterator_next hT F.entry_dict_itemiterator_next ?_ (F.args_dict_itemiterator_next_1 _))))
 refine wpAny_bind (wpAny_pure (wpAny_bind (wpAny_bind ?_)))
 first | refine wpAny_bind (wpAny_typeNameOfWhole_itemiter hT (wpAny_pure (wpAny_bind (wpAny_fieldsOf hit rfl ?_)))) | refine wpAny_bind (wpAny_typeNameOf_itemiter hT (wpAny_pure (wpAny_bind (wpAny_fieldsOf hit rfl ?_))))
 simp only [own,if_true]
 refine (show wpAny _ _ (if (Value.ref d == Value.none)=true then _ else _) _ _ s from ?_)
 rw [if_neg (show ¬(Value.ref d == Value.none)=true from Bool.false_ne_true)]
 refine wpAny_bind (wpAny_pure (wpAny_bind (wpAny_dictEntries ho hdat ?_)))
 rw [if_neg (show ¬_ by simp)]
 refine wpAny_bind (wpAny_pure (wpAny_bind (wpAny_dictEpoch ho hdat ?_)))
 rw [if_neg (show ¬_ by simp)]
 refine wpAny_pure ?_
 simp only [show ¬((i:Int) < 0) by omega,if_false,Int.toNat_natCast,Array.getElem?_eq_none he]
 refine wpAny_bind ?_
 first | refine wpAny_bind (wpAny_typeNameOfWhole_itemiter hT (wpAny_pure ?_)) | refine wpAny_bind (wpAny_typeNameOf_itemiter hT (wpAny_pure ?_))
 refine (show wpAny _ _ (setField (.ref it) 2 .none >>= _) _ _ s from wpAny_bind (wpAny_setField hit rfl (by simp) ?_))
 refine (show wpAny _ _ (newExc (.type "StopIteration") [] >>= _) _ _ _ from wpAny_bind ?_)
 simp only [newExc,newTuple]
 refine wpAny_bind (wpAny_newObj_type (wpAny_bind (m:=firstArgMember _ _) (wpAny_of_eq (a:=Value.none) (by first | rfl | (simp only [firstArgMember];rfl)) (wpAny_newObj_type ?_ (by size_fits)))) (by size_fits))
 simp only [raiseNew]
 refine wpAny_bind (wpAny_handled ?_)
 rw [show A.in1.handled=none from hh]
 refine wpAny_bind (wpAny_pure (wpAny_throw ?_))
 refine wpAny_bind (wpAny_isInstance (b:=true) (T:="StopIteration") ⟨_,Heap.get?_push_size _ rfl,rfl⟩ isSubtype_stop ?_)
 exact wpAny_pure (fin _ (((Heap.SameBut.update ..).extBut.push _).push _))
end
def Itp (P:Program) (w:World) (c:Bool) (d:Addr) (kvs:List (PyData×V)) (xs:List (PyData×Addr×Value)) (ep:Nat):It :=
 ⟨fun i H=>H d=some (.ext (dφ P w c d xs ep))∧i < xs.length,fun i H x H'=>∃ t k b u v,x=.ref t∧H t=none∧xs[i]? = some (k,b,u)∧kvs[i]? = some (k,v)∧H'=upd H t (.tup [.ref b,v]),fun i H=>H d=some (.ext (dφ P w c d xs ep))∧xs.length≤i⟩
theorem turn_items {P:Program}{w:World}{K:PySem.W.Frag}{es':List Expr}{kk:Nat}{tp:Pos}{c:Bool}{kvs:List (PyData×V)}{xs:List (PyData×Addr×Value)}{ep:Nat} (hkv:Paired (fun (p:PyData×V) (q:PyData×Addr×Value)=>p.1=q.1∧RelV p.2 q.2.2) kvs xs) (d it:Addr) :
  Turn P w K (.Tuple es' kk tp) (Itp P w c d kvs xs ep) [it] it (fun i h=>∃ ok ov,IsItemIter h it d i xs.length ep ok ov) where
 mem:=by simp
 obj:=fun i h st b hb=>by
  have e:b=it:=by simpa using hb
  subst e
  obtain ⟨ok,ov,he⟩:=st
  exact ⟨_,he,fun v z=>by
   have z':Data.fields _=Data.cell v:=z
   cases z'⟩
 keep:=fun i h h' st k=>by
  obtain ⟨ok,ov,he⟩:=st
  exact ⟨ok,ov,k it (by simp) _ he⟩
 item:=by
  intro X hP hw hK hc i pins s σ H E I hf st hg
  subst hP hw hK
  obtain ⟨ok,ov,st⟩:=st
  obtain ⟨hd,hi⟩:=hg
  obtain ⟨h0,o,es,h1,h2,h3,h4,h5⟩:=dict_obj I hd
  obtain ⟨f0,f1,f2,f3,f4,f5⟩:=hf it (by simp)
  have e1:=List.getElem?_eq_getElem hi
  generalize xs[i]=x at e1
  obtain ⟨k,b,u⟩:=x
  obtain ⟨⟨k',v⟩,e3,ek,rv⟩:=My.paired_get hkv i _ e1
  cases ek
  have e2:es[i]? = some (entryOfKey (nkKind X.prog X.w c) (k,b,u)):=by rw [entry_at h4,e1];rfl
  refine rawI_item (es:=es) (by rw [h5];exact st) h1 h3 e2 fun h' ho htp kp=>⟨_,rfl,?_⟩
  rw [h5] at ho
  refine wpAny_letOwnedTupleGo_items ho fun h2 he2 hs2=>?_
  have kp2:∀ b o,b∉[it]→s.heap.get? b=some o→h2.get? b=some o:=fun b o hb q=>(hs2.2 b (fun z=>hb (by simp [z]))).trans (kp b o (fun z=>hb (by simp [z])) q)
  have fr:H s.heap.objs.size=none:=I.fresh
  have nit:∀ {b:Addr}{v:HO},H b=some v→b∉[it]:=fun {b v} q z=>by
   rw [List.mem_singleton.mp z,f0] at q
   cases q
  have lte:it < s.heap.objs.size:=Heap.lt_size st
  have ht2:h2.get? s.heap.objs.size=some { cls:=.type "tuple",data:=.seq #[.ref b,u] }:=(hs2.2 _ (Nat.ne_of_gt lte)).trans htp
  have I1:Inv X pins σ (upd H s.heap.objs.size (.tup [.ref b,v])) { s with heap:=h2 }:=by
   have un:Un (frs X.stack) [it] H (upd H s.heap.objs.size (.tup [.ref b,v])) s.heap h2 :=
    ⟨fun b o q _ _ hx=>kp2 b o hx q,fun b o q _ _ hx=>⟨o.slots,kp2 b o hx q⟩,fun b o q n _=>by rw [upd_ne (Nat.ne_of_lt (Heap.lt_size q))];exact n,fun b o q hx=>⟨o,kp2 b o hx q⟩,
     fun b ys q=>by rw [upd_ne (ne_of_none q fr)];exact q,fun b o v q=>by rw [upd_ne (ne_of_none q fr)];exact q,fun b ps q=>⟨#[],by rw [upd_ne (ne_of_none q fr),q];simp⟩⟩
   refine I.call (g':=s.gens) (d':=s.drawn) un (fun c' v' q=>?_) I.bare fun c' hb=>?_
   ·by_cases hb:c'=s.heap.objs.size
    ·subst hb
     rw [upd_same] at q
     cases q
     exact ⟨by show 2≤sizeLine;decide,[.ref b,u],.cons rfl (.cons rv .nil),⟨_,ht2,⟨rfl,_,rfl⟩,rfl⟩⟩
    ·rw [upd_ne hb] at q
     refine (I.hok c' v' q).stay (fun c o hc e1=>kp2 c o ?_ e1) (fun c e1=>?_) fun c ys e1=>?_
     ·rcases hc with z | z
      ·rw [z];exact nit q
      ·exact nit z
     ·rw [upd_ne (ne_of_none e1 fr)];exact e1
     ·rw [upd_ne (ne_of_none e1 fr)];exact e1
   ·rw [List.mem_singleton.mp hb]
    exact ⟨f3,f1,f4,f5⟩
  refine ⟨.ref s.heap.objs.size,_,I1,rfl,⟨_,k,b,u,v,rfl,fr,e1,e3,rfl⟩,⟨_,_,he2⟩,fun c' hb=>?_⟩
  rw [List.mem_singleton.mp hb,upd_ne (Nat.ne_of_lt lte)]
  exact f0
 done:=by
  intro X hP hw hK hc i pins s σ H E I hf st hg
  subst hP hw hK
  obtain ⟨ok,ov,st⟩:=st
  obtain ⟨hd,hi⟩:=hg
  obtain ⟨h0,o,es,h1,h2,h3,h4,h5⟩:=dict_obj I hd
  obtain ⟨f0,f1,f2,f3,f4,f5⟩:=hf it (by simp)
  exact rawI_end (es:=es) (I.ok.hd hc) (by rw [h5];exact st) h1 h3 (by omega) fun h' eb=>⟨rfl,I.turned (t':=s.toks) (fun b o hb e=>eb b o hb e) f0 f1 f3 f4 f5⟩
 self:=fun _ _ _ _ _ st h=>by
  obtain ⟨ok,ov,he⟩:=st
  exact PySem.W.kcp_self he h
def iItems (P:Program) (w:World) (K:PySem.W.Frag) (c:Bool) (td:TE):TI:=fun σ H R=>td σ H fun x H1=>∃ a kvs xs ep,x=.ref a∧H1 a=some (.ext (dφ P w c a xs ep))∧DRel K H1 c kvs xs∧R (Itp P w c a kvs xs ep) H1
theorem pi_items {X:Cx}{o:Expr}{td:TE}{apos cpos:Pos}{es':List Expr}{kk:Nat}{tp:Pos} (c:Bool) (ho:PE X o td) (hbase:attributeBase o "items" X.env (eval o X.env)=eval o X.env:=by rfl) (hline:(apos.endLine == cpos.line)=true:=by rfl) :
  PI X (.Tuple es' kk tp) (.Call (.Attribute o "items" apos) [] [] cpos) (iItems X.prog X.w X.K c td):=by
 intro pins s σ H R I h
 refine wpAny_Call_method0_late hbase hline (thnE (ho pins s σ H _ I h) fun v s1 x H1 I1 r1 zz15=>?_)
 obtain ⟨a,kvs,xs,ep,ex,he,hr,q⟩:=zz15
 subst ex
 obtain rfl:v=Value.ref a:=r1
 obtain ⟨h0,o',es,h1,h2,h3,h4,h5⟩:=dict_obj I1 he
 refine ⟨"dict","dict.items",PySem.F.plainAttrs_dict,PySem.F.slot_dict_items,PySem.F.type_dict_items,td_of h1 h2,(fun b e=>by cases e;exact ⟨o',h1,h2.2.1⟩),Calls.callWith_builtin rfl (PySem.evalArgs_none ?_)⟩
 refine call_meetsIn PySem.F.slot_dict_items (td_of h1 h2) PySem.F.entry_dict_items (PySem.F.args_dict_items_1 _) (rawI_view a h0) ⟨td_of h1 h2,?_⟩
 have I2:Inv X pins σ H1 { s1 with heap:=s1.heap.push { cls:=.type "dict_items",data:=.fields #[.ref a] } }:=I1.kept (t':=s1.toks) fun b o e=>Heap.get?_push_of_some _ e
 refine rawI_iter (s:={ s1 with heap:=s1.heap.push { cls:=.type "dict_items",data:=.fields #[.ref a] } }) ⟨_,Heap.get?_push_size _ rfl,rfl,rfl⟩ (Heap.get?_push_of_some _ h1) h3 ?_
 refine ⟨(s1.heap.push { cls:=.type "dict_items",data:=.fields #[.ref a] }).objs.size,[(s1.heap.push { cls:=.type "dict_items",data:=.fields #[.ref a] }).objs.size],_,_,H1,rfl,I2.kept (t':=s1.toks) fun b o e=>Heap.get?_push_of_some _ e,turn_items (My.paired_imp (fun _ _ h=>⟨h.1,h.2.2⟩) hr) a _,⟨.none,.none,?_⟩,fun b hb=>?_,q⟩
 ·show Heap.get? _ _=_
  rw [Heap.get?_push_size _ rfl,h5]
  rfl
 ·rw [List.mem_singleton.mp hb]
  exact I2.fpOk (Nat.le_refl _) (I2.hok.fresh (Nat.le_refl _))
theorem for_items {P:Program}{w:World}{c:Bool}{a:Addr}{kvs:List (PyData×V)}{xs:List (PyData×Addr×Value)}{ep:Nat}{g:TG}{tb:TS}{D:Ends}{σ:St}{H:Hp} (Pv:Nat→St→Hp→Prop) (h0:Pv 0 σ H) (hl:∀ i σ H,i≤xs.length→Pv i σ H→H a=some (.ext (dφ P w c a xs ep)))
  (hs:∀ i t k b u v σ H,xs[i]? = some (k,b,u)→kvs[i]? = some (k,v)→H t=none→Pv i σ H→g (.ref t) σ (upd H t (.tup [.ref b,v])) fun σ2 H2=>tb { D with nx:=Pv (i+1),ct:=Pv (i+1),bk:=D.nx } σ2 H2) (hd:∀ σ H,Pv xs.length σ H→D.nx σ H) :
  ∃ W:Nat→Nat→St→Hp→Prop,(∃ m,W 0 m σ H)∧∀ i m σ H,W i m σ H →
   ((Itp P w c a kvs xs ep).stop i H∧D.nx σ H)∨((Itp P w c a kvs xs ep).go i H∧∃ N:St→Hp→Prop,(∀ σ' H',N σ' H'→∃ m',m' < m∧W (i+1) m' σ' H')∧∀ x H',(Itp P w c a kvs xs ep).yld i H x H'→g x σ H' fun σ2 H2=>tb { D with nx:=N,ct:=N,bk:=D.nx } σ2 H2):=by
 refine ⟨fun i m σ H=>m=xs.length-i∧i≤xs.length∧Pv i σ H,⟨xs.length,by simp,Nat.zero_le _,h0⟩,?_⟩
 rintro i m σ H ⟨rfl,hi,p⟩
 have q:=hl i σ H hi p
 by_cases hlt:i < xs.length
 ·refine .inr ⟨⟨q,hlt⟩,Pv (i+1),fun σ' H' p'=>⟨xs.length-(i+1),by omega,rfl,hlt,p'⟩,fun x H' y=>?_⟩
  obtain ⟨t,k,b,u,v,ex,ht,e1,e2,e3⟩:=y
  subst ex e3
  exact hs i t k b u v σ _ e1 e2 ht p
 ·have e:i=xs.length:=by omega
  subst e
  exact .inl ⟨⟨q,Nat.le_refl _⟩,hd σ H p⟩
theorem Walk.dict {P:Program}{w:World}{c:Bool}{H1:Hp}{a:Addr}{xs:List (PyData×Addr×Value)}{ep:Nat} (h:H1 a=some (.ext (dφ P w c a xs ep))):Walk (Itn P w c a xs ep) H1 xs.length (fun k x _=>x=(xs[k]?.map fun q=>V.ref q.2.1).getD .non) where
 go:=fun k H2 s hk=>⟨s _ _ h,hk⟩
 yld:=fun k H2 x H3 s hk y=>by
  obtain ⟨e,kk,b,u,e1,e2⟩:=y
  rw [e]
  exact ⟨Same.refl _,by rw [e1,e2];rfl⟩
 stop:=fun H2 s=>⟨s _ _ h,Nat.le_refl _⟩
theorem DAt.putD {P:Program}{w:World}{K:PySem.W.Frag}{c:Bool}{H:Hp}{d l:Addr}{kvs:List (PyData×V)}{φ:Heap→Prop}{o:HO} (h:DAt P w K c H d kvs) (hl:H l=some (.ext φ)) (hne:d≠l):DAt P w K c (upd H l o) d kvs:=by
 obtain ⟨⟨xs,ep,e,r⟩,z⟩:=h
 refine ⟨⟨xs,ep,?_,r.mono fun a xs t=>seqT_put hl a xs t⟩,z⟩
 rw [upd_ne hne]
 exact e
end L2
namespace My
open PySem L2 PyProof.Rows
abbrev CI:=List (PyData×Int)
def kvI (cs:CI):List (PyData×V):=cs.map fun p=>(p.1,V.int p.2)
theorem kvI_len (cs:CI):(kvI cs).length=cs.length:=by
 unfold kvI
 rw [List.length_map]
theorem valN_in {k:PyData}:∀ {cs:CI},k∈cs.map (·.1)→valN (kvI cs) k=some (.int (getI cs k))
 | [],h=>by cases h
 | p :: r,h=>by
  unfold valN kvI getI
  rw [List.map_cons,List.find?_cons]
  by_cases e:p.1=k
  ·rw [decide_eq_true (show (p.1,V.int p.2).1=k from e),if_pos e]
   rfl
  ·rw [decide_eq_false (show ¬(p.1,V.int p.2).1=k from e),if_neg e]
   rw [List.map_cons,List.mem_cons] at h
   rcases h with h | h
   ·exact absurd h.symm e
   ·exact valN_in h
theorem valN_out {k:PyData}:∀ {cs:CI},k∉cs.map (·.1)→valN (kvI cs) k=none
 | [],_=>rfl
 | p :: r,h=>by
  rw [List.map_cons,List.mem_cons,not_or] at h
  unfold valN kvI
  rw [List.map_cons,List.find?_cons,decide_eq_false (show ¬(p.1,V.int p.2).1=k from fun z=>h.1 z.symm)]
  exact valN_out h.2
theorem get_kvI (cs:CI) (k:PyData):(valN (kvI cs) k).getD (.int 0)=.int (getI cs k):=by
 by_cases h:k∈cs.map (·.1)
 ·rw [valN_in h]
  rfl
 ·rw [valN_out h,(add_new (x:=0) h).2]
  rfl
theorem map_upd {k:PyData}{x:Int}:∀ {cs:CI},(cs.map (·.1)).Nodup→k∈cs.map (·.1)→(kvI cs).map (fun p=>if p.1=k then (p.1,V.int (getI cs k+x)) else p)=kvI (addI cs k x)
 | [],_,h=>by cases h
 | p :: r,nd,h=>by
  rw [List.map_cons,List.nodup_cons] at nd
  rw [List.map_cons,List.mem_cons] at h
  unfold addI getI
  by_cases e:p.1=k
  ·rw [if_pos e,if_pos e]
   show (if p.1=k then (p.1,V.int (p.2+x)) else (p.1,V.int p.2)) :: ((kvI r).map fun q=>if q.1=k then (q.1,V.int (p.2+x)) else q)=(p.1,V.int (p.2+x)) :: kvI r
   rw [if_pos e]
   congr 1
   have:∀ q∈kvI r,(if q.1=k then (q.1,V.int (p.2+x)) else q)=q:=fun q hq=>by
    obtain ⟨q',hq',rfl⟩:=List.mem_map.mp hq
    rw [if_neg]
    intro z
    exact nd.1 (by rw [e,← z];exact List.mem_map_of_mem hq')
   calc ((kvI r).map fun q=>if q.1=k then (q.1,V.int (p.2+x)) else q)=(kvI r).map id:=List.map_congr_left this
    _=kvI r:=List.map_id _
  ·rw [if_neg e,if_neg e]
   show (if p.1=k then (p.1,V.int (getI r k+x)) else (p.1,V.int p.2)) :: ((kvI r).map fun q=>if q.1=k then (q.1,V.int (getI r k+x)) else q)=(p.1,V.int p.2) :: kvI (addI r k x)
   rw [if_neg e,map_upd nd.2 (h.resolve_left fun z=>e z.symm)]
theorem put_kvI {cs:CI}{k:PyData}{x:Int} (nd:(cs.map (·.1)).Nodup):putN (kvI cs) k (.int (getI cs k+x))=kvI (addI cs k x):=by
 unfold putN
 by_cases h:k∈cs.map (·.1)
 ·rw [valN_in h,if_pos (show (some (V.int (getI cs k))).isSome=true from rfl)]
  exact map_upd nd h
 ·rw [valN_out h,if_neg (by simp),(add_new (x:=x) h).1,(add_new (x:=0) h).2,Int.zero_add]
  unfold kvI
  rw [List.map_append]
  rfl
theorem getI_at {cs:CI} (nd:(cs.map (·.1)).Nodup) {k:PyData}{c:Int} (h:(k,c)∈cs):getI cs k=c:=by
 induction cs with
 | nil=>cases h
 | cons p r ih =>
  rw [List.map_cons,List.nodup_cons] at nd
  unfold getI
  rcases List.mem_cons.mp h with e | h
  ·rw [← e,if_pos rfl]
  ·rw [if_neg (fun z=>nd.1 (by rw [z];exact List.mem_map.mpr ⟨_,h,rfl⟩))]
   exact ih nd.2 h
structure CDict (P:Program) (w:World) (K:PySem.W.Frag) (H:Hp) (d:Addr) (cs:CI):Prop where
 at':DAt P w K false H d (kvI cs)
 nd:(cs.map (·.1)).Nodup
theorem CDict.same {P:Program}{w:World}{K:PySem.W.Frag}{H H':Hp}{d:Addr}{cs:CI} (h:CDict P w K H d cs) (s:Same H H'):CDict P w K H' d cs:=⟨h.at'.same s,h.nd⟩
def CntAt (P:Program) (w:World) (K:PySem.W.Frag) (dC:Addr) (H:Hp) (kvsC:List (PyData×V)) (succ:PyData→List (PyData×PyData)) (univ:List PyData) (n:PyData):Prop :=
 ∃ dn cn,valN kvsC n=some (.ref dn)∧dn≠dC∧CDict P w K H dn cn∧(∀ φ:PyData→Int,sumD cn φ=((succ n).map fun st=>φ st.2).sum)∧(∀ p∈cn,0≤p.2∧p.2≤5000)∧∀ q∈cn.map (·.1),q∈univ
theorem CntAt.same {P:Program}{w:World}{K:PySem.W.Frag}{dC:Addr}{H H':Hp}{kvsC:List (PyData×V)}{succ:PyData→List (PyData×PyData)}{univ:List PyData}{n:PyData} (s:Same H H') (h:CntAt P w K dC H kvsC succ univ n):CntAt P w K dC H' kvsC succ univ n:=by
 obtain ⟨dn,cn,h1,h0,h2,h3⟩:=h
 exact ⟨dn,cn,h1,h0,h2.same s,h3⟩
def spStepCounts (P:Program) (w:World) (K:PySem.W.Frag):Sp:=fun vs H Q _=>∃ (D:Addr) (ys:List V) (sts:List (PyData×PyData)) (Lab:V→PyData→Prop),vs=[.ref D]∧H D=some (.lst ys)∧Paired (StepAt K H Lab) ys sts∧sts.length≤5000 ∧
 ∀ d cs H',Same H H'→H d=none→CDict P w K H' d cs→(∀ φ:PyData→Int,sumD cs φ=(sts.map fun st=>φ st.2).sum)→(∀ p∈cs,0≤p.2∧p.2≤5000)→(∀ q∈cs.map (·.1),∃ st∈sts,st.2=q)→Q (.ref d) H'
def spOneStep (P:Program) (w:World) (K:PySem.W.Frag):Sp:=fun vs H Q _=>∃ (dW dC:Addr) (cs:CI) (kvsC:List (PyData×V)) (succ:PyData→List (PyData×PyData)) (univ:List PyData),vs=[.ref dW,.ref dC]∧CDict P w K H dW cs∧DAt P w K false H dC kvsC ∧
 (∀ p∈cs,CntAt P w K dC H kvsC succ univ p.1)∧univ.length≤20000 ∧
 ∀ d cs' H',Same H H'→H d=none→CDict P w K H' d cs'→(∀ φ:PyData→Int,sumD cs' φ=sumD cs fun n=>((succ n).map fun st=>φ st.2).sum)→(∀ q∈cs'.map (·.1),q∈univ)→Q (.ref d) H'
def preW (P:Program) (w:World) (K:PySem.W.Frag) (mg:Str→Option Value) (base:Heap) (g:Gr):Shared→Hp→List V→Prop:=fun s H vs=>∃ b fS fE L,vs=[.ref b,.ref fS,.ref fE,.int L]∧CallOk P w K mg base 4 fS (spSteps K g) s H∧CallX P w K mg base 4 fE (spEnds K g) H
def spWays (K:PySem.W.Frag) (g:Gr):Sp:=fun vs H Q _=>∃ b fS fE L,vs=[.ref b,.ref fS,.ref fE,.int L]∧L≤60∧KeyAt K H false b g.start∧GrOk g∧(∀ n∈g.univ,(g.succ n).length≤5000)∧g.hp H ∧
 ∀ H',Same H H'→Q (.int (if L < 0 then 0 else cnt g.succ g.fin L.toNat g.start)) H'
theorem putN_len {kvs:List (PyData×V)}{n:PyData}{v:V} (h:valN kvs n=none):putN kvs n v=kvs++[(n,v)]:=by
 unfold putN
 rw [h]
 rfl
theorem valN_app {kvs:List (PyData×V)}{n m:PyData}{v:V} (h:valN kvs n=none):valN (kvs++[(n,v)]) m=if m=n then some v else valN kvs m:=by
 unfold valN at h ⊢
 rw [List.find?_append]
 by_cases e:m=n
 ·subst e
  rw [if_pos rfl]
  have h':kvs.find? (fun p=>decide (p.1=m))=none:=by
   cases q:kvs.find? (fun p=>decide (p.1=m)) with
   | none=>rfl
   | some x=>rw [q] at h;cases h
  rw [h']
  simp
 ·rw [if_neg e]
  have:[(n,v)].find? (fun p:PyData×V=>decide (p.1=m))=none:=by
   rw [List.find?_cons,decide_eq_false (show ¬(n,v).1=m from fun z=>e z.symm)]
   rfl
  rw [this,Option.or_none]
theorem valN_key {kvs:List (PyData×V)}{n:PyData} (h:valN kvs n=none):n∉kvs.map (·.1):=by
 intro z
 obtain ⟨p,hp,e⟩:=List.mem_map.mp z
 unfold valN at h
 cases q:kvs.find? (fun p=>decide (p.1=n)) with
 | none =>
  have:=List.find?_eq_none.mp q p hp
  exact this (decide_eq_true e)
 | some x=>rw [q] at h;cases h
structure Cts (P:Program) (w:World) (K:PySem.W.Frag) (g:Gr) (H:Hp) (dC:Addr) (kvsC:List (PyData×V)):Prop where
 at':DAt P w K false H dC kvsC
 nd:(kvsC.map (·.1)).Nodup
 un:∀ n∈kvsC.map (·.1),n∈g.univ
 ok:∀ n,(valN kvsC n).isSome=true→CntAt P w K dC H kvsC g.succ g.univ n
theorem Cts.same {P:Program}{w:World}{K:PySem.W.Frag}{g:Gr}{H H':Hp}{dC:Addr}{kvsC:List (PyData×V)} (h:Cts P w K g H dC kvsC) (s:Same H H'):Cts P w K g H' dC kvsC:=⟨h.at'.same s,h.nd,h.un,fun n hn=>(h.ok n hn).same s⟩
theorem few_keys {cs:CI}{u:List PyData} (nd:(cs.map (·.1)).Nodup) (h:∀ q∈cs.map (·.1),q∈u):cs.length≤u.length:=by
 have:=nodup_le nd h
 rwa [List.length_map] at this
theorem take_snoc {α:Type}{xs:List α}{i:Nat}{x:α} (h:xs[i]? = some x):xs.take (i+1)=xs.take i++[x]:=take_succ_get h
theorem sumD_snoc (cs:CI) (p:PyData×Int) (φ:PyData→Int):sumD (cs++[p]) φ=sumD cs φ+p.2 * φ p.1:=by
 unfold sumD
 rw [List.map_append,List.sum_append]
 simp
theorem block_fmB {J:It}{H1:Hp}{n:Nat}{item:Nat→V}{js:List (Option Nat)}{i:Nat}{tc:TT}{te:TE}{σ:L2.St}{R:VK} (Wk:Walk J H1 n (fun k x _=>x=item k)) (hn:n≤100000) (hi:(cst js σ)[i]? = some none)
  (p:Nat→Bool) (y:Nat→V)
  (test:∀ k H2 (Q:Bool→Hp→Prop),k < n→Same H1 H2→(∀ H3,Same H2 H3→Q (p k) H3)→tc ((cst js σ).set i (some (item k))) H2 Q)
  (step:∀ k H2 (Q:VK),k < n→p k=true→Same H1 H2→(∀ H3,Same H2 H3→Q (y k) H3)→te ((cst js σ).set i (some (item k))) H2 Q)
  (fin:∀ D H2,H1 D=none→Same H1 H2→H2 D=some (.lst (((List.range n).filter p).map y))→R (.ref D) H2):tBlock js (gName i) tc te σ R J H1:=by
 refine block_gen Wk (fun D k ys H2=>ys=((List.range k).filter p).map y) (fun D hD=>rfl) (fun D k x ys H1' H2 Keep Drop hD hk s1 s2 hys e ex keep drop=>?_) (fun D ys H2 hD s hys e=>fin D H2 hD s (e ▸ hys))
 subst ex
 have s:=s1.trans s2
 have hl:ys.length < sizeLine:=by
  have h1:(((List.range k).filter p).map y).length≤k:=by
   rw [List.length_map]
   exact Nat.le_trans (List.length_filter_le _ _) (by simp)
  rw [e]
  exact smallM (by omega)
 have e1:List.range (k+1)=List.range k++[k]:=List.range_succ
 refine ⟨Ext.set hi,test k H2 _ hk s fun H3 s3=>?_⟩
 cases hp:p k with
 | true =>
  rw [if_pos rfl]
  refine step k H3 _ hk hp (s.trans s3) fun H4 s4=>keep _ _ (s3.trans s4) hl ?_
  rw [e1,List.filter_append,List.map_append,e]
  simp [hp]
 | false =>
  rw [if_neg (by decide)]
  refine drop _ s3 ?_
  rw [e1,List.filter_append,List.map_append,e]
  simp [hp]
theorem kvI_at {cs:CI}{j:Nat}{k:PyData}{v:V} (h:(kvI cs)[j]? = some (k,v)):∃ c,cs[j]? = some (k,c)∧v=.int c:=by
 unfold kvI at h
 rw [List.getElem?_map] at h
 cases e:cs[j]? with
 | none=>rw [e] at h;cases h
 | some p =>
  rw [e] at h
  cases h
  exact ⟨p.2,rfl,rfl⟩
section
variable {P:Program}{w:World}{K:PySem.W.Frag}{mg:Str→Option Value}{base:Heap}
abbrev s_step_counts:Stmt:=top 11
theorem sc_step_counts:FnScope ["steps","counts","step"] ["steps"] (defScope s_step_counts):=fS
theorem ok_step_counts {f:Addr}{fd:FuncData} (F:Fun K "step_counts" "step_counts" s_step_counts f fd) (B:Blt mg)   :
  FnOk P w K mg base CX0 1 f fd ["steps"] (spStepCounts P w K):=by
 refine F.ok sc_step_counts (fun vs H Q E h=>?_) (fun cdv A outer s H vs Q E hr h=>?_)
 ·obtain ⟨_,_,_,_,rfl,_⟩:=h
  rfl
 ·obtain ⟨D,ys,sts,Lab,rfl,hD,hp,hl,q⟩:=h
  have nd:=sc_step_counts.nd
  have hu:=hr.units
  have hyl:=paired_length hp
  refine ⟨_,(pss_cons (ps_set (i:=1) nd rfl (Or.inl rfl) (pe_ndisp0 false))
   (pss_cons (ps_for PassesOwn.never rfl (pi_list (pv 0)) (pg_name (i:=2) nd rfl (Or.inl rfl)) (pss_one (ps_nput false hu (pv 1) (pe_ix ix_tup (pv 2) pe_int (fun _ _=>rfl)) (pe_op op_add (pe_ngetd false hu (pv 1) (pa_cons (pe_ix ix_tup (pv 2) pe_int (fun _ _=>rfl)) (pa_cons pe_int pa_nil))) pe_int) rfl)))
   (pss_one (ps_ret (pv 1))))),?_⟩
  refine fun d hd hd0=>?_
  have s1:=Same.new (o:=HO.ext (dφ P w false d [] 0)) hd
  refine ⟨_,rfl,D,rfl,⟨_,SqL.of (s1 _ _ hD)⟩,for_list (K:=K) (a:=D) (xs:=ys) (fun i σ H2=>∃ cs o,σ=[some (.ref D),some (.ref d),o]∧Same H H2∧CDict P w K H2 d cs∧(∀ φ:PyData→Int,sumD cs φ=((sts.take i).map fun st=>φ st.2).sum)∧(∀ p∈cs,0≤p.2∧p.2≤(i:Int))∧(∀ q∈cs.map (·.1),∃ st∈sts,st.2=q))
   ⟨[],_,rfl,s1,⟨hd0,List.nodup_nil⟩,fun φ=>rfl,(fun p z=>by cases z),fun p z=>by cases z⟩ (fun i σ H2 _ ⟨_,_,_,s2,_⟩=>SqL.of (s2 _ _ hD)) ?_ ?_⟩
  ·rintro i y σ H2 hi ⟨cs,o,rfl,s2,C,hs,hb,hk⟩
   obtain ⟨st,est,t,lv,b,rfl,hT,hLab,hKey⟩:=paired_getL hp i _ hi
   have hT2:=s2.seqT hT
   have hK2:=hKey.same s2
   have hil:i < sts.length:=(List.getElem?_eq_some_iff.mp est).1
   have hcl:cs.length≤sts.length:=by
    have:=few_keys (u:=sts.map (·.2)) C.nd fun q hq=>by
     obtain ⟨st,h1,h2⟩:=hk q hq
     exact List.mem_map.mpr ⟨st,h1,h2⟩
    rwa [List.length_map] at this
   refine ⟨_,rfl,⟨d,_,rfl,C.at'⟩,_,rfl,t,_,1,_,rfl,rfl,hT2,rfl,d,_,_,_,rfl,rfl,⟨_,st.2,b,C.at',rfl,hK2,rfl⟩,getI cs st.2,1,get_kvI _ _,rfl,?_⟩
   refine ⟨_,rfl,_,rfl,t,_,1,_,rfl,rfl,hT2,rfl,d,b,_,st.2,rfl,rfl,C.at',hK2,smallM (by rw [kvI_len];omega),fun xs ep hD'=>?_⟩
   rw [put_kvI C.nd] at hD'
   refine ⟨addI cs st.2 1,_,rfl,s2.put hd,⟨hD',nodup_add C.nd⟩,fun φ=>?_,fun p hp'=>?_,fun q hq=>?_⟩
   ·rw [sumD_add,hs φ,take_snoc est,List.map_append,List.sum_append]
    simp
   ·exact vals_add (R:=fun v=>0≤v∧v≤(i:Int)) (S:=fun v=>0≤v∧v≤((i+1:Nat):Int)) (fun v hv=>by omega) (fun v hv=>by omega) (by omega) hb p hp'
   ·rcases keys_add.mp hq with rfl | hq
    ·exact ⟨st,List.mem_of_getElem? est,rfl⟩
    ·exact hk q hq
  ·rintro σ H2 ⟨cs,o,rfl,s2,C,hs,hb,hk⟩
   refine ⟨_,rfl,q d cs H2 s2 hd C (fun φ=>?_) (fun p hp'=>?_) hk⟩
   ·rw [hs φ,hyl,List.take_length]
   ·have:=hb p hp'
    omega
abbrev s_one_step_on:Stmt:=top 12
theorem sc_one_step_on:FnScope ["ways","counts","farther","node","target","count"] ["ways","counts"] (defScope s_one_step_on):=fS
theorem ok_one_step_on {f:Addr}{fd:FuncData} (F:Fun K "one_step_on" "one_step_on" s_one_step_on f fd) (B:Blt mg)   :
  FnOk P w K mg base CX0 1 f fd ["ways","counts"] (spOneStep P w K):=by
 refine F.ok sc_one_step_on (fun vs H Q E h=>?_) (fun cdv A outer s H vs Q E hr h=>?_)
 ·obtain ⟨_,_,_,_,_,_,rfl,_⟩:=h
  rfl
 ·obtain ⟨dW,dC,cs,kvsC,succ,univ,rfl,C,hDC,hCnt,hu2,q⟩:=h
  have nd:=sc_one_step_on.nd
  have hu:=hr.units
  refine ⟨_,(pss_cons (ps_set (i:=2) nd rfl (Or.inl rfl) (pe_ndisp0 false))
   (pss_cons (ps_for PassesOwn.never rfl (pi_dict false (pv 0)) (pg_name (i:=3) nd rfl (Or.inl rfl)) (pss_one (ps_for PassesOwn.never rfl (pi_items false (pe_nget false hu (pv 1) (pv 3) (fun _ _=>rfl))) (pg_tup rfl (pgs_cons (pg_name (i:=4) nd rfl (Or.inl rfl)) (pgs_cons (pg_name (i:=5) nd rfl (Or.inl rfl)) pgs_nil))) (pss_one (ps_nput false hu (pv 2) (pv 4) (pe_op op_add (pe_ngetd false hu (pv 2) (pa_cons (pv 4) (pa_cons pe_int pa_nil))) (pe_op op_mul (pe_nget false hu (pv 0) (pv 3) (fun _ _=>rfl)) (pv 5))) rfl)))))
   (pss_one (ps_ret (pv 2))))),?_⟩
  refine fun d hd hd0=>?_
  have s1:=Same.new (o:=HO.ext (dφ P w false d [] 0)) hd
  obtain ⟨⟨xs,ep,he,hrel⟩,hz⟩:=id C.at'
  have hxl:xs.length=cs.length:=by rw [← paired_length hrel,kvI_len]
  refine ⟨_,rfl,dW,xs,ep,rfl,s1 _ _ he,for_dict (fun i σ H2=>∃ cs' o3 o4 o5,σ=[some (.ref dW),some (.ref dC),some (.ref d),o3,o4,o5]∧Same H H2∧CDict P w K H2 d cs'∧(∀ φ:PyData→Int,sumD cs' φ=sumD (cs.take i) fun n=>((succ n).map fun st=>φ st.2).sum)∧(∀ q∈cs'.map (·.1),q∈univ))
   ⟨[],_,_,_,rfl,s1,⟨hd0,List.nodup_nil⟩,fun φ=>rfl,fun p z=>by cases z⟩ (fun i σ H2 _ ⟨_,_,_,_,_,s2,_⟩=>s2 _ _ he) ?_ ?_⟩
  ·rintro i k b u σ H2 hi ⟨cs',o3,o4,o5,rfl,s2,C',hs,hk⟩
   obtain ⟨⟨k',v'⟩,e1,ek,hKey,rv⟩:=paired_get hrel i _ hi
   cases ek
   have ecs:∃ c,cs[i]? = some (k,c)∧v'=.int c:=by
    unfold kvI at e1
    rw [List.getElem?_map] at e1
    cases e:cs[i]? with
    | none=>rw [e] at e1;cases e1
    | some p =>
     rw [e] at e1
     cases e1
     exact ⟨p.2,rfl,rfl⟩
   obtain ⟨c,ecs,rfl⟩:=ecs
   have hmem:=List.mem_of_getElem? ecs
   obtain ⟨dn,cn,hvn,_,Cn,hsn,hbn,hkn⟩:=hCnt _ hmem
   obtain ⟨⟨xsn,epn,hen,hreln⟩,hzn⟩:=id Cn.at'
   have hK2:=hKey.same s2
   refine ⟨_,rfl,_,rfl,dC,.ref dn,rfl,⟨kvsC,k,b,hDC.same s2,rfl,hK2,hvn.symm⟩,dn,kvI cn,xsn,epn,rfl,s2 _ _ hen,hreln.mono fun _ _=>s2.seqT,?_⟩
   refine for_items (fun j σ H3=>∃ cs'' o4 o5,σ=[some (.ref dW),some (.ref dC),some (.ref d),some (.ref b),o4,o5]∧Same H H3∧CDict P w K H3 d cs''∧(∀ φ:PyData→Int,sumD cs'' φ=sumD cs' φ+c * sumD (cn.take j) φ)∧(∀ q∈cs''.map (·.1),q∈univ))
    ⟨cs',_,_,rfl,s2,C',fun φ=>by show _=_+c * 0;omega,hk⟩ (fun j σ H3 _ ⟨_,_,_,_,s3,_⟩=>s3 _ _ hen) ?_ ?_
   ·rintro j t k2 b2 u2 v2 σ H3 hj1 hj2 ht ⟨cs'',o4',o5',rfl,s3,C'',hs3,hk3⟩
    obtain ⟨⟨k2',v2'⟩,e2,ek2,hKey2,rv2⟩:=paired_get hreln j _ hj1
    cases ek2
    have ecn:∃ c2,cn[j]? = some (k2,c2)∧v2=.int c2:=by
     unfold kvI at hj2
     rw [List.getElem?_map] at hj2
     cases e:cn[j]? with
     | none=>rw [e] at hj2;cases hj2
     | some p =>
      rw [e] at hj2
      cases hj2
      exact ⟨p.2,rfl,rfl⟩
    obtain ⟨c2,ecn,rfl⟩:=ecn
    have hb2:=hbn _ (List.mem_of_getElem? ecn)
    have t1:=Same.new (o:=HO.tup [V.ref b2,V.int c2]) ht
    have s4:=s3.trans t1
    have C4:=C''.same t1
    have hKb:=hKey.same s4
    have hKb2:=(hKey2.same s4)
    have hcl:=few_keys C''.nd hk3
    refine ⟨t,_,rfl,SqT.of upd_same,rfl,_,_,rfl,_,_,rfl,rfl,?_⟩
    refine ⟨_,rfl,⟨d,_,rfl,C4.at'⟩,_,rfl,d,_,_,_,rfl,rfl,⟨_,k2,b2,C4.at',rfl,hKb2,rfl⟩,_,rfl,_,rfl,dW,.int c,rfl,⟨kvI cs,k,b,C.at'.same s4,rfl,hKb,?_⟩,_,rfl,_,_,rfl,rfl,.inr ⟨by omega,by omega⟩,getI cs'' k2,c * c2,get_kvI _ _,rfl,?_⟩
    ·rw [valN_in (List.mem_map.mpr ⟨_,hmem,rfl⟩),getI_at C.nd hmem]
    refine ⟨_,rfl,_,rfl,d,b2,_,k2,rfl,rfl,C4.at',hKb2,smallM (by rw [kvI_len];omega),fun xs' ep' hD'=>?_⟩
    rw [put_kvI C''.nd] at hD'
    refine ⟨addI cs'' k2 (c * c2),_,_,rfl,s4.put hd,⟨hD',nodup_add C''.nd⟩,fun φ=>?_,fun q hq=>?_⟩
    ·rw [sumD_add,hs3 φ,take_snoc ecn,sumD_snoc,Int.mul_add,Int.mul_assoc]
     show _=sumD cs' φ+(_+c * (c2 * φ k2))
     omega
    ·rcases keys_add.mp hq with rfl | hq
     ·exact hkn _ (List.mem_map.mpr ⟨_,List.mem_of_getElem? ecn,rfl⟩)
     ·exact hk3 q hq
   ·rintro σ H3 ⟨cs'',o4',o5',rfl,s3,C'',hs3,hk3⟩
    have hnl:xsn.length=cn.length:=by rw [← paired_length hreln,kvI_len]
    refine ⟨cs'',_,_,_,rfl,s3,C'',fun φ=>?_,hk3⟩
    rw [hs3 φ,hs φ,hnl,List.take_length,take_snoc ecs,sumD_snoc,hsn φ]
  ·rintro σ H2 ⟨cs',o3,o4,o5,rfl,s2,C',hs,hk⟩
   refine ⟨_,rfl,q d cs' H2 s2 hd C' (fun φ=>?_) hk⟩
   rw [hs φ,hxl,List.take_length]
abbrev s_ways_to_end:Stmt:=top 13
theorem sc_ways_to_end:FnScope ["start","steps","ends","length","counts","ways","walked","node"] ["start","steps","ends","length"] (defScope s_ways_to_end):=fS
theorem ok_ways_to_end {f:Addr}{fd:FuncData} (F:Fun K "ways_to_end" "ways_to_end" s_ways_to_end f fd) (B:Blt mg) (h_step_counts:Has P w K mg base "step_counts" 1 ["steps"] (spStepCounts P w K)) (h_one_step_on:Has P w K mg base "one_step_on" 1 ["ways","counts"] (spOneStep P w K)) (g:Gr) :
  FnOkS P w K mg base 6 f fd ["start","steps","ends","length"] (preW P w K mg base g) (spWays K g):=by
 refine F.okS sc_ways_to_end (fun vs H Q E h=>?_) (fun cdv A outer s H vs Q E hr hpre h=>?_)
 ·obtain ⟨_,_,_,_,rfl,_⟩:=h
  rfl
 ·obtain ⟨b,fS,fE,L,rfl,hL,hkey,G,hfew,hh,q⟩:=h
  obtain ⟨b',fS',fE',L',e,FS,FE⟩:=hpre
  cases e
  have nd:=sc_ways_to_end.nd
  have hu:=hr.units
  refine ⟨_,(pss_cons (ps_if (pt_cmpR op_lt (pv 3) pe_int (nomark _)) (pss_one (ps_ret pe_int)) pss_nil)
   (pss_cons (ps_set (i:=4) nd rfl (Or.inl rfl) (pe_ndisp0 false))
   (pss_cons (ps_set (i:=5) nd rfl (Or.inr rfl) (pe_ndisp1 false hu (pv 0) pe_int))
   (pss_cons (ps_for PassesOwn.never rfl (pi_range1 rfl B.range (pa_cons (pv 3) pa_nil)) (pg_name (i:=6) nd rfl (Or.inl rfl)) (pss_cons (ps_for PassesOwn.never rfl (pi_dict false (pv 5)) (pg_name (i:=7) nd rfl (Or.inl rfl)) (pss_one (ps_if (pt_cmpR (op_nnotin false hu) (pv 7) (pv 4) rfl) (pss_one (ps_nput false hu (pv 4) (pv 7) (pe_fn h_step_counts (hm hr) (pa_cons (pe_callV (i:=1) FS (hm hr) rfl (pa_cons (pv 7) pa_nil)) pa_nil)) rfl)) pss_nil)))
   (pss_one (ps_set (i:=5) nd rfl (Or.inr rfl) (pe_fn h_one_step_on (hm hr) (pa_cons (pv 5) (pa_cons (pv 4) pa_nil)))))))
   (pss_one (ps_ret (pe_callB (call_sumL rfl) rfl B.sum boot_sum (pa_cons (pe_comp (N:=["node","ways","ends"]) (js:=[none,some 5,some 2]) rfl rfl (pi_dict false (pv 5)) (fun _ _ _ _=>(pg_name (i:=0) (ndOf (N:=["node","ways","ends"]) (by decide +kernel)) rfl (Or.inl rfl))) (fun _ _ _ _=>(pts_one (pt_val (pe_callX (k:=4) (i:=2) (sp:=spEnds K g) P w K mg base ⟨rfl,rfl,rfl,rfl,rfl⟩ (hm hr) rfl (pa_cons (pv 0) pa_nil))))) (fun _ _ _ _=>(pe_ngetK P w K ⟨rfl,rfl,rfl⟩ false hu (pv 1) (pv 0) (fun _ _=>rfl)))) pa_nil)))))))),?_⟩
  refine ⟨_,rfl,_,_,rfl,rfl,_,rfl,?_⟩
  by_cases hneg:L < 0
  ·refine ifY (decide_eq_true hneg) ?_
   have:=q H (Same.refl _)
   rw [if_pos hneg] at this
   exact this
  refine ifN (decide_eq_false hneg) ?_
  rw [if_neg hneg] at q
  refine fun dC hC hC0=>?_
  have s1:=Same.new (o:=HO.ext (dφ P w false dC [] 0)) hC
  refine fun dW hW=>⟨_,rfl,b,g.start,rfl,upd_same,hkey.mono fun _ _=>(s1.trans (Same.new hW)).seqT,fun xs ep hD=>?_⟩
  rw [upd_upd] at hD ⊢
  have s2:=Same.new (o:=HO.ext (dφ P w false dW xs ep)) hW
  have hWn:H dW=none:=s1.free hW
  -- for walked in range(length)
  refine ⟨_,rfl,L,rfl,by omega,by omega,for_range (fun i σ H2=>∃ dW' cs kvsC o6 o7,σ=[some (.ref b),some (.ref fS),some (.ref fE),some (.int L),some (.ref dC),some (.ref dW'),o6,o7]∧Same H H2∧H dW'=none∧dW'≠dC∧CDict P w K H2 dW' cs∧(∀ q∈cs.map (·.1),q∈g.univ)∧Cts P w K g H2 dC kvsC ∧
    sumD cs (cnt g.succ g.fin (L.toNat-i))=cnt g.succ g.fin L.toNat g.start) ⟨dW,[(g.start,1)],[],_,_,rfl,s1.trans s2,hWn,?_,⟨hD,by simp⟩,(fun q hq=>by rw [List.mem_singleton.mp hq];exact G.st),⟨hC0.same s2,List.nodup_nil,(fun n z=>by cases z),fun n z=>by cases z⟩,?_⟩ ?_ ?_⟩
  ·exact (ne_of_none upd_same hW).symm
  ·rw [sumD_cons,sumD_nil,Nat.sub_zero]
   show 1 * cnt g.succ g.fin L.toNat g.start+0=_
   omega
  ·rintro i σ H2 hi ⟨dW',cs,kvsC,o6,o7,rfl,s02,hW',hne,C,hun,T,hsum⟩
   obtain ⟨⟨xs,ep,he,hrel⟩,hz⟩:=id C.at'
   have hxl:xs.length=cs.length:=by rw [← paired_length hrel,kvI_len]
   -- for node in ways
   refine ⟨_,rfl,dW',xs,ep,rfl,he,for_dict (fun j σ H3=>∃ kvsC' o7,σ=[some (.ref b),some (.ref fS),some (.ref fE),some (.int L),some (.ref dC),some (.ref dW'),some (.int (0+(i:Int))),o7]∧Same H H3∧(∀ a ys,SqT K H2 a ys→SqT K H3 a ys)∧CDict P w K H3 dW' cs∧H3 dW'=some (.ext (dφ P w false dW' xs ep))∧Cts P w K g H3 dC kvsC'∧∀ p∈cs.take j,(valN kvsC' p.1).isSome=true)
    ⟨kvsC,_,rfl,s02,fun _ _ z=>z,C,he,T,fun p z=>by cases z⟩ (fun j σ H3 _ ⟨_,_,_,_,_,_,h,_⟩=>h) ?_ ?_⟩
   ·rintro j k bk u σ H3 hj ⟨kvsC',o7',rfl,s3,st3,C3,he3,T3,hin⟩
    obtain ⟨⟨k',v'⟩,e1,ek,hKey,rv⟩:=paired_get hrel j _ hj
    cases ek
    obtain ⟨c,ecs,_⟩:=kvI_at e1
    have hku:k∈g.univ:=hun k (List.mem_map.mpr ⟨_,List.mem_of_getElem? ecs,rfl⟩)
    have hK3:KeyAt K H3 false bk k:=hKey.mono st3
    refine ⟨_,rfl,_,rfl,dC,_,rfl,⟨kvsC',k,bk,T3.at',rfl,hK3,rfl⟩,_,rfl,?_⟩
    cases hv:valN kvsC' k with
    | some v =>
     refine ifN rfl ⟨kvsC',_,rfl,s3,st3,C3,he3,T3,fun p hp=>?_⟩
     rw [take_snoc ecs] at hp
     rcases List.mem_append.mp hp with hp | hp
     ·exact hin p hp
     ·rw [List.mem_singleton.mp hp]
      show (valN kvsC' k).isSome=true
      rw [hv]
      rfl
    | none =>
     refine ifY rfl ?_
     refine ⟨rfl,s3,_,rfl,_,rfl,s3,bk,k,rfl,hK3,hku,G.mono _ _ s3 hh,fun D ys H4 s4 hD hDl pr=>?_⟩
     refine ⟨D,ys,g.succ k,g.Lab,rfl,hDl,pr,hfew k hku,fun d cs' H5 s5 hd5 C5 hs5 hb5 hk5=>?_⟩
     have s45:=s4.trans s5
     have hCk:kvsC'.length≤g.univ.length:=by
      have:=nodup_le T3.nd T3.un
      rwa [List.length_map] at this
     have few:=G.few
     refine ⟨_,rfl,_,rfl,dC,bk,kvsC',k,rfl,rfl,T3.at'.same s45,hK3.same s45,smallM (by omega),fun xs' ep' hD'=>?_⟩
     rw [putN_len hv] at hD'
     have hD2:DAt P w K false (upd H5 dC (.ext (dφ P w false dC xs' ep'))) dC (kvsC'++[(k,V.ref d)]):=hD'
     obtain ⟨⟨xs3,ep3,hdC,_⟩,_⟩:=T3.at'
     have hdC5:=s45 _ _ hdC
     have hdne:d≠dC:=(ne_of_none (s4 _ _ hdC) hd5).symm
     have tup6:∀ a ys,SqT K H5 a ys→SqT K (upd H5 dC (.ext (dφ P w false dC xs' ep'))) a ys:=fun a ys t=>seqT_put hdC5 a ys t
     refine ⟨kvsC'++[(k,V.ref d)],_,rfl,(s3.trans s45).put hC,fun a ys t=>tup6 a ys (s45.seqT (st3 a ys t)),⟨(C3.at'.same s45).putD hdC5 hne,C3.nd⟩,?_,⟨hD2,?_,?_,fun n hn=>?_⟩,fun p hp=>?_⟩
     ·rw [upd_ne hne]
      exact s45 _ _ he3
     ·rw [List.map_append,List.nodup_append]
      refine ⟨T3.nd,by simp,fun x hx y hy=>?_⟩
      rw [List.map_singleton,List.mem_singleton] at hy
      subst hy
      intro e
      subst e
      exact valN_key hv hx
     ·intro n hn
      rw [List.map_append,List.mem_append] at hn
      rcases hn with hn | hn
      ·exact T3.un n hn
      ·rw [List.map_singleton,List.mem_singleton] at hn
       rw [hn]
       exact hku
     ·rw [valN_app hv] at hn
      by_cases e:n=k
      ·subst e
       refine ⟨d,cs',by rw [valN_app hv,if_pos rfl],hdne,⟨C5.at'.putD hdC5 hdne,C5.nd⟩,hs5,hb5,fun q hq=>?_⟩
       obtain ⟨st,h1,h2⟩:=hk5 q hq
       rw [← h2]
       exact G.cl n hku st.1 st.2 h1
      ·rw [if_neg e] at hn
       obtain ⟨dn,cn,h1,h0,h2,h3⟩:=T3.ok n hn
       exact ⟨dn,cn,by rw [valN_app hv,if_neg e];exact h1,h0,⟨(h2.at'.same s45).putD hdC5 h0,h2.nd⟩,h3⟩
     ·rw [valN_app hv]
      split
      ·rfl
      ·rename_i hne'
       rw [take_snoc ecs] at hp
       rcases List.mem_append.mp hp with hp | hp
       ·exact hin p hp
       ·rw [List.mem_singleton.mp hp] at hne'
        exact absurd rfl hne'
   ·rintro σ H3 ⟨kvsC',o7',rfl,s3,st3,C3,he3,T3,hin⟩
    rw [hxl,List.take_length] at hin
    have few:=G.few
    refine ⟨_,rfl,_,rfl,dW',dC,cs,kvsC',g.succ,g.univ,rfl,C3,T3.at',fun p hp=>T3.ok p.1 (hin p hp),few,fun d cs' H4 s4 hd C4 hs4 hk4=>?_⟩
    obtain ⟨⟨xs3,ep3,hdC,_⟩,_⟩:=T3.at'
    refine ⟨d,cs',kvsC',_,_,rfl,s3.trans s4,s3.free hd,(ne_of_none hdC hd).symm,C4,hk4,T3.same s4,?_⟩
    rw [hs4,← hsum,show L.toNat-i=(L.toNat-(i+1))+1 by omega]
    rfl
  ·rintro σ H2 ⟨dW',cs,kvsC,o6,o7,rfl,s02,hW',hne,C,hun,T,hsum⟩
   rw [Nat.sub_self] at hsum
   obtain ⟨⟨xs,ep,he,hrel⟩,hz⟩:=id C.at'
   have hxl:xs.length=cs.length:=by rw [← paired_length hrel,kvI_len]
   have hcl:=few_keys C.nd hun
   have few:=G.few
   have at_:∀ k,k < cs.length→∃ bk,xs[k]? = some ((cs.getD k (.none,0)).1,bk,((xs[k]?.map fun q=>q.2.2).getD .none))∧KeyAt K H2 false bk (cs.getD k (.none,0)).1:=fun k hk=>by
    obtain ⟨q,eq⟩:∃ q,xs[k]? = some q:=⟨xs[k]'(by omega),List.getElem?_eq_getElem (by omega)⟩
    obtain ⟨⟨k',v'⟩,e1,ek,hKey,rv⟩:=paired_get hrel k _ eq
    obtain ⟨c,ecs,_⟩:=kvI_at e1
    obtain ⟨q1,q2,q3⟩:=q
    cases ek
    have eg:cs.getD k (.none,0)=(k',c):=by rw [List.getD_eq_getElem?_getD,ecs];rfl
    rw [eg,eq]
    exact ⟨q2,rfl,hKey⟩
   have wk:=Walk.dict he
   rw [hxl] at wk
   refine ⟨_,rfl,dW',xs,ep,rfl,he,?_⟩
   refine block_fmB wk (by omega) rfl (fun k=>g.fin (cs.getD k (.none,0)).1) (fun k=>.int (cs.getD k (.none,0)).2) (fun k H3 Q' hk s3 q'=>?_) (fun k H3 Q' hk _ s3 q'=>?_) (fun D H3 hD s3 hDl=>?_)
   ·obtain ⟨bk,e1,hKey⟩:=at_ k hk
    rw [e1]
    have hku:(cs.getD k (.none,0)).1∈g.univ:=hun _ (List.mem_map_of_mem (by rw [List.getD_eq_getElem?_getD,List.getElem?_eq_getElem hk];exact List.getElem_mem hk))
    exact ⟨fE,rfl,FE.same (s02.trans s3),_,rfl,_,rfl,Same.refl _,bk,_,rfl,hKey.same s3,hku,G.mono _ _ (s02.trans s3) hh,fun H4 s4=>⟨_,rfl,q' _ s4⟩⟩
   ·obtain ⟨bk,e1,hKey⟩:=at_ k hk
    rw [e1]
    have hm:cs.getD k (.none,0)∈cs:=by rw [List.getD_eq_getElem?_getD,List.getElem?_eq_getElem hk];exact List.getElem_mem hk
    refine ⟨_,rfl,_,rfl,dW',.int (cs.getD k (.none,0)).2,rfl,⟨kvI cs,_,bk,C.at'.same s3,rfl,hKey.same s3,?_⟩,q' _ (Same.refl _)⟩
    rw [valN_in (List.mem_map_of_mem hm),getI_at C.nd (show ((cs.getD k (.none,0)).1,(cs.getD k (.none,0)).2)∈cs from hm)]
   ·have e:(((List.range cs.length).filter fun k=>g.fin (cs.getD k (.none,0)).1).map fun k=>V.int (cs.getD k (.none,0)).2)=((cs.filter fun p=>g.fin p.1).map (·.2)).map V.int:=by
     rw [List.map_map]
     exact range_filter (PyData.none,(0:Int)) (fun p=>g.fin p.1) (fun p=>V.int p.2) cs
    rw [e] at hDl
    refine ⟨D,_,rfl,SqL.of hDl,?_⟩
    rw [filter_sum]
    have:=q H3 (s02.trans s3)
    rw [← hsum] at this
    exact this
end
end My
namespace My
open PySem L2 PyProof.Rows
def mis (b:Int) (ts:List Tab) (k:Kd) (n:Int):Int:=if n-(wid k:Int)+1 < 0 then 0 else cnt (succU b ts k) finU (n-(wid k:Int)+1).toNat (n1 (0,0))
def spMissed (Pt:Addr) (qs:List (Pos×Str)):Sp:=fun vs H Q _=>∃ (v:V) (ts:List Tab) (b:Int) (k:Kd) (n:Int),vs=[v,.str (kst k),.int n]∧SchAt H v b ts∧Ok b ts∧TabSt H Pt qs∧n≤40 ∧
 ∀ H',Sam H H'→TabSt H' Pt qs→Q (.int (mis b ts k n)) H'
theorem succU_few {b:Int}{ts:List Tab}{k:Kd} (ok:Ok b ts):∀ n∈univU ts,(succU b ts k n).length≤5000:=by
 have hkl:(keptP b).length≤10:=by
  have:=ok.b2
  unfold keptP
  rw [List.length_map,length_figsOf]
  omega
 have hsl:(slipP b k).length≤1000:=by
  have:=slipTo_len b k (wins b (wid k)).length ok.b2
  rw [show slipTo b k (wins b (wid k)).length=slipP b k by unfold slipTo;rw [List.take_length];rfl] at this
  exact this
 intro n hn
 rcases mem_univU.mp hn with ⟨q,hq,rfl⟩ | ⟨q,hq,r,hr,rfl⟩
 ·show ((keptP b).map _++(slipP b k).map _).length≤5000
  rw [List.length_append,List.length_map,List.length_map]
  omega
 ·show ((keptP b).map _).length≤5000
  rw [List.length_map]
  omega
section
variable {P:Program}{w:World}{K:PySem.W.Frag}{mg:Str→Option Value}{base:Heap}
abbrev s_missed:Stmt:=top 49
theorem sc_missed:FnScope ["scheme","kind","length","walked"] ["scheme","kind","length"] (defScope s_missed):=fS
theorem ok_missed {f Pt:Addr}{fd:FuncData}{qs:List (Pos×Str)} (F:Fun K "missed" "missed" s_missed f fd) (B:Blt mg) (Wd:WidthsAt P w K mg) (St:StartAt K mg)
  (h_check_scheme:Has P w K mg base "check_scheme" 5 ["scheme"] spCheck) (h_check_kind:Has P w K mg base "check_kind" 1 ["kind"] spKind)
  (h_ends:∃ f fd,mg "ends_good"=some (.ref f)∧PySem.W.keepIn K (.ref f)=true∧Binds K fd ["node"] []∧∀ g ts,g.fin=finU→g.univ=univU ts→FnOk P w K mg base CX0 4 f fd ["node"] (spEnds K g))
  (h_ways_to_end:HasS P w K mg base "ways_to_end" 6 ["start","steps","ends","length"] (preW P w K mg base) (spWays K)) (h_slip_steps:Has P w K mg base "slip_steps" 5 ["scheme","kind"] (spSlipSteps P w K mg base Pt qs)):FnOk P w K mg base CX0 8 f fd ["scheme","kind","length"] (spMissed Pt qs):=by
 refine F.ok sc_missed (fun vs H Q E h=>?_) (fun cdv A outer s H vs Q E hr h=>?_)
 ·obtain ⟨_,_,_,_,_,rfl,_⟩:=h
  rfl
 ·obtain ⟨v,ts,b,k,n,rfl,hC,ok,T,hn,q⟩:=h
  have nd:=sc_missed.nd
  obtain ⟨aS,mS,hSt⟩:=St.at'
  obtain ⟨aW,mW,TW⟩:=Wd.at'
  obtain ⟨fE,fdE,mE,kE,bE,okE⟩:=h_ends
  refine ⟨_,(pss_cons (ps_expr (pe_fn h_check_scheme (hm hr) (pa_cons (pv 0) pa_nil)))
   (pss_cons (ps_expr (pe_fn h_check_kind (hm hr) (pa_cons (pv 1) pa_nil)))
   (pss_cons (ps_set (i:=3) nd rfl (Or.inl rfl) (pe_op op_add (pe_op op_sub (pv 2) (pe_tabIx (pe_glob (v:=.ref aW) rfl mW rfl) (pv 1) (fun _ _=>rfl))) pe_int))
   (pss_one (ps_ret (pe_fnS h_ways_to_end (hm hr) (pa_cons (pe_tup (pa_cons (pe_glob (v:=.ref aS) rfl mS rfl) (pa_cons pe_non pa_nil))) (pa_cons (pe_fn h_slip_steps (hm hr) (pa_cons (pv 0) (pa_cons (pv 1) pa_nil))) (pa_cons (pe_glob (v:=.ref fE) rfl mE rfl) (pa_cons (pv 3) pa_nil)))))))))),?_⟩
  refine ⟨_,rfl,v,ts,b,rfl,hC,ok,fun H1 s1=>⟨_,rfl,k,rfl,?_⟩⟩
  refine ⟨_,rfl,_,rfl,aW,_,WD,_,rfl,rfl,TW,wd_look k,_,_,rfl,rfl,_,_,rfl,rfl,?_⟩
  refine ⟨zl,fun nS0 hnS=>?_⟩
  have s5:=Same.new (o:=HO.tup [V.ref aS,V.non]) hnS
  have s15:=s1.trans s5
  refine ⟨_,rfl,_,rfl,v,ts,b,k,rfl,hC.same s15,ok,T.same s15,fun fS kD sD ks ss vT H4 s4 T4 CX hg n4=>?_⟩
  have hn4:=s4.tup (upd_same (H:=H1) (a:=nS0) (o:=HO.tup [V.ref aS,V.non]))
  refine ⟨_,rfl,grU b ts k vT kD sD ks ss,fun pins s' I=>⟨nS0,fS,fE,_,rfl,?_,?_⟩,nS0,fS,fE,_,rfl,?_,key_n1 (q:=(0,0)) (SqT.of hn4) (hSt _),grU_ok ok,succU_few ok,hg,fun H6 s6=>?_⟩
  ·obtain ⟨fd,p,frees,fvs,c,F,h1,h2,h3,C⟩:=CX
   exact .cloX F h1 h2 h3 C (steps_drop grU_drop)
  ·exact .mod (okE _ ts rfl rfl) kE bE
  ·omega
  ·exact q H6 ((s15.sam.trans s4).trans s6.sam) (T4.same s6)
end
end My
namespace My
open PySem L2 PyProof.Rows
section
variable {P:Program}{w:World}{K:PySem.W.Frag}{mg:Str→Option Value}{base:Heap}
end
end My
namespace L2
open PySem PySem.Spec PyProof.Rows
section
variable {X:Cx}{tg:Expr}
end
end L2
namespace My
open PySem L2 PyProof.Rows
def fin0:PyData→Bool
 | .tuple [.int _,.int s]=>decide (s=0)
 | _=>false
def grG (b:Int) (ts:List Tab) (vT:V):Gr:=⟨succC b ts,fin0,nodeD 0 0,univC ts,labI,fun H=>SchAt H vT b ts⟩
theorem grG_ok {b:Int}{ts:List Tab}{vT:V} (o:Ok b ts):GrOk (grG b ts vT):=⟨(grOk (vT:=vT) o).st,(grOk (vT:=vT) o).cl,(grOk (vT:=vT) o).few,(grOk (vT:=vT) o).mono⟩
theorem succC_few {b:Int}{ts:List Tab} (ok:Ok b ts):∀ n∈univC ts,(succC b ts n).length≤5000:=by
 intro n hn
 obtain ⟨t,s,rfl,_,_⟩:=mem_univC.mp hn
 show ((List.range b.toNat).map _).length≤5000
 rw [List.length_map,List.length_range]
 have:=ok.b2
 omega
def gcn (b:Int) (ts:List Tab) (n:Nat):Int:=cnt (succC b ts) fin0 n (nodeD 0 0)
def spGCount (Pt:Addr) (qs:List (Pos×Str)):Sp:=fun vs H Q _=>∃ (v:V) (ts:List Tab) (b:Int) (n:Nat),vs=[v,.int (n:Int)]∧SchAt H v b ts∧Ok b ts∧TabSt H Pt qs∧n≤40 ∧
 ∀ H',Sam H H'→TabSt H' Pt qs→Q (.int (gcn b ts n)) H'
theorem ends_nil {K:PySem.W.Frag}{g:Gr}:∀ v H Q,CellsX H [] [] []→spEnds K g [v] H Q E0→spEnds K g [v] (dropC H []) (liftQ H [] Q) E0:=by
 rintro v H Q _ ⟨b,n,e,hk,hu,hp,q⟩
 rw [dropC_nil]
 refine ⟨b,n,e,hk,hu,hp,fun H' s _=>?_⟩
 rw [joinC_nil]
 exact q H' s
section
variable {P:Program}{w:World}{K:PySem.W.Frag}{mg:Str→Option Value}{base:Heap}
abbrev s_good_count:Stmt:=top 48
abbrev s_good_count_steps:Stmt:=(defBody s_good_count).getD 1 (.Pass ⟨0,0,0,0⟩)
theorem sc_good_count_steps:FnScopeC ["spot","scheme"] "spot" ["scheme"] (defScope s_good_count_steps):=⟨rfl,rfl,rfl,by decide +kernel,rfl,by decide +kernel,by decide +kernel,by decide +kernel,by decide +kernel⟩
theorem ok_gsteps (B:Blt mg) (h_spot_steps:Has P w K mg base "spot_steps" 2 ["scheme","spot"] (spSpotSteps K)) {b:Int}{ts:List Tab} (ok:Ok b ts) (vT:V) (qual:Str) (cl:List (Str×Addr)) (doc pm ct:Value) (c:Addr) :
  FnOkC P w K mg base 4 (PySem.W.fnX "steps" qual (defArgs s_good_count_steps) (defBody s_good_count_steps) (defScope s_good_count_steps) cl .none .none doc pm none (.ref c) ct) "spot" ["scheme"] [vT] (spSteps K (grG b ts vT)):=by
 refine FnOkC.mono (clo_of (k:=2) sc_good_count_steps rfl (fun u=>rfl) (fun A outer s H f v Q hr h=>?_)) (by decide)
 obtain ⟨bn,n,e,hk,hu,hT,q⟩:=h
 cases e
 obtain ⟨t,st,rfl,ht,hs⟩:=mem_univC.mp hu
 refine ⟨_,(pss_one (ps_ret (pe_fn h_spot_steps (hm hr) (pa_cons (pv 1) (pa_cons (pv 0) pa_nil))))),?_⟩
 exact ⟨_,rfl,_,rfl,vT,ts,b,bn,t,st,rfl,hT,ok,kr_pair hk.kr,ht,hs,q⟩
abbrev s_good_count_ends:Stmt:=(defBody s_good_count).getD 2 (.Pass ⟨0,0,0,0⟩)
theorem sc_good_count_ends:FnScopeC ["spot"] "spot" [] (defScope s_good_count_ends):=⟨rfl,rfl,rfl,by decide +kernel,rfl,by decide +kernel,by decide +kernel,by decide +kernel,by decide +kernel⟩
theorem ok_gends (B:Blt mg) {b:Int}{ts:List Tab} (ok:Ok b ts) (vT:V) (qual:Str) (cl:List (Str×Addr)) (doc pm ct:Value) (c:Addr) :
  FnOkC P w K mg base 4 (PySem.W.fnX "ends" qual (defArgs s_good_count_ends) (defBody s_good_count_ends) (defScope s_good_count_ends) cl .none .none doc pm none (.ref c) ct) "spot" [] [] (spEnds K (grG b ts vT)):=by
 refine FnOkC.mono (clo_of (k:=1) sc_good_count_ends rfl (fun u=>rfl) (fun A outer s H f v Q hr h=>?_)) (by decide)
 obtain ⟨bn,n,e,hk,hu,hT,q⟩:=h
 cases e
 obtain ⟨t,st,rfl,ht,hs⟩:=mem_univC.mp hu
 refine ⟨_,(pss_one (ps_ret (pe_cmpR op_eq (pe_ix ix_tup (pv 0) pe_int (fun _ _=>rfl)) pe_int (nomark _)))),?_⟩
 refine ⟨_,rfl,bn,_,1,_,rfl,rfl,kr_pair hk.kr,rfl,rfl,?_⟩
 have:=q H (Same.refl _)
 rw [show (grG b ts vT).fin (nodeD (t:Int) (st:Int))=decide ((st:Int)=0) from rfl] at this
 rw [show decide (V.int (st:Int)=V.int 0)=decide ((st:Int)=0) by simp]
 exact this
def qsG:List (Pos×Str):=[(defPos s_good_count_steps,"good_count.<locals>.steps"),(defPos s_good_count_ends,"good_count.<locals>.ends")]
theorem farG1:farOk qsG (defPos s_good_count_steps) "good_count.<locals>.steps"=true:=by decide +kernel
theorem farG2:farOk qsG (defPos s_good_count_ends) "good_count.<locals>.ends"=true:=by decide +kernel
theorem sc_good_count:FnScope ["scheme","length","steps","ends"] ["scheme","length"] (defScope s_good_count):=fS
theorem ok_good_count {f c Pt:Addr}{fd:FuncData} (F:Fun K "good_count" "good_count" s_good_count f fd) (hfd:fd.code=.ref c) (B:Blt mg) (BM:BMain mg base) (CH:PySem.W.CodeHd base c Pt) (St:StartAt K mg)
  (h_check_scheme:Has P w K mg base "check_scheme" 5 ["scheme"] spCheck) (h_spot_steps:Has P w K mg base "spot_steps" 2 ["scheme","spot"] (spSpotSteps K))
  (h_ways_to_end:HasS P w K mg base "ways_to_end" 6 ["start","steps","ends","length"] (preW P w K mg base) (spWays K)):FnOk P w K mg base CX0 8 f fd ["scheme","length"] (spGCount Pt qsG):=by
 refine F.okT hfd sc_good_count (fun vs H Q E h=>?_) (fun A outer s H vs Q E hr h=>?_)
 ·obtain ⟨_,_,_,_,rfl,_⟩:=h
  rfl
 ·obtain ⟨v,ts,b,n,rfl,hC,ok,T,hn,q⟩:=h
  have nd:=sc_good_count.nd
  obtain ⟨aS,mS,hSt⟩:=St.at'
  have hcode:(cxOf CX0 P w K mg base ["scheme","length","steps","ends"] "good_count" (defScope s_good_count) f (.ref c) A outer s H E).nox.env.code=.ref c:=rfl
  refine ⟨_,(pss_cons (ps_expr (pe_fn h_check_scheme (hm hr) (pa_cons (pv 0) pa_nil)))
   (pss_cons (ps_def (i:=2) (qual:="good_count.<locals>.steps") BM hcode CH nd rfl (Or.inl rfl) (hfree_of rfl))
   (pss_cons (ps_def (i:=3) (qual:="good_count.<locals>.ends") BM hcode CH nd rfl (Or.inl rfl) (hfree_of rfl))
   (pss_one (ps_ret (pe_fnS h_ways_to_end (hm hr) (pa_cons (pe_glob (v:=.ref aS) rfl mS rfl) (pa_cons (pv 2) (pa_cons (pv 3) (pa_cons (pv 1) pa_nil)))))))))),?_⟩
  refine ⟨_,rfl,v,ts,b,rfl,hC,ok,fun H1 s1=>?_⟩
  refine tDef_of (qs:=qsG) (T.same s1) List.mem_cons_self (far_of farG1) fun fS cS docS pmS ctS H2 s2 T2 nS hfS hcS n2=>?_
  refine tDef_of (qs:=qsG) T2 (List.mem_cons_of_mem _ List.mem_cons_self) (far_of farG2) fun fE cE docE pmE ctE H3 s3 T3 nE hfE hcE n3=>?_
  have s13:Sam H H3:=(s1.sam.trans s2).trans s3
  refine ⟨_,rfl,_,rfl,_,rfl,grG b ts v,fun pins s' I=>⟨aS,fS,fE,_,rfl,?_,?_⟩,aS,fS,fE,_,rfl,by omega,key_pair (hSt H3),grG_ok ok,succC_few ok,hC.sam s13,fun H4 s4=>?_⟩
  ·refine .clo (ok_gsteps B h_spot_steps ok v _ _ _ _ _ cS) (s3.ext hfS) rfl (s3.ext hcS) (cellsAt_of I fun i x u h1 h2=>?_)
   match i,h1,h2 with
   | 0,h1,h2=>cases h1;cases h2;exact ⟨by decide +kernel,Or.inl rfl,0,rfl,rfl⟩
   | i+1,h1,h2=>simp at h1
  ·exact .clo (ok_gends B ok v _ _ _ _ _ cE) hfE rfl hcE (cellsX_nil _) ends_nil
  ·have:=q H4 (s13.trans s4.sam) (T3.same s4)
   rw [if_neg (by omega),show ((n:Int)).toNat=n by omega]
   exact this
end
end My
namespace L2
open PySem PySem.Spec PyProof.Rows
structure DSet (P:Program) (w:World) (K:PySem.W.Frag) (c:Bool) (H:Hp) (d:Addr) (S:List PyData):Prop where
 ex:∃ kvs:List (PyData×V),DAt P w K c H d kvs∧kvs.map (·.1)=S
 nd:S.Nodup
def insS (S:List PyData) (k:PyData):List PyData:=if k∈S then S else S++[k]
end L2
namespace My
open PySem L2 PyProof.Rows
def spotD (ts:List Tab) (fs:List Int):PyData:=nodeD ((fs.length % ts.length:Nat):Int) (rd ts 0 0 fs)
structure Lay (b:Int) (ts:List Tab) (d:Nat) (met lay:List PyData):Prop where
 un:∀ k∈met,k∈univC ts
 ul:∀ k∈lay,k∈univC ts
 apart:∀ k∈lay,k∉met
 come:∀ k∈lay,∃ fs,figsIn b fs∧fs.length=d∧k=spotD ts fs
 okm:∀ k∈met,finC ts k=false
 less:∀ fs,figsIn b fs→fs.length < d→spotD ts fs∈met
 here:∀ fs,figsIn b fs→fs.length=d→spotD ts fs∈met∨spotD ts fs∈lay
 cl:∀ k∈met,∀ l m,(l,m)∈succC b ts k→m∈met∨m∈lay
end My
namespace L2
open PySem PySem.Spec PyProof.Rows
theorem Fun.okTX {P:Program}{w:World}{K:PySem.W.Frag}{mg:Str→Option Value}{base:Heap}{x qual:Str}{st:Stmt}{f c:Addr}{fd:FuncData}{N ps:List Str}{k:Nat}{sp:Sp} (F:Fun K x qual st f fd) (hfd:fd.code=.ref c) (S:FnScope N ps (defScope st)) (len:∀ vs H Q E,sp vs H Q E→vs.length=ps.length)
  (hbody:∀ (A:Around) (outer:List Env) (s:Shared) (H:Hp) (vs:List V) (Q:VK) (E:XK),Room k (A.deeper (envOfC qual (defScope st) s.heap.objs.size f (.ref c)))→sp vs H Q E →
   Lets (cxOf (CXR P w) P w K mg base N qual (defScope st) f (.ref c) A outer s H E) E →
   ∃ t,PSs (cxOf (CXR P w) P w K mg base N qual (defScope st) f (.ref c) A outer s H E) (defBody st) t∧t { nx:=fun _ H'=>Q .non H',rt:=Q } (start N vs) H):FnOk P w K mg base (CXR P w) (k+1) f fd ps sp:=by
 obtain ⟨oc,od,kV,doc,pm,an,cdv,ct,osl,rfl,lk,hcd⟩:=F.ex
 obtain rfl:cdv=.ref c:=hfd
 exact fn_of lk hcd S len fun A outer s H vs Q E hr hsp=>hbody A outer s H vs Q E hr hsp lets_of
end L2
namespace My
open PySem L2 PyProof.Rows
structure ErrsP (K:PySem.W.Frag) (mg:Str→Option Value):Prop where
 at':∃ S c1 C,mg "SlipError"=some (.ref S)∧mg "NoScheme"=some (.ref c1)∧mg "OtherBase"=some (.ref C)∧mg "ValueError"=none∧ExcAt K S (mroT K S)∧ExcAt K C (mroT K C)∧(mroT K C).contains (.ref S)=true∧ExcIs K C ∧
  PySem.W.kitOne K (.ref C) (.ref C)=some true∧PySem.W.kitOne K (.ref C) (.ref c1)=some false∧PySem.W.kitOne K (.ref C) (.type "ValueError")=some true
def sucP (b:Int) (ts us:List Tab):PyData→List (PyData×PyData)
 | .tuple [.tuple [.int t,.int s],.tuple [.int u,.int v]]=>(List.range b.toNat).map fun f:Nat=>(.int (f:Int),n2 (mvD ts (t,s) [(f:Int)]) (mvD us (u,v) [(f:Int)]))
 | _=>[]
def finP:PyData→Bool
 | .tuple [.tuple [.int _,.int s],.tuple [.int _,.int v]]=>decide (decide (s=0)≠decide (v=0))
 | _=>false
def univP (ts us:List Tab):List PyData:=(spotsN ts).flatMap fun q=>(spotsN us).map (n2 q)
theorem mem_univP {ts us:List Tab}{n:PyData}:n∈univP ts us↔∃ q∈spotsN ts,∃ r∈spotsN us,n=n2 q r:=by
 unfold univP
 rw [List.mem_flatMap]
 constructor
 ·rintro ⟨q,h,h2⟩
  obtain ⟨r,h3,rfl⟩:=List.mem_map.mp h2
  exact ⟨q,h,r,h3,rfl⟩
 ·rintro ⟨q,h,r,h2,rfl⟩
  exact ⟨q,h,List.mem_map.mpr ⟨r,h2,rfl⟩⟩
theorem length_univP {b b':Int}{ts us:List Tab} (o:Ok b ts) (o':Ok b' us):(univP ts us).length≤5184:=by
 have h1:(spotsN ts).length≤72:=by
  rw [length_spotsN]
  exact Nat.mul_le_mul o.t2 o.n2
 have h2:(spotsN us).length≤72:=by
  rw [length_spotsN]
  exact Nat.mul_le_mul o'.t2 o'.n2
 unfold univP
 rw [length_flat (n:=(spotsN us).length) _ fun x _=>by rw [List.length_map]]
 exact Nat.mul_le_mul h1 h2
def grP (b:Int) (ts us:List Tab) (v u:V):Gr:=⟨sucP b ts us,finP,n2 (0,0) (0,0),univP ts us,labI,fun H=>SchAt H v b ts∧SchAt H u b us⟩
theorem spots0 {b:Int}{ts:List Tab} (o:Ok b ts):((0:Int),(0:Int))∈spotsN ts:=by
 have:=o.t1
 have:=o.n1
 exact mem_spotsN.mpr ⟨0,0,rfl,by omega,by omega⟩
theorem grP_ok {b:Int}{ts us:List Tab}{v u:V} (o:Ok b ts) (o':Ok b us):GrOk (grP b ts us v u):=by
 have hb:=o.b1
 refine ⟨mem_univP.mpr ⟨_,spots0 o,_,spots0 o',rfl⟩,fun n hn l m hm=>?_,Nat.le_trans (length_univP o o') (by decide),fun H H' s h=>⟨h.1.same s,h.2.same s⟩⟩
 obtain ⟨q,hq,r,hr,rfl⟩:=mem_univP.mp hn
 obtain ⟨f,hf,e⟩:=List.mem_map.mp (show (l,m)∈(List.range b.toNat).map (fun f:Nat=>(PyData.int (f:Int),n2 (mvD ts (q.1,q.2) [(f:Int)]) (mvD us (r.1,r.2) [(f:Int)]))) from hm)
 have hf:=List.mem_range.mp hf
 have hfi:figsIn b [(f:Int)]:=fun g hg=>by rw [List.mem_singleton.mp hg];omega
 cases e
 exact mem_univP.mpr ⟨_,mvD_spots o hq hfi,_,mvD_spots o' hr hfi,rfl⟩
theorem wk_figsP {b:Int}{ts us:List Tab} (o:Ok b ts) {ls:List PyData}{m:PyData} (h:Wk (sucP b ts us) (n2 (0,0) (0,0)) ls m):∃ fs:List Int,ls=fs.map PyData.int∧figsIn b fs∧m=n2 (mvD ts (0,0) fs) (mvD us (0,0) fs):=by
 have hb:=o.b1
 induction h with
 | nil=>exact ⟨[],rfl,(fun _ z=>by cases z),by simp [mvD,rd]⟩
 | @snoc m k ls l _ he ih =>
  obtain ⟨fs,rfl,hf,rfl⟩:=ih
  obtain ⟨f,hfr,e⟩:=List.mem_map.mp (show (l,k)∈(List.range b.toNat).map (fun f:Nat=>(PyData.int (f:Int),n2 (mvD ts (mvD ts (0,0) fs) [(f:Int)]) (mvD us (mvD us (0,0) fs) [(f:Int)]))) from he)
  have hfr:=List.mem_range.mp hfr
  cases e
  exact ⟨fs++[(f:Int)],by simp,mem_snoc hf ⟨by omega,by omega⟩,by rw [mvD_append,mvD_append]⟩
theorem figs_wkP {b:Int}{ts us:List Tab} (o:Ok b ts):∀ (k:Nat) (fs:List Int),fs.length=k→figsIn b fs→Wk (sucP b ts us) (n2 (0,0) (0,0)) (fs.map PyData.int) (n2 (mvD ts (0,0) fs) (mvD us (0,0) fs))
 | 0,fs,e,hf=>by
  have:fs=[]:=List.length_eq_zero_iff.mp e
  subst this
  have e0:∀ ts:List Tab,mvD ts (0,0) []=(0,0):=fun ts=>by simp [mvD,rd]
  rw [e0,e0]
  exact .nil _
 | k+1,fs,e,hf=>by
  have hb:=o.b1
  have hne:fs≠[]:=by
   intro z
   subst z
   simp at e
  obtain ⟨r,x,rfl⟩:∃ r x,fs=r++[x]:=⟨fs.dropLast,fs.getLast hne,(List.dropLast_concat_getLast hne).symm⟩
  have hx:=hf x (by simp)
  have ih:=figs_wkP o (us:=us) k r (by simpa using e) fun f h=>hf f (List.mem_append_left _ h)
  rw [List.map_append]
  refine .snoc ih ?_
  show _∈(List.range b.toNat).map (fun f:Nat=>(PyData.int (f:Int),n2 (mvD ts (mvD ts (0,0) r) [(f:Int)]) (mvD us (mvD us (0,0) r) [(f:Int)])))
  refine List.mem_map.mpr ⟨x.toNat,List.mem_range.mpr (by omega),?_⟩
  rw [show ((x.toNat:Nat):Int)=x by omega,mvD_append,mvD_append]
def Dst (ts us:List Tab) (fs:List Int):Prop:=¬(rd ts 0 0 fs=0↔rd us 0 0 fs=0)
theorem finP_dst {ts us:List Tab} (fs:List Int):finP (n2 (mvD ts (0,0) fs) (mvD us (0,0) fs))=true↔Dst ts us fs:=by
 show decide (decide (rd ts 0 0 fs=0)≠decide (rd us 0 0 fs=0))=true↔_
 unfold Dst
 by_cases h1:rd ts 0 0 fs=0<;>by_cases h2:rd us 0 0 fs=0<;>simp [h1,h2]
def spPair (mg:Str→Option Value):Sp:=fun vs H Q E=>∃ (v u:V) (ts us:List Tab) (b b':Int),vs=[v,u]∧SchAt H v b ts∧Ok b ts∧SchAt H u b' us∧Ok b' us∧(b=b'→∀ H',Same H H'→Q .non H')∧(b≠b'→∀ C H',mg "OtherBase"=some (.ref C)→Same H H'→E (.ref C) none H')
def spParted (Pt:Addr) (qs:List (Pos×Str)) (mg:Str→Option Value):Sp:=fun vs H Q E=>∃ (v u:V) (ts us:List Tab) (b b':Int),vs=[v,u]∧SchAt H v b ts∧Ok b ts∧SchAt H u b' us∧Ok b' us∧TabSt H Pt qs ∧
 (b≠b'→∀ C H',mg "OtherBase"=some (.ref C)→Same H H'→E (.ref C) none H') ∧
 (b=b'→(∀ H',Sam H H'→TabSt H' Pt qs→(∀ fs,figsIn b fs→¬Dst ts us fs)→Q .non H') ∧
  ∀ D fs H',Sam H H'→TabSt H' Pt qs→H D=none→H' D=some (.lst (fs.map V.int))→figsIn b fs→Dst ts us fs→(∀ fs',figsIn b fs'→Dst ts us fs'→fs.length≤fs'.length)→fs.length≤5184→Q (.ref D) H')
section
variable {P:Program}{w:World}{K:PySem.W.Frag}{mg:Str→Option Value}{base:Heap}
abbrev s_check_pair:Stmt:=top 51
theorem sc_check_pair:FnScope ["scheme","other"] ["scheme","other"] (defScope s_check_pair):=fS
theorem ok_check_pair {f:Addr}{fd:FuncData} (F:Fun K "check_pair" "check_pair" s_check_pair f fd) (B:Blt mg) (Ep:ErrsP K mg) (h_check_scheme:Has P w K mg base "check_scheme" 5 ["scheme"] spCheck) :
  FnOk P w K mg base (CXR P w) 6 f fd ["scheme","other"] (spPair mg):=by
 refine F.okX sc_check_pair (fun vs H Q E h=>?_) (fun cdv A outer s H vs Q E hr h L=>?_)
 ·obtain ⟨_,_,_,_,_,_,rfl,_⟩:=h
  rfl
 ·obtain ⟨v,u,ts,us,b,b',rfl,hv,ok,hu,ok',q,qE⟩:=h
  have nd:=sc_check_pair.nd
  obtain ⟨S,c1,C,_,_,m_OtherBase,_,_,x_OtherBase,_⟩:=Ep.at'
  refine ⟨_,(pss_cons (ps_expr (pe_fn h_check_scheme (hm hr) (pa_cons (pv 0) pa_nil)))
   (pss_cons (ps_expr (pe_fn h_check_scheme (hm hr) (pa_cons (pv 1) pa_nil)))
   (pss_one (ps_if (pt_cmpR op_ne (pe_ix ix_tup (pv 0) pe_int (fun _ _=>rfl)) (pe_ix ix_tup (pv 1) pe_int (fun _ _=>rfl)) (nomark _)) (pss_one (ps_raise L rfl rfl m_OtherBase x_OtherBase (pa_cons pe_str pa_nil))) pss_nil)))),?_⟩
  refine ⟨_,rfl,v,ts,b,rfl,hv,ok,fun H1 s1=>⟨_,rfl,u,us,b',rfl,hu.same s1,ok',fun H2 s2=>?_⟩⟩
  have s12:=s1.trans s2
  obtain ⟨a0,vT,rfl,ha0,_⟩:=hv.same s12
  obtain ⟨a1,vU,rfl,ha1,_⟩:=hu.same s12
  refine ⟨_,rfl,a0,_,0,_,rfl,rfl,SqT.of ha0,rfl,_,rfl,a1,_,0,_,rfl,rfl,SqT.of ha1,rfl,rfl,_,rfl,?_⟩
  by_cases hb:b=b'
  ·exact ifN (by simp [hb]) (q hb H2 s12)
  ·exact ifY (by simp [hb]) ⟨by show 1≤sizeLine;decide,qE hb C H2 m_OtherBase s12⟩
abbrev s_parted:Stmt:=top 56
abbrev s_parted_steps:Stmt:=(defBody s_parted).getD 1 (.Pass ⟨0,0,0,0⟩)
theorem sc_parted_steps:FnScopeC ["node","other","scheme"] "node" ["other","scheme"] (defScope s_parted_steps):=⟨rfl,rfl,rfl,by decide +kernel,rfl,by decide +kernel,by decide +kernel,by decide +kernel,by decide +kernel⟩
theorem ok_psteps (B:Blt mg) (h_moved:Has P w K mg base "moved" 1 ["tables","spot","figures"] (spMoved K)) {b:Int}{ts us:List Tab} (ok:Ok b ts) (ok':Ok b us) (v u:V) (qual:Str) (cl:List (Str×Addr)) (doc pm ct:Value) (c:Addr) :
  FnOkC P w K mg base 4 (PySem.W.fnX "steps" qual (defArgs s_parted_steps) (defBody s_parted_steps) (defScope s_parted_steps) cl .none .none doc pm none (.ref c) ct) "node" ["other","scheme"] [u,v] (spSteps K (grP b ts us v u)):=by
 refine FnOkC.mono (clo_of (k:=1) sc_parted_steps rfl (fun u=>rfl) (fun A outer s H f v' Q hr h=>?_)) (by decide)
 obtain ⟨bn,n,e,hk,hun,⟨hv,hu⟩,q⟩:=h
 cases e
 obtain ⟨q0,hq0,r0,hr0,rfl⟩:=mem_univP.mp hun
 obtain ⟨t,st,rfl,ht,hs⟩:=mem_spotsN.mp hq0
 obtain ⟨t2,st2,rfl,ht2,hs2⟩:=mem_spotsN.mp hr0
 obtain ⟨x,y,hn,hx,hy⟩:=of_n2 hk
 obtain ⟨a0,vT,rfl,ha0,hT⟩:=hv
 obtain ⟨a1,vU,rfl,ha1,hU⟩:=hu
 have b1:=ok.b1
 have b2:=ok.b2
 refine ⟨_,(pss_one (ps_ret (pe_comp (N:=["figure","scheme","node","other"]) (js:=[none,some 2,some 0,some 1]) rfl rfl (pi_range1 rfl B.range (pa_cons (pe_ix ix_tup (pv 2) pe_int (fun _ _=>rfl)) pa_nil)) (fun _ _ _ _=>(pg_name (i:=0) (ndOf (N:=["figure","scheme","node","other"]) (by decide +kernel)) rfl (Or.inl rfl))) (fun _ _ _ _=>pts_nil) (fun _ _ _ _=>(pe_tup (pa_cons (pv 0) (pa_cons (pe_tup (pa_cons (pe_fn h_moved (hm hr) (pa_cons (pe_ix (ix_tupK K) (pv 1) pe_int (fun _ _=>rfl)) (pa_cons (pe_ix (ix_tupK K) (pv 2) pe_int (fun _ _=>rfl)) (pa_cons (pe_lst (pa_cons (pv 0) pa_nil)) pa_nil)))) (pa_cons (pe_fn h_moved (hm hr) (pa_cons (pe_ix (ix_tupK K) (pv 3) pe_int (fun _ _=>rfl)) (pa_cons (pe_ix (ix_tupK K) (pv 2) pe_int (fun _ _=>rfl)) (pa_cons (pe_lst (pa_cons (pv 0) pa_nil)) pa_nil)))) pa_nil))) pa_nil))))))),?_⟩
 refine ⟨_,rfl,a0,_,0,_,rfl,rfl,SqT.of ha0,rfl,b,rfl,by omega,by omega,?_⟩
 refine block_rel (Walk.rng 0 b.toNat) (by omega) rfl (fun _=>true) (fun D k y H'=>StepAt K H' labI y (PyData.int (k:Int),n2 (mvD ts ((t:Int),(st:Int)) [(k:Int)]) (mvD us ((t2:Int),(st2:Int)) [(k:Int)]))) (fun D k v ys H1 H2 fr hD h=>h.mono (seqT_fr fr hD)) (fun k H3 Q' _ _ q'=>q' _ (Same.refl _)) (fun D k ys H3 Q' hk' _ hD hD3 s3 q'=>?_) (fun D ys H3 hD s3 hDl pr=>?_)
 ·have hfi:figsIn b [(k:Int)]:=fun g hg=>by rw [List.mem_singleton.mp hg];omega
  refine ⟨_,rfl,_,rfl,a0,_,1,_,rfl,rfl,SqT.of (s3 _ _ ha0),rfl,_,rfl,bn,_,0,_,rfl,rfl,s3.seqT hn,rfl,_,rfl,zl,fun l hl=>?_⟩
  have t1:=Same.new (o:=HO.lst [V.int (0+(k:Int))]) hl
  have s31:=s3.trans t1
  refine ⟨vT,ts,b,x,l,t,(st:Int),[(k:Int)],rfl,hT.same s31,ok,s31.seqT hx,SqL.of (by rw [upd_same,Int.zero_add];rfl),ht,by omega,by omega,hfi,fun q2 H4 s4 hq2=>?_⟩
  have s34:=s31.trans s4
  refine ⟨_,rfl,a1,_,1,_,rfl,rfl,SqT.of (s34 _ _ ha1),rfl,_,rfl,bn,_,1,_,rfl,rfl,s34.seqT hn,rfl,_,rfl,zl,fun l2 hl2=>?_⟩
  have t2':=Same.new (o:=HO.lst [V.int (0+(k:Int))]) hl2
  have s35:=s34.trans t2'
  refine ⟨vU,us,b,y,l2,t2,(st2:Int),[(k:Int)],rfl,hU.same s35,ok',s35.seqT hy,SqL.of (by rw [upd_same,Int.zero_add];rfl),ht2,by omega,by omega,hfi,fun q3 H5 s5 hq3=>?_⟩
  refine ⟨zl,fun t3 ht3=>⟨zl,fun t4 ht4=>?_⟩⟩
  have u3:=Same.new (o:=HO.tup [V.ref q2,V.ref q3]) ht3
  have u4:=Same.new (o:=HO.tup [V.int (0+(k:Int)),V.ref t3]) ht4
  refine q' _ _ (((((t1.trans s4).trans t2').trans s5).trans u3).trans u4) ⟨t4,V.int (0+(k:Int)),t3,rfl,SqT.of upd_same,⟨(k:Int),by rw [Int.zero_add],rfl⟩,?_⟩
  refine key_n2 (x:=q2) (y:=q3) (SqT.of (u4 _ _ upd_same)) (SqT.of ?_) (SqT.of ?_)
  ·rw [(t2'.trans (s5.trans (u3.trans u4))) _ _ hq2]
   rfl
  ·rw [(u3.trans u4) _ _ hq3]
   rfl
 ·rw [List.filter_eq_self.mpr (fun _ _=>rfl)] at pr
  exact q D ys H3 s3 hD hDl (paired_map_left (f:=fun k:Nat=>(PyData.int (k:Int),n2 (mvD ts ((t:Int),(st:Int)) [(k:Int)]) (mvD us ((t2:Int),(st2:Int)) [(k:Int)]))) (fun a b h=>h) pr)
abbrev s_parted_ends:Stmt:=(defBody s_parted).getD 2 (.Pass ⟨0,0,0,0⟩)
theorem sc_parted_ends:FnScopeC ["node"] "node" [] (defScope s_parted_ends):=⟨rfl,rfl,rfl,by decide +kernel,rfl,by decide +kernel,by decide +kernel,by decide +kernel,by decide +kernel⟩
theorem ok_pends (B:Blt mg) {b:Int}{ts us:List Tab} (ok:Ok b ts) (ok':Ok b us) (v u:V) (qual:Str) (cl:List (Str×Addr)) (doc pm ct:Value) (c:Addr) :
  FnOkC P w K mg base 4 (PySem.W.fnX "ends" qual (defArgs s_parted_ends) (defBody s_parted_ends) (defScope s_parted_ends) cl .none .none doc pm none (.ref c) ct) "node" [] [] (spEnds K (grP b ts us v u)):=by
 refine FnOkC.mono (clo_of (k:=1) sc_parted_ends rfl (fun u=>rfl) (fun A outer s H f v' Q hr h=>?_)) (by decide)
 obtain ⟨bn,n,e,hk,hun,_,q⟩:=h
 cases e
 obtain ⟨q0,hq0,r0,hr0,rfl⟩:=mem_univP.mp hun
 obtain ⟨x,y,hn,hx,hy⟩:=of_n2 hk
 refine ⟨_,(pss_one (ps_ret (pe_cmpR op_ne (pe_cmpR op_eq (pe_ix ix_tup (pe_ix ix_tup (pv 0) pe_int (fun _ _=>rfl)) pe_int (fun _ _=>rfl)) pe_int (nomark _)) (pe_cmpR op_eq (pe_ix ix_tup (pe_ix ix_tup (pv 0) pe_int (fun _ _=>rfl)) pe_int (fun _ _=>rfl)) pe_int (nomark _)) (nomark _)))),?_⟩
 refine ⟨_,rfl,bn,_,0,_,rfl,rfl,hn,rfl,x,_,1,_,rfl,rfl,hx,rfl,rfl,_,rfl,bn,_,1,_,rfl,rfl,hn,rfl,y,_,1,_,rfl,rfl,hy,rfl,rfl,rfl,?_⟩
 have:=q H (Same.refl _)
 rw [show (grP b ts us v u).fin (n2 q0 r0)=decide (decide (q0.2=0)≠decide (r0.2=0)) from rfl] at this
 have e1:(!decide (V.bl (decide (V.int q0.2=V.int 0))=V.bl (decide (V.int r0.2=V.int 0))))=decide (decide (q0.2=0)≠decide (r0.2=0)):=by
  by_cases h1:q0.2=0<;>by_cases h2:r0.2=0<;>simp [h1,h2]
 rw [e1]
 exact this
end
end My
namespace My
open PySem L2 PyProof.Rows
section
variable {P:Program}{w:World}{K:PySem.W.Frag}{mg:Str→Option Value}{base:Heap}
def qsP:List (Pos×Str):=[(defPos s_parted_steps,"parted.<locals>.steps"),(defPos s_parted_ends,"parted.<locals>.ends")]
theorem farP1:farOk qsP (defPos s_parted_steps) "parted.<locals>.steps"=true:=by decide +kernel
theorem farP2:farOk qsP (defPos s_parted_ends) "parted.<locals>.ends"=true:=by decide +kernel
theorem sc_parted:FnScope ["scheme","other","steps","ends"] ["scheme","other"] (defScope s_parted):=fS
theorem ok_parted {f c Pt:Addr}{fd:FuncData} (F:Fun K "parted" "parted" s_parted f fd) (hfd:fd.code=.ref c) (B:Blt mg) (BM:BMain mg base) (CH:PySem.W.CodeHd base c Pt) (St:StartAt K mg)
  (h_check_pair:HasX P w K mg base "check_pair" 6 ["scheme","other"] (spPair mg)) (h_moved:Has P w K mg base "moved" 1 ["tables","spot","figures"] (spMoved K))
  (h_shortest:HasS P w K mg base "shortest" 6 ["start","steps","ends"] (preSh P w K mg base) (spSh K)):FnOk P w K mg base (CXR P w) 8 f fd ["scheme","other"] (spParted Pt qsP mg):=by
 refine F.okTX hfd sc_parted (fun vs H Q E h=>?_) (fun A outer s H vs Q E hr h L=>?_)
 ·obtain ⟨_,_,_,_,_,_,rfl,_⟩:=h
  rfl
 ·obtain ⟨v,u,ts,us,b,b',rfl,hv,ok,hu,ok',T,qE,qq⟩:=h
  have nd:=sc_parted.nd
  obtain ⟨aS,mS,hSt⟩:=St.at'
  have hcode:(cxOf (CXR P w) P w K mg base ["scheme","other","steps","ends"] "parted" (defScope s_parted) f (.ref c) A outer s H E).env.code=.ref c:=rfl
  refine ⟨_,(pss_cons (ps_expr (pe_fnX h_check_pair (hm hr) L.pass (pa_cons (pv 0) (pa_cons (pv 1) pa_nil))))
   (pss_cons (ps_def (i:=2) (qual:="parted.<locals>.steps") BM hcode CH nd rfl (Or.inl rfl) (hfree_of rfl))
   (pss_cons (ps_def (i:=3) (qual:="parted.<locals>.ends") BM hcode CH nd rfl (Or.inl rfl) (hfree_of rfl))
   (pss_one (ps_ret (pe_fnS h_shortest (hm hr) (pa_cons (pe_tup (pa_cons (pe_glob (v:=.ref aS) rfl mS rfl) (pa_cons (pe_glob (v:=.ref aS) rfl mS rfl) pa_nil))) (pa_cons (pv 2) (pa_cons (pv 3) pa_nil))))))))),?_⟩
  refine ⟨_,rfl,_,rfl,v,u,ts,us,b,b',rfl,hv,ok,hu,ok',fun eb H1 s1=>?_,qE⟩
  subst eb
  obtain ⟨qN,qL⟩:=qq rfl
  refine tDef_of (qs:=qsP) (T.same s1) List.mem_cons_self (far_of farP1) fun fS cS docS pmS ctS H2 s2 T2 nS hfS hcS n2'=>?_
  refine tDef_of (qs:=qsP) T2 (List.mem_cons_of_mem _ List.mem_cons_self) (far_of farP2) fun fE cE docE pmE ctE H3 s3 T3 nE hfE hcE n3=>?_
  have s13:Sam H H3:=(s1.sam.trans s2).trans s3
  refine ⟨zl,fun n0 hn0=>?_⟩
  have t0:=Same.new (o:=HO.tup [V.ref aS,V.ref aS]) hn0
  have s14:=s13.trans t0.sam
  refine ⟨_,rfl,_,rfl,grP b ts us v u,fun pins s' I=>⟨n0,fS,fE,rfl,?_,?_⟩,n0,fS,fE,rfl,key_n2 (q:=(0,0)) (r:=(0,0)) (SqT.of upd_same) (hSt _) (hSt _),grP_ok ok ok',⟨hv.sam s14,hu.sam s14⟩,fun H4 s4 hno=>?_,fun D lvs ls m H4 s4 hD hDl hLab hW hf hmin hlt=>?_⟩
  ·refine .clo (ok_psteps B h_moved ok ok' v u _ _ _ _ _ cS) (t0 _ _ (s3.ext hfS)) rfl (t0 _ _ (s3.ext hcS)) (cellsAt_of I fun i x uu h1 h2=>?_)
   match i,h1,h2 with
   | 0,h1,h2=>cases h1;cases h2;exact ⟨by decide +kernel,Or.inl rfl,1,rfl,rfl⟩
   | 1,h1,h2=>cases h1;cases h2;exact ⟨by decide +kernel,Or.inl rfl,0,rfl,rfl⟩
   | i+2,h1,h2=>simp at h1
  ·refine .clo (ok_pends B ok ok' v u _ _ _ _ _ cE) (t0 _ _ hfE) rfl (t0 _ _ hcE) (cellsAt_of I fun i x uu h1 h2=>?_)
   simp at h1
  ·refine qN H4 (s14.trans s4.sam) ((T3.same t0).same s4) fun fs hf hb=>?_
   have:=hno _ _ (figs_wkP ok fs.length fs rfl hf)
   rw [show (grP b ts us v u).fin=finP from rfl,(finP_dst fs).mpr hb] at this
   cases this
  ·obtain ⟨fs,e1,hfs,e2⟩:=wk_figsP ok hW
   have hb:Dst ts us fs:=by
    rw [show (grP b ts us v u).fin=finP from rfl,e2] at hf
    exact (finP_dst fs).mp hf
   have hDl':H4 D=some (.lst (fs.map V.int)):=by
    rw [hDl,lab_ints hLab e1]
   refine qL D fs H4 (s14.trans s4.sam) ((T3.same t0).same s4) ?_ hDl' hfs hb (fun fs' hf' hb'=>?_) ?_
   ·exact s1.free (n2' D (n3 D (t0.free hD)))
   ·have:=hmin _ _ (figs_wkP ok fs'.length fs' rfl hf') ((finP_dst fs').mpr hb')
    rw [e1,List.length_map,List.length_map] at this
    exact this
   ·rw [e1,List.length_map] at hlt
    have:=length_univP ok ok'
    exact Nat.le_trans (Nat.le_of_lt hlt) this
end
end My
namespace My
open PySem L2 PyProof.Rows
def prow (m:Nat) (r r':List Int):List Int:=(List.range r.length).map fun k=>r.getD k 0 * (m:Int)+r'.getD k 0
def ptab (t t':Tab):Tab:=t.flatMap fun r=>t'.map (prow t'.length r)
def bothT (ts us:List Tab):List Tab:=(List.range (Nat.lcm ts.length us.length)).map fun k=>ptab (ts.getD (k % ts.length) []) (us.getD (k % us.length) [])
theorem lcm_step {m n j:Nat} (hm:1≤m) (hn:1≤n) (hj:1≤j) (h:m * j≤Nat.lcm m n):(m * j % n=0→m * j=Nat.lcm m n)∧(m * j % n≠0→m * (j+1)≤Nat.lcm m n):=by
 have hp:0 < m * j:=Nat.mul_pos hm hj
 constructor
 ·intro z
  have d:=Nat.lcm_dvd (Nat.dvd_mul_right m j) (Nat.dvd_of_mod_eq_zero z)
  have:=Nat.le_of_dvd hp d
  omega
 ·intro z
  obtain ⟨q,hq⟩:=Nat.dvd_lcm_left m n
  have hne:m * j≠Nat.lcm m n:=by
   intro e
   apply z
   rw [e]
   exact Nat.mod_eq_zero_of_dvd (Nat.dvd_lcm_right m n)
  rw [hq] at h hne ⊢
  refine Nat.mul_le_mul_left m ?_
  have:j≤q:=Nat.le_of_mul_le_mul_left h hm
  have:j≠q:=fun e=>hne (by rw [e])
  omega
end My
namespace My
open PySem L2 PyProof.Rows
structure BltZ (mg:Str→Option Value):Prop where
 zip:mg "zip"=none
 max:mg "max"=none
def kitRow (K:PySem.W.Frag) (C:Addr):List Addr→List Bool→Bool
 | c :: cs,b :: bs=>PySem.W.kitOne K (.ref C) (.ref c) == some b&&kitRow K C cs bs
 | _,_=>true
def errOne (K:PySem.W.Frag) (S:Addr) (cs:List Addr) (C:Addr) (bs:List Bool):Bool :=
 PySem.W.excIn K C bmVE "ValueError.__new__"&&((mroT K C).contains (.ref S)&&(PySem.W.findIn K (.ref C) "__getattribute__" == some (some (.builtin "BaseException.__getattribute__"))&&(PySem.W.findIn K (.ref C) "__getattr__" == some none&&(PySem.W.findIn K (.ref C) "__class__" == some (some (.builtin "object.__class__"))&&(PySem.W.mroIn K C (.type "BaseException") == some true&&(PySem.W.mroIn K C (.type "object") == some true&&((PySem.W.clsIn K C).isSome&&(kitRow K C cs bs&&PySem.W.kitOne K (.ref C) (.type "ValueError") == some true))))))))
structure ErrOk (K:PySem.W.Frag) (S:Addr) (cs:List Addr) (C:Addr) (bs:List Bool):Prop where
 exc:ExcAt K C (mroT K C)
 has:(mroT K C).contains (.ref S)=true
 is:ExcIs K C
 kit:kitRow K C cs bs=true
 ve:PySem.W.kitOne K (.ref C) (.type "ValueError")=some true
theorem errOne_ok {K:PySem.W.Frag}{S C:Addr}{cs:List Addr}{bs:List Bool} (e:errOne K S cs C bs=true):ErrOk K S cs C bs:=by
 unfold errOne at e
 simp only [Bool.and_eq_true,beq_iff_eq] at e
 obtain ⟨e2,e3,e4,e5,e6,e7,e8,e9,e10,e11⟩:=e
 exact ⟨⟨e2,rfl⟩,e3,⟨e4,e5,e6,e7,e8,e9⟩,e10,e11⟩
theorem kitRow_cons {K:PySem.W.Frag}{C c:Addr}{cs:List Addr}{b:Bool}{bs:List Bool} (h:kitRow K C (c :: cs) (b :: bs)=true):PySem.W.kitOne K (.ref C) (.ref c)=some b∧kitRow K C cs bs=true:=by
 unfold kitRow at h
 simpa only [Bool.and_eq_true,beq_iff_eq] using h
def errsAB (K:PySem.W.Frag) (S c1 c2 c3 c4 c5 c6:Addr):Bool :=
 PySem.W.excIn K S bmVE "ValueError.__new__"&&(errOne K S [c1,c2,c3,c4,c5,c6] c1 [true,false,false,false,false,false]&&(errOne K S [c1,c2,c3,c4,c5,c6] c2 [false,true,false,false,false,false]&&(errOne K S [c1,c2,c3,c4,c5,c6] c3 [false,false,true,false,false,false] &&
  (errOne K S [c1,c2,c3,c4,c5,c6] c4 [false,false,false,true,false,false]&&(errOne K S [c1,c2,c3,c4,c5,c6] c5 [false,false,false,false,true,false]&&errOne K S [c1,c2,c3,c4,c5,c6] c6 [false,false,false,false,false,true])))))
structure ErrsA (K:PySem.W.Frag) (mg:Str→Option Value):Prop where
 at':∃ S c1 c2 c3 c4 c5 c6,mg "SlipError"=some (.ref S)∧mg "NoScheme"=some (.ref c1)∧mg "OtherBase"=some (.ref c2)∧mg "NoRoom"=some (.ref c3)∧mg "NoKind"=some (.ref c4)∧mg "NoFigure"=some (.ref c5)∧mg "NoNote"=some (.ref c6)∧mg "ValueError"=none ∧
  ExcAt K S (mroT K S)∧ErrOk K S [c1,c2,c3,c4,c5,c6] c1 [true,false,false,false,false,false]∧ErrOk K S [c1,c2,c3,c4,c5,c6] c2 [false,true,false,false,false,false]∧ErrOk K S [c1,c2,c3,c4,c5,c6] c3 [false,false,true,false,false,false] ∧
  ErrOk K S [c1,c2,c3,c4,c5,c6] c4 [false,false,false,true,false,false]∧ErrOk K S [c1,c2,c3,c4,c5,c6] c5 [false,false,false,false,true,false]∧ErrOk K S [c1,c2,c3,c4,c5,c6] c6 [false,false,false,false,false,true]
theorem errsA_mk {K:PySem.W.Frag}{mg:Str→Option Value}{S c1 c2 c3 c4 c5 c6:Addr} (m0:mg "SlipError"=some (.ref S)) (m1:mg "NoScheme"=some (.ref c1)) (m2:mg "OtherBase"=some (.ref c2)) (m3:mg "NoRoom"=some (.ref c3)) (m4:mg "NoKind"=some (.ref c4)) (m5:mg "NoFigure"=some (.ref c5)) (m6:mg "NoNote"=some (.ref c6)) (mv:mg "ValueError"=none) (e:errsAB K S c1 c2 c3 c4 c5 c6=true):ErrsA K mg:=by
 unfold errsAB at e
 simp only [Bool.and_eq_true] at e
 obtain ⟨e0,e1,e2,e3,e4,e5,e6⟩:=e
 exact ⟨S,c1,c2,c3,c4,c5,c6,m0,m1,m2,m3,m4,m5,m6,mv,⟨e0,rfl⟩,errOne_ok e1,errOne_ok e2,errOne_ok e3,errOne_ok e4,errOne_ok e5,errOne_ok e6⟩
theorem ErrsA.toP {K:PySem.W.Frag}{mg:Str→Option Value} (h:ErrsA K mg):ErrsP K mg:=by
 obtain ⟨S,c1,c2,c3,c4,c5,c6,m0,m1,m2,m3,m4,m5,m6,mv,x0,x1,x2,_⟩:=h.at'
 obtain ⟨k1,k⟩:=kitRow_cons x2.kit
 obtain ⟨k2,_⟩:=kitRow_cons k
 exact ⟨S,c1,c2,m0,m1,m2,mv,x0,x2.exc,x2.has,x2.is,k2,k1,x2.ve⟩
def Fits (ts us:List Tab):Prop:=Nat.lcm ts.length us.length≤6∧nst ts * nst us≤12
def spCTurns (K:PySem.W.Frag):Sp:=fun vs H Q _=>∃ (a c:Addr) (xs ys:List V),vs=[.ref a,.ref c]∧SqT K H a xs∧SqT K H c ys∧1≤xs.length∧xs.length≤6∧1≤ys.length∧ys.length≤6∧Q (.int ((Nat.lcm xs.length ys.length:Nat):Int)) H
def spPRow:Sp:=fun vs H Q _=>∃ (v u:V) (r r':List Int) (m:Nat),vs=[v,u,.int (m:Int)]∧RowAt H v r∧RowAt H u r'∧r'.length=r.length∧r.length≤10∧m≤12∧∀ x H',Same H H'→RowAt H' x (prow m r r')→Q x H'
def spPTab:Sp:=fun vs H Q _=>∃ (v u:V) (t t':Tab) (b:Nat),vs=[v,u]∧TabAt H v t∧TabAt H u t'∧t.length≤12∧t'.length≤12∧b≤10∧(∀ r∈t,r.length=b)∧(∀ r∈t',r.length=b)∧∀ x H',Same H H'→TabAt H' x (ptab t t')→Q x H'
def spBoth (mg:Str→Option Value):Sp:=fun vs H Q E=>∃ (v u:V) (ts us:List Tab) (b b':Int),vs=[v,u]∧SchAt H v b ts∧Ok b ts∧SchAt H u b' us∧Ok b' us ∧
 (b≠b'→∀ C H',mg "OtherBase"=some (.ref C)→Same H H'→E (.ref C) none H') ∧
 (b=b'→(¬Fits ts us→∀ C H',mg "NoRoom"=some (.ref C)→Same H H'→E (.ref C) none H')∧(Fits ts us→∀ x H',Same H H'→SchAt H' x b (bothT ts us)→Q x H'))
theorem mod_nat (a b:Nat):((a:Int) % (b:Int))=((a % b:Nat):Int):=rfl
theorem nzT {a b:Nat} (z:(!decide (V.int ((a:Int) % (b:Int))=V.int 0))=true):a % b≠0:=by
 intro e
 rw [mod_nat,e] at z
 simp at z
theorem nzF {a b:Nat} (z:¬(!decide (V.int ((a:Int) % (b:Int))=V.int 0))=true):a % b=0:=by
 rw [mod_nat] at z
 have:¬(((a % b:Nat):Int)≠0):=by simpa using z
 omega
section
variable {P:Program}{w:World}{K:PySem.W.Frag}{mg:Str→Option Value}{base:Heap}
abbrev s_common_turns:Stmt:=top 52
theorem sc_common_turns:FnScope ["tables","others","turns"] ["tables","others"] (defScope s_common_turns):=fS
theorem ok_common_turns {f:Addr}{fd:FuncData} (F:Fun K "common_turns" "common_turns" s_common_turns f fd) (B:Blt mg)   :
  FnOk P w K mg base CX0 1 f fd ["tables","others"] (spCTurns K):=by
 refine F.ok sc_common_turns (fun vs H Q E h=>?_) (fun cdv A outer s H vs Q E hr h=>?_)
 ·obtain ⟨_,_,_,_,rfl,_⟩:=h
  rfl
 ·obtain ⟨a,c,xs,ys,rfl,ha,hc,x1,x2,y1,y2,q⟩:=h
  have nd:=sc_common_turns.nd
  refine ⟨_,(pss_cons (ps_set (i:=2) nd rfl (Or.inl rfl) (pe_callB call_len_seq rfl B.len PySem.boot_len (pa_cons (pv 0) pa_nil)))
   (pss_cons (ps_while PassesOwn.never (pt_cmpR op_ne (pe_op op_mod (pv 2) (pe_callB call_len_seq rfl B.len PySem.boot_len (pa_cons (pv 1) pa_nil))) pe_int (nomark _)) (pss_one (ps_set (i:=2) nd rfl (Or.inl rfl) (pe_op op_add (pv 2) (pe_callB call_len_seq rfl B.len PySem.boot_len (pa_cons (pv 0) pa_nil))))))
   (pss_one (ps_ret (pv 2))))),?_⟩
  refine ⟨_,rfl,a,xs,rfl,.inr ha,?_⟩
  refine ⟨fun k σ H'=>∃ j:Nat,σ=[some (.ref a),some (.ref c),some (.int ((xs.length * j:Nat):Int))]∧H'=H∧1≤j∧xs.length * j≤Nat.lcm xs.length ys.length∧k=Nat.lcm xs.length ys.length-xs.length * j,⟨_,1,by rw [Nat.mul_one];rfl,rfl,Nat.le_refl _,by rw [Nat.mul_one];exact Nat.le_of_dvd (Nat.lcm_pos x1 y1) (Nat.dvd_lcm_left _ _),rfl⟩,?_⟩
  rintro k σ H' ⟨j,rfl,rfl,j1,jl,rfl⟩
  have st:=lcm_step x1 y1 j1 jl
  refine ⟨_,rfl,_,rfl,c,ys,rfl,.inr hc,_,_,rfl,rfl,(by show (0:Int) < (ys.length:Int);omega),rfl,_,rfl,ite2 (fun z=>?_) (fun z=>?_)⟩
  ·have hz:xs.length * j % ys.length≠0:=nzT z
   have h2:=st.2 hz
   have e2:xs.length * (j+1)=xs.length * j+xs.length:=Nat.mul_succ _ _
   refine ⟨_,fun σ' H' z=>z,?_⟩
   refine ⟨_,rfl,_,rfl,a,xs,rfl,.inr ha,_,_,rfl,rfl,_,?_,j+1,?_,rfl,by omega,h2,rfl⟩
   ·omega
   ·rw [e2]
    rfl
  ·have hz:xs.length * j % ys.length=0:=nzF z
   have:=st.1 hz
   refine ⟨_,rfl,?_⟩
   rw [this]
   exact q
abbrev s_paired_row:Stmt:=top 53
theorem sc_paired_row:FnScope ["row","other_row","other_states"] ["row","other_row","other_states"] (defScope s_paired_row):=fS
theorem ok_paired_row {f:Addr}{fd:FuncData} (F:Fun K "paired_row" "paired_row" s_paired_row f fd) (B:Blt mg) (Zm:BltZ mg)  :
  FnOk P w K mg base CX0 1 f fd ["row","other_row","other_states"] spPRow:=by
 refine F.ok sc_paired_row (fun vs H Q E h=>?_) (fun cdv A outer s H vs Q E hr h=>?_)
 ·obtain ⟨_,_,_,_,_,rfl,_⟩:=h
  rfl
 ·obtain ⟨v,u,r,r',m,rfl,⟨a,rfl,ha⟩,⟨c,rfl,hc⟩,hl,hr10,hm,q⟩:=h
  have nd:=sc_paired_row.nd
  refine ⟨_,(pss_one (ps_ret (pe_callTy call_tuple_of rfl B.tTuple boot_tuple (pa_cons (pe_comp (g:=(gTup K 2 (gCons (gName 0) (gCons (gName 1) gNil)))) (N:=["state","other","other_states"]) (js:=[none,none,some 2]) rfl rfl (pi_zipT rfl Zm.zip (pa_cons (pv 0) (pa_cons (pv 1) pa_nil))) (fun _ _ _ _=>(pg_tup rfl (pgs_cons (pg_name (i:=0) (ndOf (N:=["state","other","other_states"]) (by decide +kernel)) rfl (Or.inl rfl)) (pgs_cons (pg_name (i:=1) (ndOf (N:=["state","other","other_states"]) (by decide +kernel)) rfl (Or.inl rfl)) pgs_nil)))) (fun _ _ _ _=>pts_nil) (fun _ _ _ _=>(pe_op op_add (pe_op op_mul (pv 0) (pv 2)) (pv 1)))) pa_nil)))),?_⟩
  refine ⟨_,rfl,_,rfl,a,c,rfl,⟨_,SqT.of ha⟩,⟨_,SqT.of hc⟩,?_⟩
  have wk:=Walk.zipT (K:=K) (SqT.of ha) (SqT.of hc) (by rw [List.length_map,List.length_map,hl])
  rw [List.length_map] at wk
  refine block_gen wk (fun D k ys H2=>ys=(List.range k).map fun i:Nat=>V.int (r.getD i 0 * (m:Int)+r'.getD i 0)) (fun D hD=>rfl) (fun D k x ys H1 H3 Keep Drop hD hk s1' s2' hys e ix keep drop=>?_) (fun D ys H2 hD s2 hys e=>?_)
  ·obtain ⟨p,rfl,hp⟩:=ix
   have ex:(r.map V.int).getD k .non=V.int (r.getD k 0):=by simp [List.getD_eq_getElem?_getD,List.getElem?_map,List.getElem?_eq_getElem hk]
   have hk':k < r'.length:=by omega
   have ex':(r'.map V.int).getD k .non=V.int (r'.getD k 0):=by simp [List.getD_eq_getElem?_getD,List.getElem?_map,List.getElem?_eq_getElem hk']
   rw [ex,ex'] at hp
   have hly:ys.length < sizeLine:=by
    rw [e,List.length_map,List.length_range]
    exact small1000 (by omega)
   refine ⟨p,_,rfl,SqT.of hp,rfl,_,_,rfl,_,_,rfl,rfl,?_⟩
   refine ⟨⟨rfl,fun i v e=>?_⟩,?_⟩
   ·match i,e with
    | 0,e=>cases e
    | 1,e=>cases e
    | 2,e=>exact e
   ·refine ⟨_,rfl,_,rfl,_,_,rfl,rfl,.inr ⟨by omega,by omega⟩,_,rfl,_,_,rfl,rfl,keep _ _ (Same.refl _) hly ?_⟩
    rw [List.range_succ,List.map_append,e]
    rfl
  ·refine ⟨D,_,rfl,.inl ⟨SqL.of hys,fun l hl'=>?_⟩⟩
   refine q (.ref l) _ (s2.trans (Same.new hl')) ⟨l,rfl,?_⟩
   rw [upd_same,e]
   unfold prow
   rw [List.map_map]
   rfl
end
end My
namespace My
open PySem L2 PyProof.Rows
theorem RowAt.put {H:Hp}{l:Addr}{ys:List V}{o:HO}{v:V}{r:List Int} (hl:H l=some (.lst ys)) (h:RowAt H v r):RowAt (upd H l o) v r:=by
 obtain ⟨a,e,h⟩:=h
 exact ⟨a,e,by rw [upd_ne (ne_of h hl (by intro z;cases z))];exact h⟩
theorem TabAt.frL {H H':Hp}{D:Addr}{ys:List V}{v:V}{t:Tab} (fr:∀ b o,b≠D→H b=some o→H' b=some o) (hD:H D=some (.lst ys)) (h:TabAt H v t):TabAt H' v t:=by
 have tp:∀ a xs,H a=some (.tup xs)→H' a=some (.tup xs):=fun a xs e=>fr _ _ (ne_of e hD (by intro z;cases z)) e
 obtain ⟨a2,vs2,e2,h2,p2⟩:=h
 refine ⟨a2,vs2,e2,tp _ _ h2,paired_imp (fun x r hx=>?_) p2⟩
 obtain ⟨a3,e3,h3⟩:=hx
 exact ⟨a3,e3,tp _ _ h3⟩
theorem paired_mapR {α β γ:Type}{F:α→γ→Prop}{G:α→β→Prop}{f:β→γ} (h:∀ a b,G a b→F a (f b)):∀ {l:List α}{m:List β},Paired G l m→Paired F l (m.map f)
 | _,_,.nil=>.nil
 | _,_,.cons a t=>.cons (h _ _ a) (paired_mapR h t)
section
variable {P:Program}{w:World}{K:PySem.W.Frag}{mg:Str→Option Value}{base:Heap}
abbrev s_paired_table:Stmt:=top 54
theorem sc_paired_table:FnScope ["table","other_table","rows","row"] ["table","other_table"] (defScope s_paired_table):=fS
theorem ok_paired_table {f:Addr}{fd:FuncData} (F:Fun K "paired_table" "paired_table" s_paired_table f fd) (B:Blt mg)  (h_paired_row:Has P w K mg base "paired_row" 1 ["row","other_row","other_states"] spPRow) :
  FnOk P w K mg base CX0 2 f fd ["table","other_table"] spPTab:=by
 refine F.ok sc_paired_table (fun vs H Q E h=>?_) (fun cdv A outer s H vs Q E hr h=>?_)
 ·obtain ⟨_,_,_,_,_,rfl,_⟩:=h
  rfl
 ·obtain ⟨v,u,t,t',b,rfl,⟨a,vrs,rfl,ha,pR⟩,⟨c,vus,rfl,hc,pU⟩,hl,hl',hb,hrb,hrb',q⟩:=h
  have nd:=sc_paired_table.nd
  have el:=paired_length pR
  have el':=paired_length pU
  refine ⟨_,(pss_cons (ps_set (i:=2) nd rfl (Or.inl rfl) (pe_lst pa_nil))
   (pss_cons (ps_for PassesOwn.never rfl (pi_tup (pv 0)) (pg_name (i:=3) nd rfl (Or.inr rfl)) (pss_one (ps_expr (pe_bm PySem.F.plainAttrs_list PySem.F.slot_list_extend PySem.F.type_list_extend mt_extend (pv 2) (pa_cons (pe_comp (N:=["other_row","row","other_table"]) (js:=[none,some 3,some 1]) rfl rfl (pi_tup (pv 1)) (fun _ _ _ _=>(pg_name (i:=0) (ndOf (N:=["other_row","row","other_table"]) (by decide +kernel)) rfl (Or.inl rfl))) (fun _ _ _ _=>pts_nil) (fun _ _ _ _=>(pe_fn h_paired_row (hm hr) (pa_cons (pv 1) (pa_cons (pv 0) (pa_cons (pe_callB (call_lenK K) rfl B.len PySem.boot_len (pa_cons (pv 2) pa_nil)) pa_nil)))))) pa_nil)))))
   (pss_one (ps_ret (pe_callTy call_tuple_of rfl B.tTuple boot_tuple (pa_cons (pv 2) pa_nil)))))),?_⟩
  refine ⟨zl,fun lT hlT=>?_⟩
  have uT:=Same.new (o:=HO.lst []) hlT
  obtain ⟨g,hg⟩:∃ g:List Int→Tab,∀ r,g r=t'.map (prow t'.length r):=⟨_,fun _=>rfl⟩
  have hgl:∀ r,(g r).length=t'.length:=fun r=>by rw [hg,List.length_map]
  obtain ⟨I1,hI1⟩:∃ I1:Nat→L2.St→Hp→Prop,∀ i σ H4,I1 i σ H4↔∃ vs o3,σ=[some (.ref a),some (.ref c),some (.ref lT),o3]∧Same H H4∧H4 lT=some (.lst vs)∧Paired (RowAt H4) vs ((t.take i).flatMap g):=⟨_,fun _ _ _=>Iff.rfl⟩
  refine ⟨_,rfl,a,rfl,⟨_,SqT.of (uT _ _ ha)⟩,for_tup (K:=K) (a:=a) (xs:=vrs) I1 ((hI1 _ _ _).2 ⟨[],_,rfl,uT,upd_same,.nil⟩) (fun i σ H4 _ zz=>by
   obtain ⟨_,_,_,s4,_⟩:=(hI1 _ _ _).1 zz
   exact SqT.of (s4 _ _ ha)) ?_ ?_⟩
  ·intro i y σ H4 hi zz
   obtain ⟨vs,o3,rfl,s4,hT4,p4⟩:=(hI1 _ _ _).1 zz
   clear zz
   obtain ⟨r,er,hy⟩:=paired_getL pR i _ hi
   have hrl:=hrb r (List.mem_of_getElem? er)
   have hvl:vs.length≤144:=by
    have e1:=paired_length p4
    have e2:((t.take i).flatMap g).length=(t.take i).length * t'.length:=length_flat (n:=t'.length) _ fun x _=>hgl x
    have e3:(t.take i).length * t'.length≤12 * 12:=Nat.mul_le_mul (by rw [List.length_take];omega) hl'
    omega
   have wk:=Walk.tup (K:=K) (SqT.of (s4 _ _ hc))
   refine ⟨_,rfl,.inl ⟨rfl,_,SqL.of hT4⟩,_,rfl,c,rfl,⟨_,SqT.of (s4 _ _ hc)⟩,?_⟩
   refine block_rel wk (by omega) rfl (fun _=>true) (fun D k y H'=>RowAt H' y (prow t'.length r (t'.getD k []))) (fun D k v ys H1 H2 fr hD h=>?_) (fun k H3 Q' _ _ q'=>q' _ (Same.refl _)) (fun D k ys H3 Q' hk' _ hD hD3 s3 q'=>?_) (fun D ys H3 hD s3 hDl pr=>?_)
   ·obtain ⟨x,e,h⟩:=h
    exact ⟨x,e,fr _ _ (ne_of h hD (by intro z;cases z)) h⟩
   ·have s43:=s4.trans s3
    obtain ⟨r',er'⟩:∃ r',t'[k]? = some r':=⟨_,List.getElem?_eq_getElem (show k < t'.length by omega)⟩
    obtain ⟨x,ex,hx⟩:=paired_get pU k _ er'
    have ed:vus.getD k .non=x:=by rw [List.getD_eq_getElem?_getD,ex];rfl
    have ed':t'.getD k []=r':=by rw [List.getD_eq_getElem?_getD,er'];rfl
    have hrl':=hrb' r' (List.mem_of_getElem? er')
    refine ⟨_,rfl,_,rfl,_,rfl,c,vus,rfl,.inr (SqT.of (s43 _ _ hc)),y,vus.getD k .non,r,r',t'.length,?_,hy.same s43,?_,by omega,by omega,hl',fun x' H5 s5 hx'=>q' _ _ s5 ?_⟩
    ·rw [el']
     rfl
    ·rw [ed]
     exact hx.same s43
    ·rw [ed']
     exact hx'
   ·rw [List.filter_eq_self.mpr (fun _ _=>rfl)] at pr
    have hT3:=s3 _ _ hT4
    have e5:=paired_length pr
    rw [List.length_range] at e5
    refine ⟨lT,D,vs,ys,rfl,rfl,hT3,hDl,Nat.le_of_lt (smallM (by omega)),(hI1 _ _ _).2 ⟨_,_,rfl,(s4.trans s3).put hlT,upd_same,?_⟩⟩
    have e6:(t.take (i+1)).flatMap g=(t.take i).flatMap g++g r:=by
     rw [List.take_add_one,er,List.flatMap_append]
     simp
    have e7:(List.range vus.length).map (fun k=>prow t'.length r (t'.getD k []))=g r:=by
     rw [hg,el',range_map_getD t' [] (prow t'.length r)]
    rw [e6,← e7]
    exact paired_append (paired_imp (fun _ _ x=>(x.same s3).put hT3) p4) (paired_imp (fun _ _ x=>RowAt.put hT3 x) (paired_mapR (F:=RowAt H3) (f:=fun k=>prow t'.length r (t'.getD k [])) (fun _ _ h=>h) pr))
  ·intro σ H4 zz
   obtain ⟨vs,o3,rfl,s4,hT4,p4⟩:=(hI1 _ _ _).1 zz
   refine ⟨_,rfl,lT,vs,rfl,.inl ⟨SqL.of hT4,fun l hl2=>?_⟩⟩
   have u5:=Same.new (o:=HO.tup vs) hl2
   refine q (.ref l) _ (s4.trans u5) ⟨l,vs,rfl,upd_same,?_⟩
   rw [el,List.take_length] at p4
   have e:t.flatMap g=ptab t t':=by
    unfold ptab
    exact congrArg (fun f=>List.flatMap f t) (funext hg)
   rw [e] at p4
   exact paired_imp (fun _ _ x=>x.same u5) p4
abbrev s_both:Stmt:=top 55
theorem sc_both:FnScope ["scheme","other","tables","others","turns","paired"] ["scheme","other"] (defScope s_both):=fS
theorem ok_both {f:Addr}{fd:FuncData} (F:Fun K "both" "both" s_both f fd) (B:Blt mg) (Nm:Nums mg) (Ea:ErrsA K mg) (h_check_pair:HasX P w K mg base "check_pair" 6 ["scheme","other"] (spPair mg)) (h_common_turns:Has P w K mg base "common_turns" 1 ["tables","others"] (spCTurns K)) (h_paired_table:Has P w K mg base "paired_table" 2 ["table","other_table"] spPTab) :
  FnOk P w K mg base (CXR P w) 7 f fd ["scheme","other"] (spBoth mg):=by
 refine F.okX sc_both (fun vs H Q E h=>?_) (fun cdv A outer s H vs Q E hr h L=>?_)
 ·obtain ⟨_,_,_,_,_,_,rfl,_⟩:=h
  rfl
 ·obtain ⟨v,u,ts,us,b,b',rfl,hv,ok,hu,ok',qE,qq⟩:=h
  have nd:=sc_both.nd
  obtain ⟨t6,m6⟩:=Nm.mt
  obtain ⟨t12,m12⟩:=Nm.ms
  obtain ⟨_,_,_,c_NoRoom,_,_,_,_,_,_,m_NoRoom,_,_,_,_,_,_,_,e_NoRoom,_⟩:=Ea.at'
  have x_NoRoom:=e_NoRoom.exc
  refine ⟨_,(pss_cons (ps_expr (pe_fnX h_check_pair (hm hr) L.pass (pa_cons (pv 0) (pa_cons (pv 1) pa_nil))))
   (pss_cons (ps_set (i:=2) nd rfl (Or.inr rfl) (pe_ix ix_tup (pv 0) pe_int (fun _ _=>rfl)))
   (pss_cons (ps_set (i:=3) nd rfl (Or.inr rfl) (pe_ix ix_tup (pv 1) pe_int (fun _ _=>rfl)))
   (pss_cons (ps_set (i:=4) nd rfl (Or.inl rfl) (pe_fn h_common_turns (hm hr) (pa_cons (pv 2) (pa_cons (pv 3) pa_nil))))
   (pss_cons (ps_if (PW.pt (pw_or (pt_cmpR op_gt (pv 4) (pe_glob (v:=.int 6) rfl m6 ⟨_,rfl⟩) (nomark _)) (pw_or1 (pt_cmpR op_gt (pe_op op_mul (pe_callB call_len_seq rfl B.len PySem.boot_len (pa_cons (pe_ix ix_tup (pv 2) pe_int (fun _ _=>rfl)) pa_nil)) (pe_callB call_len_seq rfl B.len PySem.boot_len (pa_cons (pe_ix ix_tup (pv 3) pe_int (fun _ _=>rfl)) pa_nil))) (pe_glob (v:=.int 12) rfl m12 ⟨_,rfl⟩) (nomark _))))) (pss_one (ps_raise L rfl rfl m_NoRoom x_NoRoom (pa_cons pe_str pa_nil))) pss_nil)
   (pss_cons (ps_setC (i:=5) (N:=["turn","tables","others"]) (js:=[none,some 2,some 3]) nd rfl rfl rfl rfl (pi_range1 rfl B.range (pa_cons (pv 4) pa_nil)) (fun _ _ _ _=>(pg_name (i:=0) (ndOf (N:=["turn","tables","others"]) (by decide +kernel)) rfl (Or.inl rfl))) (fun _ _ _ _=>pts_nil) (fun _ _ _ _=>(pe_fn h_paired_table (hm hr) (pa_cons (pe_ix (ix_tupK K) (pv 1) (pe_op op_mod (pv 0) (pe_callB (call_lenK K) rfl B.len PySem.boot_len (pa_cons (pv 1) pa_nil))) (fun _ _=>rfl)) (pa_cons (pe_ix (ix_tupK K) (pv 2) (pe_op op_mod (pv 0) (pe_callB (call_lenK K) rfl B.len PySem.boot_len (pa_cons (pv 2) pa_nil))) (fun _ _=>rfl)) pa_nil)))))
   (pss_one (ps_ret (pe_tup (pa_cons (pe_ix ix_tup (pv 0) pe_int (fun _ _=>rfl)) (pa_cons (pe_callTy call_tuple_of rfl B.tTuple boot_tuple (pa_cons (pv 5) pa_nil)) pa_nil))))))))))),?_⟩
  refine ⟨_,rfl,_,rfl,v,u,ts,us,b,b',rfl,hv,ok,hu,ok',fun eb H1 s1=>?_,qE⟩
  subst eb
  obtain ⟨qN,qL⟩:=qq rfl
  clear qq qE
  obtain ⟨a0,vT,rfl,ha0,a1,vts,rfl,ha1,pT⟩:=hv.same s1
  obtain ⟨c0,vU,rfl,hc0,c1,vus,rfl,hc1,pU⟩:=hu.same s1
  have el:=paired_length pT
  have el':=paired_length pU
  have t1:=ok.t1
  have t2:=ok.t2
  have t1':=ok'.t1
  have t2':=ok'.t2
  have n2:=ok.n2
  have n2':=ok'.n2
  have b1:=ok.b1
  have b2:=ok.b2
  have e0:ts[0]? = some (ts.headD []):=by
   cases ts with
   | nil=>simp at t1
   | cons t r=>rfl
  have e0':us[0]? = some (us.headD []):=by
   cases us with
   | nil=>simp at t1'
   | cons t r=>rfl
  obtain ⟨x0,ex0,⟨a2,vrs,rfl,ha2,pR⟩⟩:=paired_get pT 0 _ e0
  obtain ⟨y0,ey0,⟨c2,vru,rfl,hc2,pR'⟩⟩:=paired_get pU 0 _ e0'
  have hn0:vrs.length=nst ts:=paired_length pR
  have hn0':vru.length=nst us:=paired_length pR'
  refine ⟨_,rfl,a0,_,1,_,rfl,rfl,SqT.of ha0,rfl,?_⟩
  refine ⟨_,rfl,c0,_,1,_,rfl,rfl,SqT.of hc0,rfl,?_⟩
  refine ⟨_,rfl,_,rfl,a1,c1,vts,vus,rfl,SqT.of ha1,SqT.of hc1,by omega,by omega,by omega,by omega,?_⟩
  rw [el,el']
  have l1:1≤Nat.lcm ts.length us.length:=Nat.lcm_pos t1 t1'
  refine ⟨_,rfl,_,_,rfl,rfl,_,rfl,ite2 (fun z=>?_) (fun z=>?_)⟩
  ·have hz:¬Fits ts us:=fun h=>by
    have:=of_decide_eq_true z
    have:=h.1
    omega
   exact iteT ⟨by show 1≤sizeLine;decide,qN hz c_NoRoom H1 m_NoRoom s1⟩
  have hz1:Nat.lcm ts.length us.length≤6:=by
   have:¬((6:Int) < ((Nat.lcm ts.length us.length:Nat):Int)):=by simpa using z
   omega
  refine ⟨_,rfl,a1,_,0,_,rfl,rfl,SqT.of ha1,atI_nat ex0,a2,vrs,rfl,.inr (SqT.of ha2),_,rfl,c1,_,0,_,rfl,rfl,SqT.of hc1,atI_nat ey0,c2,vru,rfl,.inr (SqT.of hc2),_,_,rfl,rfl,.inr ⟨by omega,by omega⟩,_,_,rfl,rfl,_,rfl,ite2 (fun z2=>?_) (fun z2=>?_)⟩
  ·have hz:¬Fits ts us:=fun h=>by
    have h1:(12:Int) < (vrs.length:Int) * (vru.length:Int):=of_decide_eq_true z2
    rw [hn0,hn0',← Int.natCast_mul] at h1
    have:=h.2
    omega
   exact ⟨by show 1≤sizeLine;decide,qN hz c_NoRoom H1 m_NoRoom s1⟩
  have hz2:nst ts * nst us≤12:=by
   have h1:¬((12:Int) < (vrs.length:Int) * (vru.length:Int)):=by simpa using z2
   rw [hn0,hn0',← Int.natCast_mul] at h1
   omega
  have hfit:Fits ts us:=⟨hz1,hz2⟩
  clear z z2 qN
  obtain ⟨L',hL⟩:∃ L',L'=Nat.lcm ts.length us.length:=⟨_,rfl⟩
  rw [← hL] at l1 hz1 ⊢
  refine ⟨_,rfl,(L':Int),rfl,by omega,by omega,?_⟩
  rw [Int.toNat_natCast]
  refine block_rel (Walk.rng 0 L') (by omega) rfl (fun _=>true) (fun D k y H'=>TabAt H' y (ptab (ts.getD (k % ts.length) []) (us.getD (k % us.length) []))) (fun D k v ys H1 H2 fr hD h=>h.frL fr hD) (fun k H3 Q' _ _ q'=>q' _ (Same.refl _)) (fun D k ys H3 Q' hk' _ hD hD3 s3 q'=>?_) (fun D ys H3 hD s3 hDl pr=>?_)
  ·have k1:k % ts.length < ts.length:=Nat.mod_lt _ t1
   have k2:k % us.length < us.length:=Nat.mod_lt _ t1'
   obtain ⟨tab,etab⟩:∃ tab,ts[k % ts.length]? = some tab:=⟨_,List.getElem?_eq_getElem k1⟩
   obtain ⟨tab',etab'⟩:∃ tab',us[k % us.length]? = some tab':=⟨_,List.getElem?_eq_getElem k2⟩
   obtain ⟨x,ex,hx⟩:=paired_get pT _ _ etab
   obtain ⟨y,ey,hy⟩:=paired_get pU _ _ etab'
   have d1:ts.getD (k % ts.length) []=tab:=by rw [List.getD_eq_getElem?_getD,etab];rfl
   have d2:us.getD (k % us.length) []=tab':=by rw [List.getD_eq_getElem?_getD,etab'];rfl
   have mt:=List.mem_of_getElem? etab
   have mt':=List.mem_of_getElem? etab'
   have ei:(0+(k:Int)) % ((vts.length:Nat):Int)=((k % ts.length:Nat):Int):=by rw [Int.zero_add,el];rfl
   have ei':(0+(k:Int)) % ((vus.length:Nat):Int)=((k % us.length:Nat):Int):=by rw [Int.zero_add,el'];rfl
   refine ⟨_,rfl,_,rfl,_,rfl,a1,vts,rfl,.inr (SqT.of (s3 _ _ ha1)),_,_,rfl,rfl,(by show (0:Int) < (vts.length:Int);omega),a1,vts,_,x,rfl,rfl,SqT.of (s3 _ _ ha1),?_,_,rfl,_,rfl,_,rfl,c1,vus,rfl,.inr (SqT.of (s3 _ _ hc1)),_,_,rfl,rfl,(by show (0:Int) < (vus.length:Int);omega),c1,vus,_,y,rfl,rfl,SqT.of (s3 _ _ hc1),?_,x,y,tab,tab',b.toNat,rfl,hx.same s3,hy.same s3,by have:=ok.rows _ mt;omega,by have:=ok'.rows _ mt';omega,by omega,fun r hr=>by have:=ok.figs _ mt r hr;omega,fun r hr=>by have:=ok'.figs _ mt' r hr;omega,fun z H4 s4 hz=>q' _ _ s4 ?_⟩
   ·rw [ei]
    exact atI_nat ex
   ·rw [ei']
    exact atI_nat ey
   ·rw [d1,d2]
    exact hz
  ·rw [List.filter_eq_self.mpr (fun _ _=>rfl)] at pr
   refine ⟨_,rfl,a0,_,0,_,rfl,rfl,SqT.of (s3 _ _ ha0),rfl,_,rfl,D,ys,rfl,.inl ⟨SqL.of hDl,fun l hl=>⟨zl,fun l2 hl2=>?_⟩⟩⟩
   have u4:=Same.new (o:=HO.tup ys) hl
   have u5:=Same.new (o:=HO.tup [V.int b,V.ref l]) hl2
   have s5:=s3.trans (u4.trans u5)
   refine qL hfit (.ref l2) _ (s1.trans s5) ⟨l2,_,rfl,upd_same,l,ys,rfl,u5 _ _ upd_same,?_⟩
   have:=paired_mapR (F:=TabAt H3) (f:=fun k=>ptab (ts.getD (k % ts.length) []) (us.getD (k % us.length) [])) (fun _ _ h=>h) pr
   rw [hL] at this
   exact paired_imp (fun _ _ x=>x.same (u4.trans u5)) this
end
end My
namespace L2
open PySem PySem.Spec PyProof.Rows
theorem pi_or {X:Cx}{tg l:Expr}{w1 w2:TI} (h1:PI X tg l w1) (h2:PI X tg l w2):PI X tg l (fun σ H R=>w1 σ H R∨w2 σ H R):=by
 intro pins s σ H R I h
 rcases h with h | h
 ·exact h1 pins s σ H R I h
 ·exact h2 pins s σ H R I h
end L2
namespace My
open PySem L2 PyProof.Rows
structure BltT (mg:Str→Option Value):Prop where
 tStr:mg "str"=none
 tDict:mg "dict"=none
def numT (i:Int):Str:=Str.ofString (toString i)
def lineT (ns:List Int):Str:=Str.join " " (ns.map numT)
theorem numT_len {i:Int} (h0:0≤i) (h1:i≤12):(numT i).length≤2:=by
 have:i=0∨i=1∨i=2∨i=3∨i=4∨i=5∨i=6∨i=7∨i=8∨i=9∨i=10∨i=11∨i=12:=by omega
 rcases this with h | h | h | h | h | h | h | h | h | h | h | h | h<;>(subst h;decide +kernel)
theorem sum_len {ts:List Str}{m:Nat}:(∀ t∈ts,t.length≤m)→(ts.map (·.length)).sum≤ts.length * m:=by
 induction ts with
 | nil=>simp
 | cons t ts ih =>
  intro h
  have h1:=h t List.mem_cons_self
  have h2:=ih fun x hx=>h x (List.mem_cons_of_mem _ hx)
  rw [List.map_cons,List.sum_cons,List.length_cons,Nat.add_mul,Nat.one_mul]
  omega
def spLine (K:PySem.W.Frag):Sp:=fun vs H Q _=>∃ (a:Addr) (ns:List Int),vs=[.ref a]∧(SqL K H a (ns.map V.int)∨SqT K H a (ns.map V.int))∧ns.length≤12∧(∀ n∈ns,0≤n∧n≤12)∧∀ H',Same H H'→Q (.str (lineT ns)) H'
section
variable {P:Program}{w:World}{K:PySem.W.Frag}{mg:Str→Option Value}{base:Heap}
abbrev s_line_of:Stmt:=top 58
theorem sc_line_of:FnScope ["numbers"] ["numbers"] (defScope s_line_of):=fS
theorem ok_line_of {f:Addr}{fd:FuncData} (F:Fun K "line_of" "line_of" s_line_of f fd) (B:Blt mg) (Tz:BltT mg)  :
  FnOk P w K mg base CX0 1 f fd ["numbers"] (spLine K):=by
 refine F.ok sc_line_of (fun vs H Q E h=>?_) (fun cdv A outer s H vs Q E hr h=>?_)
 ·obtain ⟨_,_,rfl,_⟩:=h
  rfl
 ·obtain ⟨a,ns,rfl,hS,hl,hn,q⟩:=h
  have nd:=sc_line_of.nd
  refine ⟨_,(pss_one (ps_ret (pe_bm PySem.F.plainAttrs_str PySem.F.slot_str_join PySem.F.type_str_join mt_join pe_str (pa_cons (pe_comp (N:=["number"]) (js:=[none]) rfl rfl (pi_or (pi_list (pv 0)) (pi_tup (pv 0))) (fun _ _ _ _=>(pg_name (i:=0) (ndOf (N:=["number"]) (by decide +kernel)) rfl (Or.inl rfl))) (fun _ _ _ _=>pts_nil) (fun _ _ _ _=>(pe_callTy call_str_int rfl Tz.tStr boot_str (pa_cons (pv 0) pa_nil)))) pa_nil)))),?_⟩
  have stp:∀ (k:Nat),k < ns.length→((ns.map V.int).getD k .non=V.int (ns.getD k 0))∧0≤ns.getD k 0∧ns.getD k 0≤12:=fun k hk=>by
   have h1:ns.getD k 0=ns[k]:=by rw [List.getD_eq_getElem?_getD,List.getElem?_eq_getElem hk];rfl
   exact ⟨int_getD hk,by rw [h1];exact hn _ (List.getElem_mem hk)⟩
  have fin:∀ D H2,Same H H2→H2 D=some (.lst ((List.range ns.length).map fun k=>V.str (numT (ns.getD k 0))))→rJoin K (.str " ") [.ref D] H2 Q:=fun D H2 s2 hD=>by
   rw [range_map_getD ns 0 (fun n=>V.str (numT n))] at hD
   have hm:ns.map (fun n=>V.str (numT n))=(ns.map numT).map V.str:=by rw [List.map_map];rfl
   rw [hm] at hD
   refine ⟨" ",D,ns.map numT,rfl,rfl,SqL.of hD,?_,q H2 s2⟩
   have:=sum_len (ts:=ns.map numT) (m:=2) fun t ht=>by
    obtain ⟨n,hn',rfl⟩:=List.mem_map.mp ht
    exact numT_len (hn n hn').1 (hn n hn').2
   rw [List.length_map] at this ⊢
   have e:(" " : Str).length=1:=by decide +kernel
   rw [e]
   omega
  have lg:∀ i:Int,0≤i→i≤12→i.natAbs.log2 < 1920:=fun i h0 h1=>by
   have h2:i.natAbs≤12:=by omega
   exact Nat.lt_of_le_of_lt (Nat.log2_le_self _) (by omega)
  refine ⟨rfl,?_⟩
  rcases hS with hS | hS
  ·refine .inl ⟨_,rfl,a,rfl,⟨_,hS⟩,?_⟩
   have wk:=Walk.lst (K:=K) hS
   rw [List.length_map] at wk
   refine block_map wk (by omega) rfl (fun k=>.str (numT (ns.getD k 0))) (fun k H2 Q' hk s2 q'=>?_) (fun D H2 hD s2 hDl=>fin D H2 s2 hDl)
   obtain ⟨e,h0,h1⟩:=stp k hk
   rw [e]
   exact ⟨_,rfl,_,rfl,lg _ h0 h1,q' _ (Same.refl _)⟩
  ·refine .inr ⟨_,rfl,a,rfl,⟨_,hS⟩,?_⟩
   have wk:=Walk.tup (K:=K) hS
   rw [List.length_map] at wk
   refine block_map wk (by omega) rfl (fun k=>.str (numT (ns.getD k 0))) (fun k H2 Q' hk s2 q'=>?_) (fun D H2 hD s2 hDl=>fin D H2 s2 hDl)
   obtain ⟨e,h0,h1⟩:=stp k hk
   rw [e]
   exact ⟨_,rfl,_,rfl,lg _ h0 h1,q' _ (Same.refl _)⟩
end
end My
namespace My
open PySem L2 PyProof.Rows
section
variable {P:Program}{w:World}{K:PySem.W.Frag}{mg:Str→Option Value}{base:Heap}
end
end My
namespace My
open PySem L2 PyProof.Rows
theorem lineT_len {ns:List Int} (hl:ns.length≤12) (hn:∀ n∈ns,0≤n∧n≤12):(lineT ns).length≤36:=by
 have h1:=StrLaws.join_length_le " " (ns.map numT)
 have h2:=sum_len (ts:=ns.map numT) (m:=2) fun t ht=>by
  obtain ⟨n,hm,rfl⟩:=List.mem_map.mp ht
  exact numT_len (hn n hm).1 (hn n hm).2
 have e:(" " : Str).length=1:=by decide +kernel
 rw [e] at h1
 rw [List.length_map] at h1 h2
 unfold lineT
 omega
end My
namespace L2
open PySem PySem.Spec PyProof.Rows
end L2
namespace My
open PySem L2 PyProof.Rows
theorem paired_takeN {α β:Type}{F:α→β→Prop}:∀ {l:List α}{m:List β},Paired F l m→∀ n,Paired F (l.take n) (m.take n)
 | _,_,.nil,n=>by rw [List.take_nil,List.take_nil];exact .nil
 | _,_,.cons _ _,0=>.nil
 | _,_,.cons h t,n+1=>.cons h (paired_takeN t n)
theorem paired_dropN {α β:Type}{F:α→β→Prop}:∀ {l:List α}{m:List β},Paired F l m→∀ n,Paired F (l.drop n) (m.drop n)
 | _,_,.nil,n=>by rw [List.drop_nil,List.drop_nil];exact .nil
 | _,_,.cons h t,0=>.cons h t
 | _,_,.cons _ t,n+1=>paired_dropN t n
theorem flat_lenN {n:Nat}:∀ {ts:List Tab},(∀ t∈ts,t.length=n)→ts.flatten.length=ts.length * n
 | [],_=>by simp
 | t :: ts,h=>by
  rw [List.flatten_cons,List.length_append,h t List.mem_cons_self,flat_lenN fun x hx=>h x (List.mem_cons_of_mem _ hx),List.length_cons,Nat.add_mul,Nat.one_mul,Nat.add_comm]
def GoodL (ns:List Int):Prop:=ns≠[]∧ns.length≤12∧∀ n∈ns,0≤n∧n≤12
def noteL (b:Int) (ts:List Tab):List (List Int):=[b,(nst ts:Int),(ts.length:Int)] :: ts.flatten
def noteT (b:Int) (ts:List Tab):Str:=Str.join "\n" ((noteL b ts).map lineT)
theorem good_head {b:Int}{ts:List Tab} (o:Ok b ts):GoodL [b,(nst ts:Int),(ts.length:Int)]:=by
 have:=o.b1
 have:=o.b2
 have:=o.n2
 have:=o.t2
 refine ⟨by simp,by simp,fun n hn=>?_⟩
 rcases List.mem_cons.mp hn with rfl | hn
 ·omega
 rcases List.mem_cons.mp hn with rfl | hn
 ·omega
 rcases List.mem_cons.mp hn with rfl | hn
 ·omega
 cases hn
theorem good_row {b:Int}{ts:List Tab} (o:Ok b ts) {t:Tab} (ht:t∈ts) {r:List Int} (hr:r∈t):GoodL r:=by
 have h1:=o.figs t ht r hr
 have:=o.b1
 have:=o.b2
 have:=o.n2
 refine ⟨fun z=>?_,by omega,fun n hn=>?_⟩
 ·rw [z] at h1
  simp at h1
  omega
 ·have:=o.ents t ht r hr n hn
  omega
theorem good_note {b:Int}{ts:List Tab} (o:Ok b ts):∀ r∈noteL b ts,GoodL r:=by
 intro r hr
 rcases List.mem_cons.mp hr with rfl | hr
 ·exact good_head o
 ·obtain ⟨t,ht,h⟩:=List.mem_flatten.mp hr
  exact good_row o ht h
theorem flat_some {b:Int}{ts:List Tab} (o:Ok b ts) (i:Nat):(ts.take i).flatten.length≤72:=by
 have h1:=flat_lenN (n:=nst ts) (ts:=ts.take i) fun x hx=>o.rows x (List.mem_of_mem_take hx)
 have h2:=Nat.mul_le_mul (show (ts.take i).length≤6 by have:=o.t2;rw [List.length_take];omega) o.n2
 omega
theorem note_len {b:Int}{ts:List Tab} (o:Ok b ts):(noteL b ts).length≤73:=by
 have h:=flat_some o ts.length
 rw [List.take_length] at h
 unfold noteL
 rw [List.length_cons]
 omega
theorem nl_len:("\n" : Str).length=1:=by decide +kernel
theorem lines_sum {L:List (List Int)} (hg:∀ r∈L,GoodL r):((L.map lineT).map (·.length)).sum≤L.length * 36:=by
 have h2:=sum_len (ts:=L.map lineT) (m:=36) fun t ht=>by
  obtain ⟨r,hm,rfl⟩:=List.mem_map.mp ht
  exact lineT_len (hg r hm).2.1 (hg r hm).2.2
 rw [List.length_map] at h2
 exact h2
def spShown:Sp:=fun vs H Q _=>∃ (v:V) (ts:List Tab) (b:Int),vs=[v]∧SchAt H v b ts∧Ok b ts∧∀ H',Same H H'→Q (.str (noteT b ts)) H'
section
variable {P:Program}{w:World}{K:PySem.W.Frag}{mg:Str→Option Value}{base:Heap}
abbrev s_shown:Stmt:=top 59
theorem sc_shown:FnScope ["scheme","tables","lines","table"] ["scheme"] (defScope s_shown):=fS
theorem ok_shown {f:Addr}{fd:FuncData} (F:Fun K "shown" "shown" s_shown f fd) (B:Blt mg)  (h_check_scheme:Has P w K mg base "check_scheme" 5 ["scheme"] spCheck) (h_line_of:Has P w K mg base "line_of" 1 ["numbers"] (spLine K)) :
  FnOk P w K mg base CX0 6 f fd ["scheme"] spShown:=by
 refine F.ok sc_shown (fun vs H Q E h=>?_) (fun cdv A outer s H vs Q E hr h=>?_)
 ·obtain ⟨_,_,_,rfl,_⟩:=h
  rfl
 ·obtain ⟨v,ts,b,rfl,hC,ok,q⟩:=h
  have nd:=sc_shown.nd
  have t1:=ok.t1
  have t2:=ok.t2
  have n2:=ok.n2
  refine ⟨_,(pss_cons (ps_expr (pe_fn h_check_scheme (hm hr) (pa_cons (pv 0) pa_nil)))
   (pss_cons (ps_set (i:=1) nd rfl (Or.inl rfl) (pe_ix ix_tup (pv 0) pe_int (fun _ _=>rfl)))
   (pss_cons (ps_set (i:=2) nd rfl (Or.inl rfl) (pe_lst (pa_cons (pe_fn h_line_of (hm hr) (pa_cons (pe_lst (pa_cons (pe_ix ix_tup (pv 0) pe_int (fun _ _=>rfl)) (pa_cons (pe_callB call_len_seq rfl B.len PySem.boot_len (pa_cons (pe_ix ix_tup (pv 1) pe_int (fun _ _=>rfl)) pa_nil)) (pa_cons (pe_callB call_len_seq rfl B.len PySem.boot_len (pa_cons (pv 1) pa_nil)) pa_nil)))) pa_nil)) pa_nil)))
   (pss_cons (ps_for PassesOwn.never rfl (pi_tup (pv 1)) (pg_name (i:=3) nd rfl (Or.inl rfl)) (pss_one (ps_expr (pe_bm PySem.F.plainAttrs_list PySem.F.slot_list_extend PySem.F.type_list_extend mt_extend (pv 2) (pa_cons (pe_comp (N:=["row"]) (js:=[none]) rfl rfl (pi_tup (pv 3)) (fun _ _ _ _=>(pg_name (i:=0) (ndOf (N:=["row"]) (by decide +kernel)) rfl (Or.inl rfl))) (fun _ _ _ _=>pts_nil) (fun _ _ _ _=>(pe_fn h_line_of (hm hr) (pa_cons (pv 0) pa_nil)))) pa_nil)))))
   (pss_one (ps_ret (pe_bm PySem.F.plainAttrs_str PySem.F.slot_str_join PySem.F.type_str_join mt_join pe_str (pa_cons (pv 2) pa_nil)))))))),?_⟩
  refine ⟨_,rfl,v,ts,b,rfl,hC,ok,fun H1 s1=>?_⟩
  obtain ⟨a0,vT,rfl,ha0,a1,vts,rfl,ha1,pT⟩:=hC.same s1
  have el:=paired_length pT
  have e0:ts[0]? = some (ts.headD []):=by
   cases ts with
   | nil=>simp at t1
   | cons t r=>rfl
  obtain ⟨x0,ex0,⟨a2,vrs,rfl,ha2,pR0⟩⟩:=paired_get pT 0 _ e0
  have hn0:vrs.length=nst ts:=paired_length pR0
  refine ⟨_,rfl,a0,_,1,_,rfl,rfl,SqT.of ha0,rfl,?_⟩
  refine ⟨_,rfl,a0,_,0,_,rfl,rfl,SqT.of ha0,rfl,_,rfl,a1,vts,0,_,rfl,rfl,SqT.of ha1,atI_nat (j:=0) ex0,a2,vrs,rfl,.inr (SqT.of ha2),_,rfl,a1,vts,rfl,.inr (SqT.of ha1),zl,fun lA hlA=>?_⟩
  rw [hn0,el]
  have uA:=Same.new (o:=HO.lst ([b,(nst ts:Int),(ts.length:Int)].map V.int)) hlA
  refine ⟨lA,[b,(nst ts:Int),(ts.length:Int)],rfl,.inl (SqL.of upd_same),(good_head ok).2.1,(good_head ok).2.2,fun H2 s2=>?_⟩
  refine ⟨zl,fun lL hlL=>?_⟩
  have s12:Same H1 H2:=uA.trans s2
  have ha1':=s12 _ _ ha1
  have uL:=Same.new (o:=HO.lst [V.str (lineT [b,(nst ts:Int),(ts.length:Int)])]) hlL
  obtain ⟨I1,hI1⟩:∃ I1:Nat→L2.St→Hp→Prop,∀ i σ H4,I1 i σ H4↔∃ o3,σ=[some (.ref a0),some (.ref a1),some (.ref lL),o3]∧Same H2 H4∧H4 lL=some (.lst ((([b,(nst ts:Int),(ts.length:Int)] :: (ts.take i).flatten).map lineT).map V.str)):=⟨_,fun _ _ _=>Iff.rfl⟩
  refine ⟨_,rfl,a1,rfl,⟨_,SqT.of (uL _ _ ha1')⟩,for_tup (K:=K) (a:=a1) (xs:=vts) I1 ((hI1 _ _ _).2 ⟨_,rfl,uL,upd_same⟩) (fun i σ H4 _ zz=>by
   obtain ⟨_,_,s4,_⟩:=(hI1 _ _ _).1 zz
   exact SqT.of (s4 _ _ ha1')) ?_ ?_⟩
  ·intro i y σ H4 hi zz
   obtain ⟨o3,rfl,s4,hL4⟩:=(hI1 _ _ _).1 zz
   clear zz
   obtain ⟨t,et,hy⟩:=paired_getL pT i _ hi
   obtain ⟨aT,vr,rfl,hat,pr⟩:=hy.same (s12.trans s4)
   have htm:=List.mem_of_getElem? et
   have ert:=paired_length pr
   have hrl:=ok.rows t htm
   have wk:=Walk.tup (K:=K) (SqT.of hat)
   rw [ert] at wk
   refine ⟨_,rfl,.inl ⟨rfl,_,SqL.of hL4⟩,_,rfl,aT,rfl,⟨_,SqT.of hat⟩,?_⟩
   refine block_map wk (by omega) rfl (fun k=>.str (lineT (t.getD k []))) (fun k H5 Q' hk s5 q'=>?_) (fun D H5 hD s5 hDl=>?_)
   ·obtain ⟨r',er'⟩:∃ r',t[k]? = some r':=⟨_,List.getElem?_eq_getElem hk⟩
    obtain ⟨x,ex,hx⟩:=paired_get pr k _ er'
    have ed:vr.getD k .non=x:=by rw [List.getD_eq_getElem?_getD,ex];rfl
    have ed':t.getD k []=r':=by rw [List.getD_eq_getElem?_getD,er'];rfl
    obtain ⟨ar,rfl,har⟩:=hx.same s5
    have hg:=good_row ok htm (List.mem_of_getElem? er')
    rw [ed]
    rw [ed'] at q'
    exact ⟨_,rfl,ar,r',rfl,.inr (SqT.of har),hg.2.1,hg.2.2,fun H' s'=>q' H' s'⟩
   ·rw [range_map_getD t [] (fun r=>V.str (lineT r))] at hDl
    have hfs:=flat_some ok i
    refine ⟨lL,D,_,_,rfl,rfl,s5 _ _ hL4,hDl,?_,(hI1 _ _ _).2 ⟨_,rfl,(s4.trans s5).put hlL,?_⟩⟩
    ·rw [List.length_map,List.length_map,List.length_map,List.length_cons]
     exact Nat.le_of_lt (small1000 (by omega))
    ·rw [upd_same,take_succ_get et,List.flatten_append]
     simp [List.map_append,Function.comp_def]
  ·intro σ H4 zz
   obtain ⟨o3,rfl,s4,hL4⟩:=(hI1 _ _ _).1 zz
   rw [el,List.take_length] at hL4
   refine ⟨rfl,_,rfl,"\n",lL,(noteL b ts).map lineT,rfl,rfl,SqL.of hL4,?_,q _ ((s1.trans s12).trans s4)⟩
   have h1:=lines_sum (good_note ok)
   have h2:=note_len ok
   rw [nl_len,List.length_map]
   omega
end
end My
namespace L2
open PySem PySem.Spec PyProof.Rows
def tStop (t:TS):TS:=fun D σ H=>t { D with nx:=fun _ _=>False } σ H
theorem pss_stop {X:Cx}{st:Stmt}{rest:List Stmt}{t:TS} (h1:PS X st t):PSs X (st :: rest) (tStop t):=by
 intro pins s σ H D I h
 refine wpAny_execs_cons (thn (h1 pins s σ H _ I h) fun f s1 q=>?_)
 cases f with
 | next =>
  obtain ⟨_,_,_,q⟩:=q
  exact q.elim
 | ret v=>exact q
 | brk=>exact q
 | cont=>exact q
theorem own_ofX {P:Program}{w:World}{K:PySem.W.Frag}{mg:Str→Option Value}{base:Heap}{N:List Str}{qual:Str}{scope:Scope}{f:Addr}{cd:Value}{A:Around}{outer:List Env}{s0:Shared}{H0:Hp}{E:XK} :
  PassesOwn (model P w) (cxOf (CXR P w) P w K mg base N qual scope f cd A outer s0 H0 E).A (cxOf (CXR P w) P w K mg base N qual scope f cd A outer s0 H0 E).env (cxOf (CXR P w) P w K mg base N qual scope f cd A outer s0 H0 E).xe:=by
 passes_own
theorem Def.h2 {P:Program}{w:World}{K:PySem.W.Frag}{h base:Heap}{mg:Str→Option Value}{x:Str}{st:Stmt}{f:Addr}{fd:FuncData}{ps:List Str}{k:Nat}{sp:Sp} (d:L2.Def K x st f fd) (X:K.In h) (G:h.Ns mainGlobals mg) (ok:FnOk P w K mg base CX0 k f fd ps sp) (hb:Binds K fd ps []):Has P w K mg base x k ps sp:=⟨f,fd,PySem.W.mg_of X G d.a,d.F.kp,hb,ok⟩
theorem Def.hX {P:Program}{w:World}{K:PySem.W.Frag}{h base:Heap}{mg:Str→Option Value}{x:Str}{st:Stmt}{f:Addr}{fd:FuncData}{ps:List Str}{k:Nat}{sp:Sp} (d:L2.Def K x st f fd) (X:K.In h) (G:h.Ns mainGlobals mg) (ok:FnOk P w K mg base (CXR P w) k f fd ps sp) (hb:Binds K fd ps []):HasX P w K mg base x k ps sp:=⟨f,fd,PySem.W.mg_of X G d.a,d.F.kp,hb,ok⟩
def spOr (a b:Sp):Sp:=fun vs H Q E=>a vs H Q E∨b vs H Q E
theorem FnOk.or {P:Program}{w:World}{K:PySem.W.Frag}{mg:Str→Option Value}{base:Heap}{CX:CXT}{k:Nat}{f:Addr}{fd:FuncData}{ps:List Str}{a b:Sp} (F:FnOk P w K mg base CX k f fd ps a) (G:FnOk P w K mg base CX k f fd ps b):FnOk P w K mg base CX k f fd ps (spOr a b) :=
 ⟨fun vs H Q E h=>h.elim (F.len vs H Q E) (G.len vs H Q E),fun A outer s H args us vs Q E hr e hb hv h=>h.elim (F.run A outer s H args us vs Q E hr e hb hv) (G.run A outer s H args us vs Q E hr e hb hv)⟩
end L2
namespace My
open PySem L2 PyProof.Rows
def NoV (mg:Str→Option Value) (c:Str) (E:XK):Prop:=∀ C H',mg c=some (.ref C)→E (.ref C) none H'
def Small (ts:List Tab):Prop:=ts.length≤1000∧∀ t∈ts,t.length≤1000∧∀ r∈t,r.length≤1000
def NoKd (s:Str):Prop:=(PySem.Spec.lookup (.str s) (tabD WD)).isSome=false
def spCheckX (mg:Str→Option Value):Sp:=fun vs H Q E=>∃ (v:V) (ts:List Tab) (b:Int),vs=[v]∧SchAt H v b ts∧Small ts∧(Ok b ts→∀ H',Same H H'→Q .non H')∧(¬Ok b ts→NoV mg "NoScheme" E)
def spFigsX (K:PySem.W.Frag) (mg:Str→Option Value):Sp:=fun vs H Q E=>∃ (v:V) (ts:List Tab) (b:Int) (a:Addr) (fs:List Int),vs=[v,.ref a]∧SchAt H v b ts∧SqL K H a (fs.map V.int)∧(figsIn b fs→Q .non H)∧(¬figsIn b fs→NoV mg "NoFigure" E)
def spKindX (mg:Str→Option Value):Sp:=fun vs H Q E=>∃ s:Str,vs=[.str s]∧((∃ k,s=kst k)→Q .non H)∧(NoKd s→NoV mg "NoKind" E)∧((∃ k,s=kst k)∨NoKd s)
def spSpotB (K:PySem.W.Frag) (mg:Str→Option Value):Sp:=fun vs H _ E=>∃ (v:V) (ts:List Tab) (b:Int) (a:Addr) (fs:List Int),vs=[v,.ref a]∧SchAt H v b ts∧Small ts∧SqL K H a (fs.map V.int) ∧
 (¬Ok b ts→NoV mg "NoScheme" E)∧(Ok b ts→¬figsIn b fs∧NoV mg "NoFigure" E)
def spSchB (n:Nat) (mg:Str→Option Value):Sp:=fun vs H _ E=>∃ (v:V) (us:List V) (ts:List Tab) (b:Int),vs=v :: us∧us.length=n∧SchAt H v b ts∧Small ts∧¬Ok b ts∧NoV mg "NoScheme" E
def spSlipsB (K:PySem.W.Frag) (mg:Str→Option Value):Sp:=fun vs H _ E=>∃ (v:V) (s:Str) (a:Addr) (ts:List Tab) (b:Int) (fs:List Int),vs=[v,.str s,.ref a]∧SchAt H v b ts∧Small ts∧SqL K H a (fs.map V.int) ∧
 (¬Ok b ts→NoV mg "NoScheme" E)∧(Ok b ts→(NoKd s→NoV mg "NoKind" E)∧((∃ k,s=kst k)∨NoKd s)∧((∃ k,s=kst k)→¬figsIn b fs∧NoV mg "NoFigure" E))
def spKdB (n:Nat) (mg:Str→Option Value):Sp:=fun vs H _ E=>∃ (v:V) (s:Str) (us:List V) (ts:List Tab) (b:Int),vs=v :: .str s :: us∧us.length=n∧SchAt H v b ts∧Small ts ∧
 (¬Ok b ts→NoV mg "NoScheme" E)∧(Ok b ts→NoKd s∧NoV mg "NoKind" E)
def spPairB (mg:Str→Option Value):Sp:=fun vs H _ E=>∃ (v u:V) (ts us:List Tab) (b b':Int),vs=[v,u]∧SchAt H v b ts∧Small ts∧SchAt H u b' us∧Small us∧(Ok b ts→¬Ok b' us)∧NoV mg "NoScheme" E
section
variable {P:Program}{w:World}{K:PySem.W.Frag}{mg:Str→Option Value}{base:Heap}
theorem ok_checkX {f:Addr}{fd:FuncData} (F:Fun K "check_scheme" "check_scheme" sCheck f fd) (Nm:Nums mg) (Ea:ErrsA K mg) (h1:Has P w K mg base "is_tuple_of" 1 ["value","least","most"] spTupOf) (h2:Has P w K mg base "is_whole" 1 ["value","least","most"] spWhole)
  (h3:Has P w K mg base "are_tables" 4 ["tables","base"] spTabs):FnOk P w K mg base (CXR P w) 5 f fd ["scheme"] (spCheckX mg):=by
 refine F.okX scCheck (fun vs H Q E h=>?_) (fun cdv A outer s H vs Q E hr h L=>?_)
 ·obtain ⟨_,_,_,rfl,_⟩:=h
  rfl
 ·obtain ⟨v,ts,b,rfl,⟨a,wv,rfl,ha,hT⟩,⟨l1,l2⟩,q,qE⟩:=h
  obtain ⟨t2,m2⟩:=Nm.lb
  obtain ⟨t10,m10⟩:=Nm.mb
  obtain ⟨_,c_NoScheme,_,_,_,_,_,_,m_NoScheme,_,_,_,_,_,_,_,e_NoScheme,_⟩:=Ea.at'
  have x_NoScheme:=e_NoScheme.exc
  have r1:Room 1 _:=hr.mono (by decide)
  refine ⟨_,pss_cons (ps_if (pt_not (pt_val (pe_fn h1 r1 (pa_cons (pv 0) (pa_cons pe_int (pa_cons pe_int pa_nil)))))) (pss_one (ps_raise L rfl rfl m_NoScheme x_NoScheme (pa_cons pe_str pa_nil))) pss_nil)
   (pss_cons (ps_if (pt_not (pt_val (pe_fn h2 r1 (pa_cons (pe_ix ix_tup (pv 0) pe_int (fun _ _=>rfl)) (pa_cons (pe_glob (v:=.int 2) rfl m2 ⟨_,rfl⟩) (pa_cons (pe_glob (v:=.int 10) rfl m10 ⟨_,rfl⟩) pa_nil)))))) (pss_one (ps_raise L rfl rfl m_NoScheme x_NoScheme (pa_cons pe_str pa_nil))) pss_nil)
   (pss_one (ps_if (pt_not (pt_val (pe_fn h3 hr (pa_cons (pe_ix ix_tup (pv 0) pe_int (fun _ _=>rfl)) (pa_cons (pe_ix ix_tup (pv 0) pe_int (fun _ _=>rfl)) pa_nil))))) (pss_one (ps_raise L rfl rfl m_NoScheme x_NoScheme (pa_cons pe_str pa_nil))) pss_nil))),?_⟩
  refine ⟨_,rfl,a,_,2,2,rfl,ha,_,rfl,iteF ?_⟩
  refine ⟨_,rfl,a,_,0,_,rfl,rfl,SqT.of ha,rfl,b,2,10,rfl,_,rfl,ite2 (fun c=>?_) (fun c=>?_)⟩
  ·refine ⟨zl,qE (fun ok=>?_) _ _ m_NoScheme⟩
   have:=wholeB_iff.mpr ⟨ok.b1,ok.b2⟩
   rw [this] at c
   cases c
  ·have c':wholeB b 2 10=true:=by simpa using c
   refine ⟨_,rfl,a,_,1,_,rfl,rfl,SqT.of ha,rfl,_,rfl,a,_,0,_,rfl,rfl,SqT.of ha,rfl,wv,ts,b,rfl,hT,l1,l2,fun H' s'=>⟨_,rfl,ite2 (fun c2=>?_) (fun c2=>?_)⟩⟩
   ·refine ⟨zl,qE (fun ok=>?_) _ _ m_NoScheme⟩
    have:=schB_iff.mpr ok
    unfold schB at this
    rw [c',Bool.true_and] at this
    rw [this] at c2
    cases c2
   ·refine q (schB_iff.mp ?_) H' s'
    unfold schB
    rw [c',Bool.true_and]
    simpa using c2
theorem ok_figsX {f:Addr}{fd:FuncData} (F:Fun K "check_figures" "check_figures" sFigs f fd) (Ea:ErrsA K mg) (h2:Has P w K mg base "is_whole" 1 ["value","least","most"] spWhole):FnOk P w K mg base (CXR P w) 2 f fd ["scheme","figures"] (spFigsX K mg):=by
 refine F.okX scFigs (fun vs H Q E h=>?_) (fun cdv A outer s H vs Q E hr h L=>?_)
 ·obtain ⟨_,_,_,_,_,rfl,_⟩:=h
  rfl
 ·obtain ⟨v,ts,b,a,fs,rfl,⟨a0,wv,rfl,ha0,hT⟩,hS,q,qE⟩:=h
  obtain ⟨_,_,_,_,_,c_NoFigure,_,_,_,_,_,_,m_NoFigure,_,_,_,_,_,_,_,e_NoFigure,_⟩:=Ea.at'
  have x_NoFigure:=e_NoFigure.exc
  refine ⟨_,pss_one (ps_for own_ofX rfl (pi_list (pv 1)) (pg_name (i:=2) scFigs.nd rfl (Or.inl rfl))
   (pss_one (ps_if (pt_not (pt_val (pe_fn h2 hr (pa_cons (pv 2) (pa_cons pe_int (pa_cons (pe_op op_sub (pe_ix ix_tup (pv 0) pe_int (fun _ _=>rfl)) pe_int) pa_nil)))))) (pss_one (ps_raise L rfl rfl m_NoFigure x_NoFigure (pa_cons pe_str pa_nil))) pss_nil))),?_⟩
  refine ⟨_,rfl,a,rfl,⟨_,hS⟩,for_list (K:=K) (a:=a) (xs:=fs.map V.int) (fun i σ H2=>(∃ x,σ=[some (.ref a0),some (.ref a),x])∧H2=H∧figsIn b (fs.take i)) ⟨⟨_,rfl⟩,rfl,fun g hg=>by simp at hg⟩ (fun i σ H2 _ z=>z.2.1 ▸ hS) ?_ ?_⟩
  ·rintro i y σ H2 hi ⟨⟨x,rfl⟩,rfl,hf⟩
   obtain ⟨z,ez,rfl⟩:=get_ints hi
   refine ⟨_,rfl,_,rfl,a0,_,0,_,rfl,rfl,SqT.of ha0,rfl,_,_,rfl,rfl,z,0,b-1,rfl,_,rfl,ite2 (fun c=>?_) (fun c=>?_)⟩
   ·refine ⟨zl,qE (fun ok=>?_) _ _ m_NoFigure⟩
    have hz:=ok z (List.mem_of_getElem? ez)
    rw [wholeB_iff.mpr ⟨hz.1,by omega⟩] at c
    cases c
   ·have c':wholeB z 0 (b-1)=true:=by simpa using c
    have c2:=wholeB_iff.mp c'
    refine ⟨⟨_,rfl⟩,rfl,fun g hg=>?_⟩
    rw [take_succ_get ez] at hg
    rcases List.mem_append.mp hg with hg | hg
    ·exact hf g hg
    ·rw [List.mem_singleton.mp hg]
     exact ⟨c2.1,by omega⟩
  ·rintro σ H2 ⟨_,rfl,hf⟩
   rw [List.length_map,List.take_length] at hf
   exact q hf
theorem ok_kindX {f:Addr}{fd:FuncData} (F:Fun K "check_kind" "check_kind" s_check_kind f fd) (Ea:ErrsA K mg) (Wd:WidthsAt P w K mg):FnOk P w K mg base (CXR P w) 1 f fd ["kind"] (spKindX mg):=by
 refine F.okX sc_check_kind (fun vs H Q E h=>?_) (fun cdv A outer s H vs Q E hr h L=>?_)
 ·obtain ⟨_,rfl,_⟩:=h
  rfl
 ·obtain ⟨z,rfl,q,qE,al⟩:=h
  obtain ⟨_,_,_,_,c_NoKind,_,_,_,_,_,_,m_NoKind,_,_,_,_,_,_,_,e_NoKind,_⟩:=Ea.at'
  have x_NoKind:=e_NoKind.exc
  obtain ⟨aW,mW,T⟩:=Wd.at'
  refine ⟨_,pss_one (ps_if (pt_cmpR op_notin_tab (pv 0) (pe_glob (v:=.ref aW) rfl mW rfl) rfl) (pss_one (ps_raise L rfl rfl m_NoKind x_NoKind (pa_cons pe_str pa_nil))) pss_nil),?_⟩
  refine ⟨_,rfl,_,aW,WD,rfl,rfl,T,_,rfl,?_⟩
  rcases al with ⟨k,rfl⟩ | nk
  ·rw [wd_look]
   exact iteF (q ⟨k,rfl⟩)
  ·rw [show (PySem.Spec.lookup (.str z) (tabD WD)).isSome=false from nk]
   exact iteT ⟨zl,qE nk _ _ m_NoKind⟩
theorem ok_spotB {f:Addr}{fd:FuncData} (F:Fun K "spot_after" "spot_after" sSpot f fd) (h1:HasX P w K mg base "check_scheme" 5 ["scheme"] (spCheckX mg)) (h2:HasX P w K mg base "check_figures" 2 ["scheme","figures"] (spFigsX K mg)):FnOk P w K mg base (CXR P w) 6 f fd ["scheme","figures"] (spSpotB K mg):=by
 refine F.okX scSpot (fun vs H Q E h=>?_) (fun cdv A outer s H vs Q E hr h L=>?_)
 ·obtain ⟨_,_,_,_,_,rfl,_⟩:=h
  rfl
 ·obtain ⟨v,ts,b,a,fs,rfl,hC,sm,hS,qE,qF⟩:=h
  refine ⟨_,pss_cons (ps_expr (pe_fnX h1 (hm hr) L.pass (pa_cons (pv 0) pa_nil))) (pss_stop (ps_expr (pe_fnX h2 (hm hr) L.pass (pa_cons (pv 0) (pa_cons (pv 1) pa_nil))))),?_⟩
  refine ⟨_,rfl,v,ts,b,rfl,hC,sm,fun ok H1 s1=>?_,qE⟩
  exact ⟨_,rfl,_,rfl,v,ts,b,a,fs,rfl,hC.same s1,s1.seq hS,fun hf=>absurd hf (qF ok).1,fun _=>(qF ok).2⟩
theorem ok_stateB {f:Addr}{fd:FuncData} (F:Fun K "state_after" "state_after" sState f fd) (h1:HasX P w K mg base "spot_after" 6 ["scheme","figures"] (spSpotB K mg)):FnOk P w K mg base (CXR P w) 7 f fd ["scheme","figures"] (spSpotB K mg):=by
 refine F.okX scState (fun vs H Q E h=>?_) (fun cdv A outer s H vs Q E hr h L=>?_)
 ·obtain ⟨_,_,_,_,_,rfl,_⟩:=h
  rfl
 ·obtain ⟨v,ts,b,a,fs,rfl,hC,sm,hS,qE,qF⟩:=h
  refine ⟨_,pss_one (ps_ret (pe_ix ix_tup (pe_fnX h1 (hm hr) L.pass (pa_cons (pv 0) (pa_cons (pv 1) pa_nil))) pe_int (fun _ _=>rfl))),?_⟩
  exact ⟨_,rfl,_,rfl,v,ts,b,a,fs,rfl,hC,sm,hS,qE,qF⟩
theorem ok_goodB {f:Addr}{fd:FuncData} (F:Fun K "good" "good" sGood f fd) (h1:HasX P w K mg base "state_after" 7 ["scheme","figures"] (spSpotB K mg)):FnOk P w K mg base (CXR P w) 8 f fd ["scheme","figures"] (spSpotB K mg):=by
 refine F.okX scGood (fun vs H Q E h=>?_) (fun cdv A outer s H vs Q E hr h L=>?_)
 ·obtain ⟨_,_,_,_,_,rfl,_⟩:=h
  rfl
 ·obtain ⟨v,ts,b,a,fs,rfl,hC,sm,hS,qE,qF⟩:=h
  refine ⟨_,pss_one (ps_ret (pe_cmpR op_eq (pe_fnX h1 (hm hr) L.pass (pa_cons (pv 0) (pa_cons (pv 1) pa_nil))) pe_int (nomark _))),?_⟩
  exact ⟨_,rfl,_,rfl,v,ts,b,a,fs,rfl,hC,sm,hS,qE,qF⟩
theorem ok_checksB {f:Addr}{fd:FuncData} (F:Fun K "checks" "checks" sChecks f fd) (h1:HasX P w K mg base "spot_after" 6 ["scheme","figures"] (spSpotB K mg)):FnOk P w K mg base (CXR P w) 7 f fd ["scheme","figures"] (spSpotB K mg):=by
 refine F.okX scChecks (fun vs H Q E h=>?_) (fun cdv A outer s H vs Q E hr h L=>?_)
 ·obtain ⟨_,_,_,_,_,rfl,_⟩:=h
  rfl
 ·obtain ⟨v,ts,b,a,fs,rfl,hC,sm,hS,qE,qF⟩:=h
  refine ⟨_,pss_stop (ps_set (i:=2) scChecks.nd rfl (Or.inl rfl) (pe_fnX h1 (hm hr) L.pass (pa_cons (pv 0) (pa_cons (pv 1) pa_nil)))),?_⟩
  exact ⟨_,rfl,_,rfl,v,ts,b,a,fs,rfl,hC,sm,hS,qE,qF⟩
theorem ok_closingB {f:Addr}{fd:FuncData} (F:Fun K "closing" "closing" s_closing f fd) (h1:HasX P w K mg base "check_scheme" 5 ["scheme"] (spCheckX mg)):FnOk P w K mg base (CXR P w) 8 f fd ["scheme"] (spSchB 0 mg):=by
 refine F.okX sc_closing (fun vs H Q E h=>?_) (fun cdv A outer s H vs Q E hr h L=>?_)
 ·obtain ⟨_,us,_,_,rfl,hl,_⟩:=h
  show us.length+1=1
  omega
 ·obtain ⟨v,us,ts,b,rfl,hl,hC,sm,no,qE⟩:=h
  obtain rfl:us=[]:=List.length_eq_zero_iff.mp hl
  refine ⟨_,pss_stop (ps_expr (pe_fnX h1 (hm hr) L.pass (pa_cons (pv 0) pa_nil))),?_⟩
  exact ⟨_,rfl,v,ts,b,rfl,hC,sm,fun ok=>absurd ok no,fun _=>qE⟩
theorem ok_good_countB {f:Addr}{fd:FuncData} (F:Fun K "good_count" "good_count" s_good_count f fd) (h1:HasX P w K mg base "check_scheme" 5 ["scheme"] (spCheckX mg)):FnOk P w K mg base (CXR P w) 8 f fd ["scheme","length"] (spSchB 1 mg):=by
 refine F.okX sc_good_count (fun vs H Q E h=>?_) (fun cdv A outer s H vs Q E hr h L=>?_)
 ·obtain ⟨_,us,_,_,rfl,hl,_⟩:=h
  show us.length+1=2
  omega
 ·obtain ⟨v,us,ts,b,rfl,hl,hC,sm,no,qE⟩:=h
  obtain ⟨u,rfl⟩:∃ u,us=[u]:=List.length_eq_one_iff.mp hl
  refine ⟨_,pss_stop (ps_expr (pe_fnX h1 (hm hr) L.pass (pa_cons (pv 0) pa_nil))),?_⟩
  exact ⟨_,rfl,v,ts,b,rfl,hC,sm,fun ok=>absurd ok no,fun _=>qE⟩
theorem ok_shownB {f:Addr}{fd:FuncData} (F:Fun K "shown" "shown" s_shown f fd) (h1:HasX P w K mg base "check_scheme" 5 ["scheme"] (spCheckX mg)):FnOk P w K mg base (CXR P w) 6 f fd ["scheme"] (spSchB 0 mg):=by
 refine F.okX sc_shown (fun vs H Q E h=>?_) (fun cdv A outer s H vs Q E hr h L=>?_)
 ·obtain ⟨_,us,_,_,rfl,hl,_⟩:=h
  show us.length+1=1
  omega
 ·obtain ⟨v,us,ts,b,rfl,hl,hC,sm,no,qE⟩:=h
  obtain rfl:us=[]:=List.length_eq_zero_iff.mp hl
  refine ⟨_,pss_stop (ps_expr (pe_fnX h1 (hm hr) L.pass (pa_cons (pv 0) pa_nil))),?_⟩
  exact ⟨_,rfl,v,ts,b,rfl,hC,sm,fun ok=>absurd ok no,fun _=>qE⟩
theorem ok_slipsB {f:Addr}{fd:FuncData} (F:Fun K "slips" "slips" s_slips f fd) (h1:HasX P w K mg base "check_scheme" 5 ["scheme"] (spCheckX mg)) (h2:HasX P w K mg base "check_kind" 1 ["kind"] (spKindX mg)) (h3:HasX P w K mg base "check_figures" 2 ["scheme","figures"] (spFigsX K mg)):FnOk P w K mg base (CXR P w) 7 f fd ["scheme","kind","figures"] (spSlipsB K mg):=by
 refine F.okX sc_slips (fun vs H Q E h=>?_) (fun cdv A outer s H vs Q E hr h L=>?_)
 ·obtain ⟨_,_,_,_,_,_,rfl,_⟩:=h
  rfl
 ·obtain ⟨v,z,a,ts,b,fs,rfl,hC,sm,hS,qE,qR⟩:=h
  refine ⟨_,pss_cons (ps_expr (pe_fnX h1 (hm hr) L.pass (pa_cons (pv 0) pa_nil))) (pss_cons (ps_expr (pe_fnX h2 (hm hr) L.pass (pa_cons (pv 1) pa_nil))) (pss_stop (ps_expr (pe_fnX h3 (hm hr) L.pass (pa_cons (pv 0) (pa_cons (pv 2) pa_nil)))))),?_⟩
  refine ⟨_,rfl,v,ts,b,rfl,hC,sm,fun ok H1 s1=>?_,qE⟩
  obtain ⟨q1,q2,q3⟩:=qR ok
  refine ⟨_,rfl,z,rfl,fun ek=>?_,q1,q2⟩
  exact ⟨_,rfl,_,rfl,v,ts,b,a,fs,rfl,hC.same s1,s1.seq hS,fun hf=>absurd hf (q3 ek).1,fun _=>(q3 ek).2⟩
theorem ok_unseenB {f:Addr}{fd:FuncData} (F:Fun K "unseen" "unseen" s_unseen f fd) (h1:HasX P w K mg base "check_scheme" 5 ["scheme"] (spCheckX mg)) (h2:HasX P w K mg base "check_kind" 1 ["kind"] (spKindX mg)):FnOk P w K mg base (CXR P w) 8 f fd ["scheme","kind"] (spKdB 0 mg):=by
 refine F.okX sc_unseen (fun vs H Q E h=>?_) (fun cdv A outer s H vs Q E hr h L=>?_)
 ·obtain ⟨_,_,us,_,_,rfl,hl,_⟩:=h
  show us.length+1+1=2
  omega
 ·obtain ⟨v,z,us,ts,b,rfl,hl,hC,sm,qE,qR⟩:=h
  obtain rfl:us=[]:=List.length_eq_zero_iff.mp hl
  refine ⟨_,pss_cons (ps_expr (pe_fnX h1 (hm hr) L.pass (pa_cons (pv 0) pa_nil))) (pss_stop (ps_expr (pe_fnX h2 (hm hr) L.pass (pa_cons (pv 1) pa_nil)))),?_⟩
  refine ⟨_,rfl,v,ts,b,rfl,hC,sm,fun ok H1 s1=>?_,qE⟩
  refine ⟨_,rfl,z,rfl,fun ek=>?_,fun _=>(qR ok).2,.inr (qR ok).1⟩
  obtain ⟨k,rfl⟩:=ek
  have:=(qR ok).1
  unfold NoKd at this
  rw [wd_look] at this
  cases this
theorem ok_missedB {f:Addr}{fd:FuncData} (F:Fun K "missed" "missed" s_missed f fd) (h1:HasX P w K mg base "check_scheme" 5 ["scheme"] (spCheckX mg)) (h2:HasX P w K mg base "check_kind" 1 ["kind"] (spKindX mg)):FnOk P w K mg base (CXR P w) 8 f fd ["scheme","kind","length"] (spKdB 1 mg):=by
 refine F.okX sc_missed (fun vs H Q E h=>?_) (fun cdv A outer s H vs Q E hr h L=>?_)
 ·obtain ⟨_,_,us,_,_,rfl,hl,_⟩:=h
  show us.length+1+1=3
  omega
 ·obtain ⟨v,z,us,ts,b,rfl,hl,hC,sm,qE,qR⟩:=h
  obtain ⟨u,rfl⟩:∃ u,us=[u]:=List.length_eq_one_iff.mp hl
  refine ⟨_,pss_cons (ps_expr (pe_fnX h1 (hm hr) L.pass (pa_cons (pv 0) pa_nil))) (pss_stop (ps_expr (pe_fnX h2 (hm hr) L.pass (pa_cons (pv 1) pa_nil)))),?_⟩
  refine ⟨_,rfl,v,ts,b,rfl,hC,sm,fun ok H1 s1=>?_,qE⟩
  refine ⟨_,rfl,z,rfl,fun ek=>?_,fun _=>(qR ok).2,.inr (qR ok).1⟩
  obtain ⟨k,rfl⟩:=ek
  have:=(qR ok).1
  unfold NoKd at this
  rw [wd_look] at this
  cases this
theorem ok_pairB {f:Addr}{fd:FuncData} (F:Fun K "check_pair" "check_pair" s_check_pair f fd) (h1:HasX P w K mg base "check_scheme" 5 ["scheme"] (spCheckX mg)):FnOk P w K mg base (CXR P w) 6 f fd ["scheme","other"] (spPairB mg):=by
 refine F.okX sc_check_pair (fun vs H Q E h=>?_) (fun cdv A outer s H vs Q E hr h L=>?_)
 ·obtain ⟨_,_,_,_,_,_,rfl,_⟩:=h
  rfl
 ·obtain ⟨v,u,ts,us,b,b',rfl,hC,sm,hU,sm',no,qE⟩:=h
  refine ⟨_,pss_cons (ps_expr (pe_fnX h1 (hm hr) L.pass (pa_cons (pv 0) pa_nil))) (pss_stop (ps_expr (pe_fnX h1 (hm hr) L.pass (pa_cons (pv 1) pa_nil)))),?_⟩
  refine ⟨_,rfl,v,ts,b,rfl,hC,sm,fun ok H1 s1=>?_,fun _=>qE⟩
  exact ⟨_,rfl,u,us,b',rfl,hU.same s1,sm',fun ok'=>absurd ok' (no ok),fun _=>qE⟩
theorem ok_bothB {f:Addr}{fd:FuncData} (F:Fun K "both" "both" s_both f fd) (h1:HasX P w K mg base "check_pair" 6 ["scheme","other"] (spPairB mg)):FnOk P w K mg base (CXR P w) 7 f fd ["scheme","other"] (spPairB mg):=by
 refine F.okX sc_both (fun vs H Q E h=>?_) (fun cdv A outer s H vs Q E hr h L=>?_)
 ·obtain ⟨_,_,_,_,_,_,rfl,_⟩:=h
  rfl
 ·obtain ⟨v,u,ts,us,b,b',rfl,h⟩:=h
  refine ⟨_,pss_stop (ps_expr (pe_fnX h1 (hm hr) L.pass (pa_cons (pv 0) (pa_cons (pv 1) pa_nil)))),?_⟩
  exact ⟨_,rfl,_,rfl,v,u,ts,us,b,b',rfl,h⟩
theorem ok_partedB {f:Addr}{fd:FuncData} (F:Fun K "parted" "parted" s_parted f fd) (h1:HasX P w K mg base "check_pair" 6 ["scheme","other"] (spPairB mg)):FnOk P w K mg base (CXR P w) 8 f fd ["scheme","other"] (spPairB mg):=by
 refine F.okX sc_parted (fun vs H Q E h=>?_) (fun cdv A outer s H vs Q E hr h L=>?_)
 ·obtain ⟨_,_,_,_,_,_,rfl,_⟩:=h
  rfl
 ·obtain ⟨v,u,ts,us,b,b',rfl,h⟩:=h
  refine ⟨_,pss_stop (ps_expr (pe_fnX h1 (hm hr) L.pass (pa_cons (pv 0) (pa_cons (pv 1) pa_nil)))),?_⟩
  exact ⟨_,rfl,_,rfl,v,u,ts,us,b,b',rfl,h⟩
end
end My
namespace My
open PySem L2 PyProof.Rows
def KdOr (s:Str):Prop:=(∃ k,s=kst k)∨NoKd s
def spU2 (K:PySem.W.Frag) (mg:Str→Option Value):Sp:=fun vs H Q E=>∃ (v:V) (ts:List Tab) (b:Int) (a:Addr) (fs:List Int),vs=[v,.ref a]∧SchAt H v b ts∧Small ts∧SqL K H a (fs.map V.int) ∧
 (¬Ok b ts→NoV mg "NoScheme" E)∧(Ok b ts→¬figsIn b fs→NoV mg "NoFigure" E)∧(Ok b ts→figsIn b fs→∀ x H',Q x H')
def spU1 (mg:Str→Option Value):Sp:=fun vs H Q E=>∃ (v:V) (ts:List Tab) (b:Int),vs=[v]∧SchAt H v b ts∧Small ts∧(¬Ok b ts→NoV mg "NoScheme" E)∧(Ok b ts→∀ x H',Q x H')
def spUC (Pt:Addr) (qs:List (Pos×Str)) (mg:Str→Option Value):Sp:=fun vs H Q E=>∃ (v:V) (ts:List Tab) (b:Int),vs=[v]∧SchAt H v b ts∧Small ts∧TabSt H Pt qs∧(¬Ok b ts→NoV mg "NoScheme" E)∧(Ok b ts→∀ x H',Q x H')
def spUG (Pt:Addr) (qs:List (Pos×Str)) (mg:Str→Option Value):Sp:=fun vs H Q E=>∃ (v:V) (ts:List Tab) (b:Int),vs=[v,.int 2]∧SchAt H v b ts∧Small ts∧TabSt H Pt qs∧(¬Ok b ts→NoV mg "NoScheme" E)∧(Ok b ts→∀ x H',Q x H')
def spUL (K:PySem.W.Frag) (mg:Str→Option Value):Sp:=fun vs H Q E=>∃ (v:V) (s:Str) (a:Addr) (ts:List Tab) (b:Int) (fs:List Int),vs=[v,.str s,.ref a]∧SchAt H v b ts∧Small ts∧SqL K H a (fs.map V.int)∧fs.length≤10000∧KdOr s ∧
 (¬Ok b ts→NoV mg "NoScheme" E)∧(Ok b ts→NoKd s→NoV mg "NoKind" E)∧(Ok b ts→(∃ k,s=kst k)→¬figsIn b fs→NoV mg "NoFigure" E)∧(Ok b ts→(∃ k,s=kst k)→figsIn b fs→∀ x H',Q x H')
def spUU (Pt:Addr) (qs:List (Pos×Str)) (mg:Str→Option Value):Sp:=fun vs H Q E=>∃ (v:V) (s:Str) (ts:List Tab) (b:Int),vs=[v,.str s]∧SchAt H v b ts∧Small ts∧TabSt H Pt qs∧KdOr s ∧
 (¬Ok b ts→NoV mg "NoScheme" E)∧(Ok b ts→NoKd s→NoV mg "NoKind" E)∧(Ok b ts→(∃ k,s=kst k)→∀ x H',Q x H')
def spUM (Pt:Addr) (qs:List (Pos×Str)) (mg:Str→Option Value):Sp:=fun vs H Q E=>∃ (v:V) (s:Str) (ts:List Tab) (b:Int),vs=[v,.str s,.int 2]∧SchAt H v b ts∧Small ts∧TabSt H Pt qs∧KdOr s ∧
 (¬Ok b ts→NoV mg "NoScheme" E)∧(Ok b ts→NoKd s→NoV mg "NoKind" E)∧(Ok b ts→(∃ k,s=kst k)→∀ x H',Q x H')
def spUB (mg:Str→Option Value):Sp:=fun vs H Q E=>∃ (v u:V) (ts us:List Tab) (b b':Int),vs=[v,u]∧SchAt H v b ts∧Small ts∧SchAt H u b' us∧Small us∧(Ok b ts→Ok b' us→b=b'→Fits ts us) ∧
 (¬(Ok b ts∧Ok b' us)→NoV mg "NoScheme" E)∧(Ok b ts→Ok b' us→b≠b'→NoV mg "OtherBase" E)∧(Ok b ts→Ok b' us→b=b'→∀ x H',Q x H')
def spUP (Pt:Addr) (qs:List (Pos×Str)) (mg:Str→Option Value):Sp:=fun vs H Q E=>∃ (v u:V) (ts us:List Tab) (b b':Int),vs=[v,u]∧SchAt H v b ts∧Small ts∧SchAt H u b' us∧Small us∧TabSt H Pt qs ∧
 (¬(Ok b ts∧Ok b' us)→NoV mg "NoScheme" E)∧(Ok b ts→Ok b' us→b≠b'→NoV mg "OtherBase" E)∧(Ok b ts→Ok b' us→b=b'→∀ x H',Q x H')
section
variable {P:Program}{w:World}{K:PySem.W.Frag}{mg:Str→Option Value}{base:Heap}{f:Addr}{fd:FuncData}{ps:List Str}{k:Nat}{Pt:Addr}{qs:List (Pos×Str)}
theorem u2_of {sp:Sp} (hs:∀ v ts b a fs H Q E,SchAt H v b ts→Ok b ts→SqL K H a (fs.map V.int)→figsIn b fs→(∀ x H',Q x H')→sp [v,.ref a] H Q E) (G:FnOk P w K mg base CX0 k f fd ps sp) (B:FnOk P w K mg base (CXR P w) k f fd ps (spSpotB K mg)):FnOk P w K mg base (CXR P w) k f fd ps (spU2 K mg) :=
 (FnOk.or G.toX B).imp fun vs H Q E h=>by
  obtain ⟨v,ts,b,a,fs,rfl,hC,sm,hS,q1,q2,q3⟩:=h
  by_cases ok:Ok b ts
  ·by_cases hf:figsIn b fs
   ·exact .inl (hs v ts b a fs H Q E hC ok hS hf (q3 ok hf))
   ·exact .inr ⟨v,ts,b,a,fs,rfl,hC,sm,hS,fun no=>absurd ok no,fun _=>⟨hf,q2 ok hf⟩⟩
  ·exact .inr ⟨v,ts,b,a,fs,rfl,hC,sm,hS,q1,fun o=>absurd o ok⟩
theorem u_state (G:FnOk P w K mg base CX0 k f fd ps (spState K)) (B:FnOk P w K mg base (CXR P w) k f fd ps (spSpotB K mg)):FnOk P w K mg base (CXR P w) k f fd ps (spU2 K mg) :=
 u2_of (fun v ts b a fs H Q E hC ok hS hf q=>⟨v,ts,b,a,fs,rfl,hC,ok,hS,hf,fun H' _=>q _ H'⟩) G B
theorem u_good (G:FnOk P w K mg base CX0 k f fd ps (spGood K)) (B:FnOk P w K mg base (CXR P w) k f fd ps (spSpotB K mg)):FnOk P w K mg base (CXR P w) k f fd ps (spU2 K mg) :=
 u2_of (fun v ts b a fs H Q E hC ok hS hf q=>⟨v,ts,b,a,fs,rfl,hC,ok,hS,hf,fun H' _=>q _ H'⟩) G B
theorem u_checks (G:FnOk P w K mg base CX0 k f fd ps (spChecks K)) (B:FnOk P w K mg base (CXR P w) k f fd ps (spSpotB K mg)):FnOk P w K mg base (CXR P w) k f fd ps (spU2 K mg) :=
 u2_of (fun v ts b a fs H Q E hC ok hS hf q=>⟨v,ts,b,a,fs,rfl,hC,ok,hS,hf,fun D H' _ _ _=>q _ H'⟩) G B
theorem u_closing (G:FnOk P w K mg base CX0 k f fd ps (spClosing Pt qs)) (B:FnOk P w K mg base (CXR P w) k f fd ps (spSchB 0 mg)):FnOk P w K mg base (CXR P w) k f fd ps (spUC Pt qs mg) :=
 (FnOk.or G.toX B).imp fun vs H Q E h=>by
  obtain ⟨v,ts,b,rfl,hC,sm,T,q1,q2⟩:=h
  by_cases ok:Ok b ts
  ·exact .inl ⟨v,ts,b,rfl,hC,ok,T,fun H' _ _ _=>q2 ok _ H',fun D fs H' _ _ _ _ _ _ _ _=>q2 ok _ H'⟩
  ·exact .inr ⟨v,[],ts,b,rfl,rfl,hC,sm,ok,q1 ok⟩
theorem u_good_count (G:FnOk P w K mg base CX0 k f fd ps (spGCount Pt qs)) (B:FnOk P w K mg base (CXR P w) k f fd ps (spSchB 1 mg)):FnOk P w K mg base (CXR P w) k f fd ps (spUG Pt qs mg) :=
 (FnOk.or G.toX B).imp fun vs H Q E h=>by
  obtain ⟨v,ts,b,rfl,hC,sm,T,q1,q2⟩:=h
  by_cases ok:Ok b ts
  ·exact .inl ⟨v,ts,b,2,rfl,hC,ok,T,by omega,fun H' _ _=>q2 ok _ H'⟩
  ·exact .inr ⟨v,[.int 2],ts,b,rfl,rfl,hC,sm,ok,q1 ok⟩
theorem u_shown (G:FnOk P w K mg base CX0 k f fd ps spShown) (B:FnOk P w K mg base (CXR P w) k f fd ps (spSchB 0 mg)):FnOk P w K mg base (CXR P w) k f fd ps (spU1 mg) :=
 (FnOk.or G.toX B).imp fun vs H Q E h=>by
  obtain ⟨v,ts,b,rfl,hC,sm,q1,q2⟩:=h
  by_cases ok:Ok b ts
  ·exact .inl ⟨v,ts,b,rfl,hC,ok,fun H' _=>q2 ok _ H'⟩
  ·exact .inr ⟨v,[],ts,b,rfl,rfl,hC,sm,ok,q1 ok⟩
theorem u_slips (G:FnOk P w K mg base CX0 k f fd ps (spSlips K)) (B:FnOk P w K mg base (CXR P w) k f fd ps (spSlipsB K mg)):FnOk P w K mg base (CXR P w) k f fd ps (spUL K mg) :=
 (FnOk.or G.toX B).imp fun vs H Q E h=>by
  obtain ⟨v,s,a,ts,b,fs,rfl,hC,sm,hS,hl,al,q1,q2,q3,q4⟩:=h
  by_cases hg:Ok b ts∧(∃ k,s=kst k)∧figsIn b fs
  ·obtain ⟨ok,⟨kd,rfl⟩,hf⟩:=hg
   exact .inl ⟨v,ts,b,kd,a,fs,rfl,hC,ok,hS,hf,hl,fun D as H' _ _=>q4 ok ⟨kd,rfl⟩ hf _ H'⟩
  ·exact .inr ⟨v,s,a,ts,b,fs,rfl,hC,sm,hS,q1,fun ok=>⟨q2 ok,al,fun ek=>⟨fun hf=>hg ⟨ok,ek,hf⟩,q3 ok ek fun hf=>hg ⟨ok,ek,hf⟩⟩⟩⟩
theorem u_unseen (G:FnOk P w K mg base CX0 k f fd ps (spUnseen Pt qs)) (B:FnOk P w K mg base (CXR P w) k f fd ps (spKdB 0 mg)):FnOk P w K mg base (CXR P w) k f fd ps (spUU Pt qs mg) :=
 (FnOk.or G.toX B).imp fun vs H Q E h=>by
  obtain ⟨v,s,ts,b,rfl,hC,sm,T,al,q1,q2,q3⟩:=h
  by_cases ok:Ok b ts
  ·rcases al with ⟨kd,rfl⟩ | nk
   ·exact .inl ⟨v,ts,b,kd,rfl,hC,ok,T,fun H' _ _ _=>q3 ok ⟨kd,rfl⟩ _ H',fun t x y xs ys H' _ _ _ _ _ _ _ _ _ _ _ _=>q3 ok ⟨kd,rfl⟩ _ H'⟩
   ·exact .inr ⟨v,s,[],ts,b,rfl,rfl,hC,sm,fun no=>absurd ok no,fun _=>⟨nk,q2 ok nk⟩⟩
  ·exact .inr ⟨v,s,[],ts,b,rfl,rfl,hC,sm,q1,fun o=>absurd o ok⟩
theorem u_missed (G:FnOk P w K mg base CX0 k f fd ps (spMissed Pt qs)) (B:FnOk P w K mg base (CXR P w) k f fd ps (spKdB 1 mg)):FnOk P w K mg base (CXR P w) k f fd ps (spUM Pt qs mg) :=
 (FnOk.or G.toX B).imp fun vs H Q E h=>by
  obtain ⟨v,s,ts,b,rfl,hC,sm,T,al,q1,q2,q3⟩:=h
  by_cases ok:Ok b ts
  ·rcases al with ⟨kd,rfl⟩ | nk
   ·exact .inl ⟨v,ts,b,kd,2,rfl,hC,ok,T,by omega,fun H' _ _=>q3 ok ⟨kd,rfl⟩ _ H'⟩
   ·exact .inr ⟨v,s,[.int 2],ts,b,rfl,rfl,hC,sm,fun no=>absurd ok no,fun _=>⟨nk,q2 ok nk⟩⟩
  ·exact .inr ⟨v,s,[.int 2],ts,b,rfl,rfl,hC,sm,q1,fun o=>absurd o ok⟩
theorem u_both (G:FnOk P w K mg base (CXR P w) k f fd ps (spBoth mg)) (B:FnOk P w K mg base (CXR P w) k f fd ps (spPairB mg)):FnOk P w K mg base (CXR P w) k f fd ps (spUB mg) :=
 (FnOk.or G B).imp fun vs H Q E h=>by
  obtain ⟨v,u,ts,us,b,b',rfl,hC,sm,hU,sm',fit,q1,q2,q3⟩:=h
  by_cases ok:Ok b ts∧Ok b' us
  ·exact .inl ⟨v,u,ts,us,b,b',rfl,hC,ok.1,hU,ok.2,fun nb C H' mC _=>q2 ok.1 ok.2 nb C H' mC,fun eb=>⟨fun nf=>absurd (fit ok.1 ok.2 eb) nf,fun _ x H' _ _=>q3 ok.1 ok.2 eb x H'⟩⟩
  ·exact .inr ⟨v,u,ts,us,b,b',rfl,hC,sm,hU,sm',fun o o'=>ok ⟨o,o'⟩,q1 ok⟩
theorem u_parted (G:FnOk P w K mg base (CXR P w) k f fd ps (spParted Pt qs mg)) (B:FnOk P w K mg base (CXR P w) k f fd ps (spPairB mg)):FnOk P w K mg base (CXR P w) k f fd ps (spUP Pt qs mg) :=
 (FnOk.or G B).imp fun vs H Q E h=>by
  obtain ⟨v,u,ts,us,b,b',rfl,hC,sm,hU,sm',T,q1,q2,q3⟩:=h
  by_cases ok:Ok b ts∧Ok b' us
  ·exact .inl ⟨v,u,ts,us,b,b',rfl,hC,ok.1,hU,ok.2,T,fun nb C H' mC _=>q2 ok.1 ok.2 nb C H' mC,fun eb=>⟨fun H' _ _ _=>q3 ok.1 ok.2 eb _ H',fun D fs H' _ _ _ _ _ _ _ _=>q3 ok.1 ok.2 eb _ H'⟩⟩
  ·exact .inr ⟨v,u,ts,us,b,b',rfl,hC,sm,hU,sm',fun o o'=>ok ⟨o,o'⟩,q1 ok⟩
end
end My
namespace L2
open PySem PySem.Spec PyProof.Rows
theorem noFill_tuple_mulO:fillsNumberSlot (.type "tuple") "mul"=pure false :=
 PySem.fillsNumberSlot_seq (id:="tuple.__mul__") (r:=some (.builtin "tuple.__rmul__")) F.slot_tuple_mul.lookup (by decide +kernel) F.slot_tuple_rmul.lookup (by decide +kernel)
theorem repeat_tupleO:seqRepeat? (.type "tuple")=pure (some (.builtin "tuple.__mul__")):=by
 unfold seqRepeat?
 rw [PySem.seqSlot_of (T:="tuple") (name:="__mul__") (id:="tuple.__mul__") F.slot_tuple_mul.lookup (by decide +kernel),PySem.seqSlot_of (T:="tuple") (name:="__rmul__") (id:="tuple.__rmul__") F.slot_tuple_rmul.lookup (by decide +kernel)]
 rfl
theorem int_rmul_tupO (a:Int) (t:Tok) (l:Addr) (items:Array Value) (n:Nat) (dd:Option Addr) (sl:Array (Option Value)) :
  Meets (Builtin.«int.__rmul__» ⟨[.int a t,.ref l],[]⟩) (fun _ R s=>s.heap.get? l=some { cls:=.type "tuple",dict:=dd,data:=.seq items n,slots:=sl }∧R (.ok (.ret Value.notImplemented)) s) :=
 .of_wp fun prog w A R s h=>by obtain ⟨hp,g,d,tk,os⟩:=s;obtain ⟨hl,h⟩:=h;wp_walk;exact ⟨_,rfl,h⟩
theorem tuple_mulO (l:Addr) (items:Array Value) (n:Nat) (dd:Option Addr) (sl:Array (Option Value)) (x:Int) (u:Tok) (h0:items.isEmpty=false) (h1:2≤x) (h2:x < 2 ^ 63) (h3:items.size * x.toNat≤sizeLine) :
  Meets (Builtin.«tuple.__mul__» ⟨[.ref l,.int x u],[]⟩) (fun _ R s=>s.heap.get? l=some { cls:=.type "tuple",dict:=dd,data:=.seq items n,slots:=sl } ∧
   R (.ok (.ret (Value.ref s.heap.objs.size))) { s with heap:=s.heap.push { cls:=Value.type "tuple",data:=Data.seq (List.foldl (fun x1 x2=>x1++x2) #[] (List.replicate x.toNat items)) },toks:=s.toks }) :=
 .of_wp fun prog w A R s h=>by
  obtain ⟨hp,g,d,tk,os⟩:=s
  obtain ⟨hl,h⟩:=h
  have c0:¬(x < -(2 ^ 63)||x≥2 ^ 63)=true:=by
   rw [Bool.or_eq_true,decide_eq_true_eq,decide_eq_true_eq]
   omega
  have c1:¬(items.isEmpty||x == 1)=true:=by
   rw [h0,Bool.false_or,beq_iff_eq]
   omega
  have c2:¬(decide (x≤0)||items.isEmpty)=true:=by
   rw [h0,Bool.or_false,decide_eq_true_eq]
   omega
  have e3:((items.size:Nat):Int) * x=((items.size * x.toNat:Nat):Int):=by
   rw [Int.natCast_mul,Int.toNat_of_nonneg (by omega)]
  have c3:¬((items.size:Int) * x > (2 ^ 63-1) / 8):=by
   have:(sizeLine:Nat)≤(2 ^ 63-1) / 8:=by decide
   rw [e3]
   omega
  have c4:¬Builtin.Tuple.tupleTooMany ((items.size:Int) * x)=true:=by
   unfold Builtin.Tuple.tupleTooMany
   rw [e3,decide_eq_true_eq]
   omega
  have e5:(List.foldl (fun x1 x2=>x1++x2) #[] (List.replicate x.toNat items)).size≤sizeLine:=by
   obtain ⟨its⟩:=items
   have e:=foldl_rep its x.toNat []
   rw [List.nil_append] at e
   rw [show (List.foldl (fun x1 x2=>x1++x2) #[] (List.replicate x.toNat its.toArray))=_ from e,List.size_toArray,len_rep,Nat.mul_comm]
   exact h3
  wp_walk
  rw [if_neg c0]
  wp_walk using PySem.AutoSeq1.wpAny_loadPart' hl
  rw [if_neg c1]
  show wpAny _ _ (if (decide (x≤0)||items.isEmpty)=true then _ else _) _ _ _
  rw [if_neg c2]
  show wpAny _ _ (if (items.size:Int) * x > (2 ^ 63-1) / 8 then _ else _) _ _ _
  rw [if_neg c3]
  show wpAny _ _ (if Builtin.Tuple.tupleTooMany ((items.size:Int) * x)=true then _ else _) _ _ _
  rw [if_neg c4]
  first
   | exact wpAny_bind (m:=Builtin.Tuple.tupleExact _) (wpAny_newObj_type (wpAny_pure ⟨_,rfl,h⟩) e5)
   | exact wpAny_bind (m:=Builtin.Tuple.tupleExact _) (wpAny_newObj_type (wpAny_pure ⟨_,rfl,wpAny_pure h⟩) e5)
   | exact wpAny_bind (m:=Builtin.Tuple.tupleExact _) (wpAny_newObj_type (wpAny_bind (wpAny_pure (wpAny_pure ⟨_,rfl,h⟩))) e5)
def rRepT (K:PySem.W.Frag):R2:=fun x y H Q=>∃ a k xs,x=.ref a∧y=.int k∧SqT K H a xs∧xs≠[]∧2≤k∧k≤1000∧xs.length * k.toNat≤sizeLine ∧
 ∀ p,H p=none→Q (.ref p) (upd H p (.tup (List.replicate k.toNat xs).flatten))
theorem op_repT {X:Cx}:OpR X (binaryOp .Mult) (rRepT X.K):=by
 intro pins s σ H x y v u Q I rx ry h
 obtain ⟨a,k,xs,rfl,rfl,hH,hne,h1,h2,hz,q⟩:=h
 cases rx
 obtain ⟨t,rfl⟩:=ry
 obtain ⟨its,r,ht,hl⟩:=I.tuple hH
 obtain ⟨⟨cls,dd,data,sl⟩,ho,hc,n,hd⟩:=id ht
 simp only at hc hd
 subst hc hd
 have h0:its.toArray.isEmpty=false:=by
  cases its with
  | nil=>exact absurd (r.nil_iff.mp rfl) hne
  | cons _ _=>rfl
 have e:=foldl_rep its k.toNat []
 rw [List.nil_append] at e
 refine wpAny_binaryOp_repeat_ref (T:="tuple") (U:="int") (by decide) ⟨_,ho,rfl⟩ (fun s'=>typeIs_int s' k t) noFill_tuple_mulO F.fills_int_mul F.slot_int_rmul repeat_tupleO F.slot_int_index.lookup
  (call_meets F.slot_int_rmul (typeIs_int s k t) F.entry_int_rmul (F.args_int_rmul_2 _ _) (int_rmul_tupO k t a its.toArray n dd sl)
   ⟨ho,rfl,⟨_,ho,rfl⟩,call_meets F.slot_tuple_mul ⟨_,ho,rfl⟩ F.entry_tuple_mul (F.args_tuple_mul_2 _ _) (tuple_mulO a its.toArray n dd sl k t h0 h1 (by omega) (by rw [List.size_toArray,← r.length];exact hz)) ⟨ho,?_⟩⟩)
 rw [show (List.foldl (fun x1 x2=>x1++x2) #[] (List.replicate k.toNat its.toArray))=_ from e]
 refine ⟨.ref s.heap.objs.size,_,I.laid (t':=s.toks) (o:=.tup (List.replicate k.toNat xs).flatten) (fun b ob q=>Heap.get?_push_of_some _ q) (Nat.le_refl _) ?_,rfl,q _ (I.hok.fresh (Nat.le_refl _))⟩
 exact ⟨by rw [len_rep,Nat.mul_comm];exact hz,_,r.rep k.toNat,TupP.new _ _⟩
end L2
namespace HT
open PySem PyProof.Rows
open PySem.SeqAt
section
variable {prog:Program}{w:World}{A:Around}{E:Value→Shared→Prop}{s:Shared}
theorem getItem_tuple_whole {t sl:Addr}{items:Array Value}{vl vu:Value}{lo hi:Option Int}{Q:Value→Shared→Prop} (ht:IsTup s.heap t items) (hs:s.heap.IsSliceOf sl vl vu .none) (pl:IsPart vl lo) (pu:IsPart vu hi)
  (hw:sIx items.size 0 lo=0∧sIx items.size items.size hi=items.size) (h:Q (.ref t) s):wpAny (model prog w) A (getItem (.ref t) (.ref sl)) Q E s:=by
 obtain ⟨os,hos,hcs,hds⟩:=id hs
 have hTs:s.TypeIs (.ref sl) "slice":=⟨os,hos,hcs⟩
 unfold getItem
 try with_reducible refine wpAny_holding ?_
 first | refine wpAny_bind (wpAny_pure ?_) | skip
 refine wpAny_bind (wpAny_sequenceKey ht.typeIs (by decide) ?_)
 refine wpAny_bind (wpAny_callSpecial?_slot (name:=Str.ofString "__getitem__") ht.typeIs PyProof.Rows.slot_tuple_getitem
  (wpAny_call_entry PyProof.Rows.slot_tuple_getitem ht.typeIs entry_tuple_getitem ?_ (args_tuple_getitem _ _)))
 show wpAny _ _ (Builtin.Tuple.tupleItemsOf (.ref t) >>= _) _ _ s
 refine wpAny_bind (tupleItemsOf_ ht ?_)
 refine wpAny_bind (wpAny_typeOf hTs ?_)
 rw [if_pos (by decide)]
 refine wpAny_bind (sliceApplied_gen hs pl pu ?_)
 have hno:(((sIx items.size 0 lo:Nat):Int) == 0&&(1:Int) == 1&&(sIx items.size items.size hi-sIx items.size 0 lo) == items.size)=true:=by
  rw [hw.1,hw.2]
  simp
 show wpAny _ _ (if (((sIx items.size 0 lo:Nat):Int) == 0&&(1:Int) == 1&&(sIx items.size items.size hi-sIx items.size 0 lo) == items.size)=true then _ else _) _ _ s
 rw [if_pos hno]
 refine wpAny_bind (m:=Builtin.Tuple.tupleIsExact _) ?_
 unfold Builtin.Tuple.tupleIsExact
 refine wpAny_bind (wpAny_typeOf ht.typeIs (wpAny_pure ?_))
 rw [if_pos (by decide)]
 refine wpAny_bind (wpAny_rule ?_)
 exact wpAny_pure ⟨_,rfl,wpAny_pure h⟩
end
end HT
namespace L2
open PySem PySem.Spec PyProof.Rows
def rSlW (K:PySem.W.Frag):V→Option Int→Option Int→Hp→VK→Prop:=fun x lo hi H Q=>∃ a xs,x=.ref a∧SqT K H a xs ∧
 ((HT.sIx xs.length 0 lo=0∧HT.sIx xs.length xs.length hi=xs.length)→Q (.ref a) H) ∧
 (¬(HT.sIx xs.length 0 lo=0∧HT.sIx xs.length xs.length hi=xs.length)→∀ p,H p=none→Q (.ref p) (upd H p (.tup (cutV xs lo hi))))
theorem sl_tupW {X:Cx}:SlR X (rSlW X.K):=by
 intro pins s σ H x v vl vu lo hi sl Q I rx hs pl pu h
 obtain ⟨a,xs,rfl,hx,q1,q2⟩:=h
 by_cases hw:HT.sIx xs.length 0 lo=0∧HT.sIx xs.length xs.length hi=xs.length
 ·cases rx
  obtain ⟨its,r,ht,hz⟩:=I.tuple hx
  have hlen:its.toArray.size=xs.length:=by rw [List.size_toArray];exact r.length.symm
  refine ⟨"tuple",_,PyProof.Rows.slot_tuple_getitem.lookup,ht.typeIs,?_⟩
  exact HT.getItem_tuple_whole ht hs pl pu (by rw [hlen];exact hw) ⟨.ref a,H,I,rfl,q1 hw⟩
 ·exact sl_tup pins s σ H _ v vl vu lo hi sl Q I rx hs pl pu ⟨a,xs,rfl,hx,hw,q2 hw⟩
end L2
namespace My
open PySem L2 PyProof.Rows
def chg {α:Type} (xs:List α) (n:Nat) (ys:List α):List α:=xs.take n++ys++xs.drop (n+1)
def spChanged (K:PySem.W.Frag):Sp:=fun vs H Q _=>∃ (a p:Addr) (xs ys:List V) (n:Nat),vs=[.ref a,.int (n:Int),.ref p]∧SqT K H a xs∧H p=some (.lst ys)∧n < xs.length∧xs.length+ys.length≤1000∧∀ q H',Same H H'→H' q=some (.tup (chg xs n ys))→Q (.ref q) H'
theorem chg_map {α β:Type} (f:α→β) (xs:List α) (n:Nat) (ys:List α):chg (xs.map f) n (ys.map f)=(chg xs n ys).map f:=by
 unfold chg
 rw [List.map_append,List.map_append,List.map_take,List.map_drop]
theorem chg_length {α:Type}{xs ys:List α}{n:Nat} (h:n < xs.length):(chg xs n ys).length+1=xs.length+ys.length:=by
 unfold chg
 rw [List.length_append,List.length_append,List.length_take,List.length_drop]
 omega
theorem chg_paired {α β:Type}{F:α→β→Prop}{xs ys:List α}{zs ws:List β} (h:Paired F xs zs) (k:Paired F ys ws) (n:Nat):Paired F (chg xs n ys) (chg zs n ws):=paired_append (paired_append (paired_takeN h n) k) (paired_dropN h (n+1))
theorem mem_chg {α:Type}{xs ys:List α}{n:Nat}{x:α} (h:x∈chg xs n ys):x∈xs∨x∈ys:=by
 unfold chg at h
 rcases List.mem_append.mp h with h | h
 ·rcases List.mem_append.mp h with h | h
  ·exact .inl (List.mem_of_mem_take h)
  ·exact .inr h
 ·exact .inl (List.mem_of_mem_drop h)
theorem chg_mem {α:Type}{xs ys:List α}{n:Nat}{x:α} (h:x∈ys):x∈chg xs n ys:=List.mem_append_left _ (List.mem_append_right _ h)
def BadR (b:Nat) (n:Int) (r:List Int):Prop:=r.length≠b∨∃ e∈r,e < 0∨n≤e
def spBadRow:Sp:=fun vs H Q _=>∃ (v:V) (r:List Int) (fault cell n:Int),vs=[v,.int fault,.int cell,.int n]∧RowAt H v r∧1≤r.length∧r.length≤10∧0≤n∧n≤12 ∧
 ∀ x r' H',Same H H'→RowAt H' x r'→BadR r.length n r'→r'.length≤11→Q x H'
def spBadTab:Sp:=fun vs H Q _=>∃ (v:V) (t:Tab) (fault cell:Int) (b:Nat),vs=[v,.int fault,.int cell]∧TabAt H v t∧1≤t.length∧t.length≤12∧(∀ r∈t,r.length=b)∧1≤b∧b≤10 ∧
 ∀ x t' H',Same H H'→TabAt H' x t'→(fault=3∨fault=4→t'.length≠t.length)→(fault≠3→fault≠4→t'.length=t.length∧∃ r∈t',BadR b t.length r)→t'.length≤13→(∀ r∈t',r.length≤11)→Q x H'
theorem mod_pos {c:Int}{n:Nat} (h:1≤n):∃ j:Nat,c % (n:Int)=(j:Int)∧j < n:=by
 have h1:=Int.emod_nonneg c (show (n:Int)≠0 by omega)
 have h2:=Int.emod_lt_of_pos c (show (0:Int) < (n:Int) by omega)
 exact ⟨(c % (n:Int)).toNat,by omega,by omega⟩
theorem pick4i {c:Int} (n:Int) {far:Int} (h:0≤far):∃ e,atI [V.int (-1),V.int n,V.int (-1-far),V.int (n+far)] (c % 4)=some (V.int e)∧(e < 0∨n≤e):=by
 have:c % 4=0∨c % 4=1∨c % 4=2∨c % 4=3:=by omega
 rcases this with e | e | e | e<;>rw [e]
 ·exact ⟨-1,rfl,.inl (by omega)⟩
 ·exact ⟨n,rfl,.inr (by omega)⟩
 ·exact ⟨-1-far,rfl,.inl (by omega)⟩
 ·exact ⟨n+far,rfl,.inr (by omega)⟩
section
variable {P:Program}{w:World}{K:PySem.W.Frag}{mg:Str→Option Value}{base:Heap}
abbrev s__law_changed:Stmt:=top 65
theorem sc__law_changed:FnScope ["rows","at","part"] ["rows","at","part"] (defScope s__law_changed):=fS
theorem ok__law_changed {f:Addr}{fd:FuncData} (F:Fun K "_law_changed" "_law_changed" s__law_changed f fd) (B:Blt mg)   :
  FnOk P w K mg base CX0 1 f fd ["rows","at","part"] (spChanged K):=by
 refine F.ok sc__law_changed (fun vs H Q E h=>?_) (fun cdv A outer s H vs Q E hr h=>?_)
 ·obtain ⟨_,_,_,_,_,rfl,_⟩:=h
  rfl
 ·obtain ⟨a,p,xs,ys,n,rfl,ha,hp,hn,hl,q⟩:=h
  have nd:=sc__law_changed.nd
  refine ⟨_,(pss_one (ps_ret (pe_callTy call_tuple_of rfl B.tTuple boot_tuple (pa_cons (pe_op op_cat (pe_op op_cat (pe_callTy call_list_of rfl B.tList boot_list (pa_cons (pe_slice sl_tup (pv 0) po_none (po_some (pv 1))) pa_nil)) (pv 2)) (pe_callTy call_list_of rfl B.tList boot_list (pa_cons (pe_slice sl_tup (pv 0) (po_some (pe_op op_add (pv 1) pe_int)) po_none) pa_nil))) pa_nil)))),?_⟩
  refine ⟨_,rfl,_,rfl,_,rfl,a,xs,rfl,ha,(fun z=>?_),fun l1 h1=>?_⟩
  ·have:=z.2
   rw [HT.sIx_nat] at this
   omega
  have u1:=Same.new (o:=HO.tup (cutV xs none (some (n:Int)))) h1
  refine ⟨l1,_,rfl,.inr (SqT.of upd_same),fun l2 h2=>?_⟩
  have u2:=Same.new (o:=HO.lst (cutV xs none (some (n:Int)))) h2
  have s2:=u1.trans u2
  have e1:cutV xs none (some (n:Int))=xs.take n:=cut_upto xs n
  have l1:(xs.take n).length=n:=List.length_take_of_le (by omega)
  refine ⟨_,rfl,l2,p,_,ys,rfl,rfl,upd_same,s2 _ _ hp,(by rw [e1,l1];exact Nat.le_of_lt (smallM (by omega))),fun l3 h3=>?_⟩
  have u3:=Same.new (o:=HO.lst (cutV xs none (some (n:Int))++ys)) h3
  have s3:=s2.trans u3
  refine ⟨_,rfl,_,rfl,_,_,rfl,rfl,_,rfl,a,xs,rfl,s3.seqT ha,(fun z=>?_),fun l4 h4=>?_⟩
  ·have:=z.1
   rw [show (n:Int)+1=((n+1:Nat):Int) from rfl,HT.sIx_nat] at this
   omega
  have e2:cutV xs (some ((n:Int)+1)) none=xs.drop (n+1):=cut_from xs (n+1)
  have u4:=Same.new (o:=HO.tup (cutV xs (some ((n:Int)+1)) none)) h4
  refine ⟨l4,_,rfl,.inr (SqT.of upd_same),fun l5 h5=>?_⟩
  have u5:=Same.new (o:=HO.lst (cutV xs (some ((n:Int)+1)) none)) h5
  refine ⟨l3,l5,_,_,rfl,rfl,(u4.trans u5) _ _ upd_same,upd_same,?_,fun l6 h6=>?_⟩
  ·rw [e1,e2,List.length_append,l1,List.length_drop]
   exact Nat.le_of_lt (smallM (by omega))
  have u6:=Same.new (o:=HO.lst (cutV xs none (some (n:Int))++ys++cutV xs (some ((n:Int)+1)) none)) h6
  refine ⟨l6,_,rfl,.inl ⟨SqL.of upd_same,fun l7 h7=>?_⟩⟩
  have u7:=Same.new (o:=HO.tup (cutV xs none (some (n:Int))++ys++cutV xs (some ((n:Int)+1)) none)) h7
  refine q l7 _ ((((s3.trans u4).trans u5).trans u6).trans u7) ?_
  rw [upd_same,e1,e2]
  rfl
abbrev s__law_bad_row:Stmt:=top 66
theorem sc__law_bad_row:FnScope ["row","fault","cell","states","at","far"] ["row","fault","cell","states"] (defScope s__law_bad_row):=fS
theorem ok__law_bad_row {f:Addr}{fd:FuncData} (F:Fun K "_law_bad_row" "_law_bad_row" s__law_bad_row f fd) (B:Blt mg)  (h__law_changed:Has P w K mg base "_law_changed" 1 ["rows","at","part"] (spChanged K)) :
  FnOk P w K mg base CX0 2 f fd ["row","fault","cell","states"] spBadRow:=by
 refine F.ok sc__law_bad_row (fun vs H Q E h=>?_) (fun cdv A outer s H vs Q E hr h=>?_)
 ·obtain ⟨_,_,_,_,_,rfl,_⟩:=h
  rfl
 ·obtain ⟨v,r,fault,cell,n,rfl,⟨a,rfl,ha⟩,r1,r2,n1,n2,q⟩:=h
  have nd:=sc__law_bad_row.nd
  have hl:(r.map V.int).length=r.length:=List.length_map _
  refine ⟨_,(pss_cons (ps_set (i:=4) nd rfl (Or.inl rfl) (pe_op op_mod (pv 2) (pe_callB call_len_seq rfl B.len PySem.boot_len (pa_cons (pv 0) pa_nil))))
   (pss_cons (ps_set (i:=5) nd rfl (Or.inl rfl) (pe_op op_mod (pe_op op_fdiv (pv 2) pe_int) (pe_op op_pow pe_int pe_int)))
   (pss_cons (ps_if (pt_cmpR op_eq (pv 1) pe_int (nomark _)) (pss_one (ps_ret (pe_fn h__law_changed (hm hr) (pa_cons (pv 0) (pa_cons (pv 4) (pa_cons (pe_lst pa_nil) pa_nil)))))) pss_nil)
   (pss_cons (ps_if (pt_cmpR op_eq (pv 1) pe_int (nomark _)) (pss_one (ps_ret (pe_fn h__law_changed (hm hr) (pa_cons (pv 0) (pa_cons (pv 4) (pa_cons (pe_lst (pa_cons (pe_ix ix_tup (pv 0) (pv 4) (fun _ _=>rfl)) (pa_cons pe_int pa_nil))) pa_nil)))))) pss_nil)
   (pss_one (ps_ret (pe_fn h__law_changed (hm hr) (pa_cons (pv 0) (pa_cons (pv 4) (pa_cons (pe_lst (pa_cons (pe_ix ix_list (pe_lst (pa_cons (pe_un un_neg pe_int) (pa_cons (pv 3) (pa_cons (pe_op op_sub (pe_un un_neg pe_int) (pv 5)) (pa_cons (pe_op op_add (pv 3) (pv 5)) pa_nil))))) (pe_op op_mod (pe_op op_fdiv (pv 2) pe_int) pe_int) (fun _ _=>rfl)) pa_nil)) pa_nil)))))))))),?_⟩
  refine sealE fun E0 hN0 hR0=>?_
  refine cut1 fun T1 hT1=>?_
  refine ⟨_,rfl,_,rfl,a,_,rfl,.inr (SqT.of ha),_,_,rfl,rfl,(by rw [hl];omega),hT1 _ _ ?_⟩
  clear hT1
  obtain ⟨j,ej,hj⟩:=mod_pos (c:=cell) r1
  rw [hl]
  show (tSeq _ _) E0 [some (.ref a),some (.int fault),some (.int cell),some (.int n),some (.int (cell % (r.length:Int))),none] H
  rw [ej]
  refine cut1 fun T2 hT2=>?_
  refine ⟨_,rfl,_,_,rfl,rfl,⟨by decide,by decide⟩,_,_,rfl,rfl,⟨by decide,by decide,by decide⟩,_,_,rfl,rfl,(by show (0:Int) < 10 ^ (30:Int).toNat;decide),hT2 _ _ ?_⟩
  clear hT2
  obtain ⟨far,hfar,far0⟩:∃ far:Int,far=cell / 30 % 10 ^ (30:Int).toNat∧0≤far:=⟨_,rfl,Int.emod_nonneg _ (by decide)⟩
  show (tSeq _ _) E0 [some (.ref a),some (.int fault),some (.int cell),some (.int n),some (.int (j:Int)),some (.int (cell / 30 % 10 ^ (30:Int).toNat))] H
  rw [← hfar]
  clear hfar
  refine cut1 fun T3 hT3=>?_
  refine ⟨_,rfl,rfl,_,rfl,ite2 (fun z=>?_) (fun z=>hT3 _ _ ?_)⟩
  ·refine ⟨_,rfl,_,rfl,zl,fun l hl1=>?_⟩
   have u1:=Same.new (o:=HO.lst []) hl1
   refine ⟨a,l,_,[],j,rfl,SqT.of (u1 _ _ ha),upd_same,by rw [hl];exact hj,by rw [hl];simp;omega,fun x H' s' hx=>hR0 _ _ ?_⟩
   refine q _ (chg r j []) H' (u1.trans s') ⟨x,rfl,?_⟩ (.inl ?_) ?_
   ·rw [hx,← chg_map]
    rfl
   ·have:=chg_length (ys:=[]) hj
    simp at this
    omega
   ·have:=chg_length (ys:=[]) hj
    simp at this
    omega
  clear hT3
  refine cut1 fun T4 hT4=>?_
  refine ⟨_,rfl,rfl,_,rfl,ite2 (fun z=>?_) (fun z=>hT4 _ _ ?_)⟩
  ·have ex:(r.map V.int)[j]? = some (V.int r[j]):=by rw [List.getElem?_map,List.getElem?_eq_getElem hj];rfl
   refine ⟨_,rfl,_,rfl,_,rfl,_,rfl,a,_,_,_,rfl,rfl,SqT.of ha,atI_nat ex,zl,fun l hl1=>?_⟩
   have u1:=Same.new (o:=HO.lst [V.int r[j],V.int 0]) hl1
   refine ⟨a,l,_,_,j,rfl,SqT.of (u1 _ _ ha),upd_same,by rw [hl];exact hj,by rw [hl];simp;omega,fun x H' s' hx=>hR0 _ _ ?_⟩
   refine q _ (chg r j [r[j],0]) H' (u1.trans s') ⟨x,rfl,?_⟩ (.inl ?_) ?_
   ·rw [hx,← chg_map]
    rfl
   ·have:=chg_length (ys:=[r[j],0]) hj
    simp at this
    omega
   ·have:=chg_length (ys:=[r[j],0]) hj
    simp at this
    omega
  clear hT4
  refine ⟨_,rfl,_,rfl,_,rfl,_,rfl,_,rfl,_,rfl,_,_,rfl,rfl,_,rfl,_,rfl,_,_,rfl,rfl,zl,fun l1 h1=>?_⟩
  have u1:=Same.new (o:=HO.lst [V.int (-1),V.int n,V.int (-1-far),V.int (n+far)]) h1
  obtain ⟨e,he,hbad⟩:=pick4i (c:=cell / 7) n far0
  refine ⟨_,rfl,_,_,rfl,rfl,⟨by decide,by decide⟩,_,_,rfl,rfl,(by show (0:Int) < 4;decide),l1,_,_,_,rfl,rfl,SqL.of upd_same,he,zl,fun l hl1=>?_⟩
  have u2:=Same.new (o:=HO.lst [V.int e]) hl1
  refine ⟨a,l,_,_,j,rfl,SqT.of ((u1.trans u2) _ _ ha),upd_same,by rw [hl];exact hj,by rw [hl];simp;omega,fun x H' s' hx=>hR0 _ _ ?_⟩
  refine q _ (chg r j [e]) H' ((u1.trans u2).trans s') ⟨x,rfl,?_⟩ (.inr ⟨e,chg_mem List.mem_cons_self,hbad⟩) ?_
  ·rw [hx,← chg_map]
   rfl
  ·have:=chg_length (ys:=[e]) hj
   simp at this
   omega
abbrev s__law_bad_table:Stmt:=top 67
theorem sc__law_bad_table:FnScope ["table","fault","cell","at"] ["table","fault","cell"] (defScope s__law_bad_table):=fS
theorem ok__law_bad_table {f:Addr}{fd:FuncData} (F:Fun K "_law_bad_table" "_law_bad_table" s__law_bad_table f fd) (B:Blt mg)  (h__law_changed:Has P w K mg base "_law_changed" 1 ["rows","at","part"] (spChanged K)) (h__law_bad_row:Has P w K mg base "_law_bad_row" 2 ["row","fault","cell","states"] spBadRow) :
  FnOk P w K mg base CX0 3 f fd ["table","fault","cell"] spBadTab:=by
 refine F.ok sc__law_bad_table (fun vs H Q E h=>?_) (fun cdv A outer s H vs Q E hr h=>?_)
 ·obtain ⟨_,_,_,_,_,rfl,_⟩:=h
  rfl
 ·obtain ⟨v,t,fault,cell,b,rfl,⟨a,xs,rfl,ha,hp⟩,t1,t2,hr',b1,b2,q⟩:=h
  have nd:=sc__law_bad_table.nd
  have el:=paired_length hp
  refine ⟨_,(pss_cons (ps_set (i:=3) nd rfl (Or.inl rfl) (pe_op op_mod (pv 2) (pe_callB call_len_seq rfl B.len PySem.boot_len (pa_cons (pv 0) pa_nil))))
   (pss_cons (ps_if (pt_cmpR op_eq (pv 1) pe_int (nomark _)) (pss_one (ps_ret (pe_fn h__law_changed (hm hr) (pa_cons (pv 0) (pa_cons (pv 3) (pa_cons (pe_lst pa_nil) pa_nil)))))) pss_nil)
   (pss_cons (ps_if (pt_cmpR op_eq (pv 1) pe_int (nomark _)) (pss_one (ps_ret (pe_fn h__law_changed (hm hr) (pa_cons (pv 0) (pa_cons (pv 3) (pa_cons (pe_lst (pa_cons (pe_ix ix_tup (pv 0) (pv 3) (fun _ _=>rfl)) (pa_cons (pe_ix ix_tup (pv 0) (pv 3) (fun _ _=>rfl)) pa_nil))) pa_nil)))))) pss_nil)
   (pss_one (ps_ret (pe_fn h__law_changed (hm hr) (pa_cons (pv 0) (pa_cons (pv 3) (pa_cons (pe_lst (pa_cons (pe_fn h__law_bad_row (hm hr) (pa_cons (pe_ix ix_tup (pv 0) (pv 3) (fun _ _=>rfl)) (pa_cons (pv 1) (pa_cons (pe_op op_fdiv (pv 2) pe_int) (pa_cons (pe_callB call_len_seq rfl B.len PySem.boot_len (pa_cons (pv 0) pa_nil)) pa_nil))))) pa_nil)) pa_nil))))))))),?_⟩
  refine sealE fun E0 hN0 hR0=>?_
  refine cut1 fun T1 hT1=>?_
  refine ⟨_,rfl,_,rfl,a,_,rfl,.inr (SqT.of ha),_,_,rfl,rfl,(by rw [el];omega),hT1 _ _ ?_⟩
  clear hT1
  obtain ⟨j,ej,hj⟩:=mod_pos (c:=cell) t1
  have hjx:j < xs.length:=by rw [el];exact hj
  rw [el]
  show (tSeq _ _) E0 [some (.ref a),some (.int fault),some (.int cell),some (.int (cell % (t.length:Int)))] H
  rw [ej]
  have ek:t[j]? = some t[j]:=List.getElem?_eq_getElem hj
  obtain ⟨x,ex,hx⟩:=paired_get hp j _ ek
  have hm:t[j]∈t:=List.getElem_mem hj
  have ext:atI xs (j:Int)=some x:=atI_nat ex
  refine cut1 fun T3 hT3=>?_
  refine ⟨_,rfl,rfl,_,rfl,ite2 (fun z=>?_) (fun z=>hT3 _ _ ?_)⟩
  ·have hf:fault=3:=by simpa using z
   refine ⟨_,rfl,_,rfl,zl,fun l hl1=>?_⟩
   have u1:=Same.new (o:=HO.lst []) hl1
   refine ⟨a,l,_,[],j,rfl,SqT.of (u1 _ _ ha),upd_same,hjx,by simp;omega,fun y H' s' hy=>hR0 _ _ ?_⟩
   have hc:=chg_length (ys:=[]) hj
   simp at hc
   refine q _ (chg t j []) H' (u1.trans s') ⟨y,_,rfl,hy,chg_paired (paired_imp (fun c d z=>z.same (u1.trans s')) hp) .nil j⟩ (fun _=>by omega) (fun n3=>absurd hf n3) (by omega) fun r hr2=>?_
   rcases mem_chg hr2 with h | h
   ·have:=hr' r h
    omega
   ·cases h
  clear hT3
  have f3:fault≠3:=by simpa using z
  refine cut1 fun T4 hT4=>?_
  refine ⟨_,rfl,rfl,_,rfl,ite2 (fun z=>?_) (fun z=>hT4 _ _ ?_)⟩
  ·have hf:fault=4:=by simpa using z
   refine ⟨_,rfl,_,rfl,_,rfl,_,rfl,a,_,_,_,rfl,rfl,SqT.of ha,ext,_,rfl,_,rfl,a,_,_,_,rfl,rfl,SqT.of ha,ext,zl,fun l hl1=>?_⟩
   have u1:=Same.new (o:=HO.lst [x,x]) hl1
   refine ⟨a,l,_,_,j,rfl,SqT.of (u1 _ _ ha),upd_same,hjx,by simp;omega,fun y H' s' hy=>hR0 _ _ ?_⟩
   have hc:=chg_length (ys:=[t[j],t[j]]) hj
   simp at hc
   have hx':=hx.same (u1.trans s')
   refine q _ (chg t j [t[j],t[j]]) H' (u1.trans s') ⟨y,_,rfl,hy,chg_paired (paired_imp (fun c d z=>z.same (u1.trans s')) hp) (.cons hx' (.cons hx' .nil)) j⟩ (fun _=>by omega) (fun _ n4=>absurd hf n4) (by omega) fun r hr2=>?_
   rcases mem_chg hr2 with h | h
   ·have:=hr' r h
    omega
   ·have:r=t[j]:=by simpa using h
    rw [this,hr' _ hm]
    omega
  clear hT4
  have f4:fault≠4:=by simpa using z
  refine ⟨_,rfl,_,rfl,_,rfl,_,rfl,a,_,_,_,rfl,rfl,SqT.of ha,ext,_,rfl,_,rfl,_,_,rfl,rfl,⟨by decide,by decide⟩,_,rfl,a,_,rfl,.inr (SqT.of ha),x,t[j],fault,cell / 3,(t.length:Int),?_,hx,by rw [hr' _ hm];exact b1,by rw [hr' _ hm];exact b2,by omega,by omega,fun x' r' H1 s1 hx1 bd rl=>⟨zl,fun l hl1=>?_⟩⟩
  ·rw [el]
   rfl
  have u1:=Same.new (o:=HO.lst [x']) hl1
  have s2:=s1.trans u1
  refine ⟨a,l,_,_,j,rfl,SqT.of (s2 _ _ ha),upd_same,hjx,by simp;omega,fun y H' s' hy=>hR0 _ _ ?_⟩
  have hc:=chg_length (ys:=[r']) hj
  simp at hc
  rw [hr' _ hm] at bd
  refine q _ (chg t j [r']) H' (s2.trans s') ⟨y,_,rfl,hy,chg_paired (paired_imp (fun c d z=>z.same (s2.trans s')) hp) (.cons (hx1.same (u1.trans s')) .nil) j⟩ (fun h=>by omega) (fun _ _=>⟨by omega,r',chg_mem List.mem_cons_self,bd⟩) (by omega) fun r hr2=>?_
  rcases mem_chg hr2 with h | h
  ·have:=hr' r h
   omega
  ·have:r=r':=by simpa using h
   rw [this]
   exact rl
end
end My
namespace My
open PySem L2 PyProof.Rows
def spSpoilt16:Sp:=fun vs H Q _=>∃ (v:V) (ts:List Tab) (b fault cell:Int),vs=[v,.int fault,.int cell]∧SchAt H v b ts∧Ok b ts∧1≤fault∧fault≤8 ∧
 ∀ x b' ts' H',Same H H'→SchAt H' x b' ts'→Small ts'→¬Ok b' ts'→Q x H'
theorem Ok.small {b:Int}{ts:List Tab} (o:Ok b ts):Small ts:=by
 have h2:=o.t2
 have h3:=o.n2
 have h4:=o.b2
 refine ⟨by omega,fun t ht=>⟨?_,fun r hr=>?_⟩⟩
 ·have:=o.rows t ht
  omega
 ·have:=o.figs t ht r hr
  omega
theorem pickOdd {c:Int} (d:Int):∃ e:Int,atI [V.int 1,V.int (11+d % 6)] (c % 2)=some (V.int e)∧1≤e∧e≤16∧(e < 2∨10 < e):=by
 have h:=Int.emod_nonneg d (show (6:Int)≠0 by omega)
 have h':=Int.emod_lt_of_pos d (show (0:Int) < 6 by omega)
 have:c % 2=0∨c % 2=1:=by omega
 rcases this with e | e<;>rw [e]
 ·exact ⟨1,rfl,by omega,by omega,.inl (by omega)⟩
 ·exact ⟨11+d % 6,rfl,by omega,by omega,.inr (by omega)⟩
theorem pickBase {c:Int}{d:Int} (h:0≤d):∃ e:Int,atI [V.int 1,V.int 0,V.int (-1),V.int (11+d)] (c % 4)=some (V.int e)∧(e < 2∨10 < e):=by
 have:c % 4=0∨c % 4=1∨c % 4=2∨c % 4=3:=by omega
 rcases this with e | e | e | e<;>rw [e]
 ·exact ⟨1,rfl,.inl (by omega)⟩
 ·exact ⟨0,rfl,.inl (by omega)⟩
 ·exact ⟨-1,rfl,.inl (by omega)⟩
 ·exact ⟨11+d,rfl,.inr (by omega)⟩
theorem pickTabs {c:Int}{p0 p1 p2 p3:V}{R:V→Prop} (h0:R p0) (h1:R p1) (h2:R p2) (h3:R p3):∃ p,atI [p0,p1,p2,p3] (c % 4)=some p∧R p:=by
 have:c % 4=0∨c % 4=1∨c % 4=2∨c % 4=3:=by omega
 rcases this with e | e | e | e<;>rw [e]
 ·exact ⟨p0,rfl,h0⟩
 ·exact ⟨p1,rfl,h1⟩
 ·exact ⟨p2,rfl,h2⟩
 ·exact ⟨p3,rfl,h3⟩
theorem pickV16 {R:V→Hp→Prop}{p:V→Hp→Prop}{G:Prop} (a:(∀ v H',p v H'→R v H')→G) (b:∀ v H',p v H'→R v H'):G:=a b
theorem slW_of {K:PySem.W.Frag}{a:Addr}{xs:List V}{lo hi:Option Int}{H:Hp}{Q:VK} (ha:H a=some (.tup xs)) (h:∀ v H',(∃ q,v=V.ref q∧Same H H'∧H' q=some (.tup (cutV xs lo hi)))→Q v H'):rSlW K (.ref a) lo hi H Q :=
 ⟨a,xs,rfl,SqT.of ha,fun hw=>h _ _ ⟨a,rfl,Same.refl _,by
  rw [ha]
  unfold cutV
  rw [hw.1,hw.2,List.drop_zero,Nat.sub_zero,List.take_length]⟩,fun _ p hp=>h _ _ ⟨p,rfl,Same.new hp,upd_same⟩⟩
theorem zeros_map (n:Nat):(List.range n).map (fun _=>V.int 0)=(List.replicate n (0:Int)).map V.int:=by
 rw [List.map_const',List.length_range,List.map_replicate]
def NoTabs (H:Hp) (b:Int) (p:V):Prop:=∃ ts',TabsAt H p ts'∧Small ts'∧¬Ok b ts'
theorem spoilt_no {b:Int}{ts us:List Tab}{t':Tab}{j:Nat} (o:Ok b ts) (hm:∀ t∈us,t∈ts) (hj:j < us.length) (h:(2≤us.length∧t'.length≠nst ts)∨(t'.length=nst ts∧∃ r∈t',BadR b.toNat (nst ts) r)):¬Ok b (chg us j [t']):=by
 intro ok
 have ht':t'∈chg us j [t']:=chg_mem List.mem_cons_self
 have e1:=ok.rows t' ht'
 rcases h with ⟨h2,hne⟩ | ⟨he,r,hr,hb⟩
 ·obtain ⟨t,ht,hto⟩:∃ t∈chg us j [t'],t∈us:=by
   cases j with
   | zero =>
    refine ⟨us[1],List.mem_append_right _ ?_,List.getElem_mem _⟩
    rw [List.mem_iff_getElem]
    exact ⟨0,by rw [List.length_drop];omega,by simp⟩
   | succ j =>
    refine ⟨us[0],List.mem_append_left _ (List.mem_append_left _ ?_),List.getElem_mem _⟩
    rw [List.mem_iff_getElem]
    exact ⟨0,by rw [List.length_take];omega,by simp⟩
  have e2:=ok.rows t ht
  have e3:=o.rows t (hm t hto)
  omega
 ·have f1:=ok.figs t' ht' r hr
  rcases hb with hb | ⟨e,he',hb⟩
  ·omega
  ·have f2:=ok.ents t' ht' r hr e he'
   omega
section
variable {P:Program}{w:World}{K:PySem.W.Frag}{mg:Str→Option Value}{base:Heap}
abbrev s__law_spoilt:Stmt:=top 68
theorem sc__law_spoilt:FnScope ["scheme","fault","cell","base","tables","odd","row","at"] ["scheme","fault","cell"] (defScope s__law_spoilt):=fS
theorem ok__law_spoilt {f:Addr}{fd:FuncData} (F:Fun K "_law_spoilt" "_law_spoilt" s__law_spoilt f fd) (B:Blt mg)  (h__law_changed:Has P w K mg base "_law_changed" 1 ["rows","at","part"] (spChanged K)) (h__law_bad_table:Has P w K mg base "_law_bad_table" 3 ["table","fault","cell"] spBadTab) :
  FnOk P w K mg base CX0 4 f fd ["scheme","fault","cell"] spSpoilt16:=by
 refine F.ok sc__law_spoilt (fun vs H Q E h=>?_) (fun cdv A outer s H vs Q E hr h=>?_)
 ·obtain ⟨_,_,_,_,_,rfl,_⟩:=h
  rfl
 ·obtain ⟨v,ts,b,fault,cell,rfl,hC,ok,f1,f2,q⟩:=h
  have nd:=sc__law_spoilt.nd
  obtain ⟨a0,vT,rfl,ha0,a1,vts,rfl,ha1,pT⟩:=id hC
  have hvl:=paired_length pT
  have b1:=ok.b1
  have b2:=ok.b2
  have t1:=ok.t1
  have t2:=ok.t2
  have hn1:=ok.n1
  have hn2:=ok.n2
  refine ⟨_,(pss_cons (ps_asg (pv 0) (pg_tup rfl (pgs_cons (pg_name (i:=3) nd rfl (Or.inl rfl)) (pgs_cons (pg_name (i:=4) nd rfl (Or.inl rfl)) pgs_nil))))
   (pss_cons (ps_if (pt_cmpR op_eq (pv 1) pe_int (nomark _)) (pss_cons (ps_set (i:=5) nd rfl (Or.inl rfl) (pe_ix ix_list (pe_lst (pa_cons pe_int (pa_cons (pe_op op_add pe_int (pe_op op_mod (pe_op op_fdiv (pv 2) pe_int) pe_int)) pa_nil))) (pe_op op_mod (pv 2) pe_int) (fun _ _=>rfl)))
   (pss_one (ps_ret (pe_tup (pa_cons (pv 5) (pa_cons (pe_tup (pa_cons (pe_tup (pa_cons (pe_callTy call_tuple_of rfl B.tTuple boot_tuple (pa_cons (pe_comp (N:=["k"]) (js:=[none]) rfl rfl (pi_range1 rfl B.range (pa_cons (pv 5) pa_nil)) (fun _ _ _ _=>(pg_name (i:=0) (ndOf (N:=["k"]) (by decide +kernel)) rfl (Or.inl rfl))) (fun _ _ _ _=>pts_nil) (fun _ _ _ _=>pe_int)) pa_nil)) pa_nil)) pa_nil)) pa_nil)))))) pss_nil)
   (pss_cons (ps_if (pt_cmpR op_eq (pv 1) pe_int (nomark _)) (pss_one (ps_ret (pe_tup (pa_cons (pe_ix ix_list (pe_lst (pa_cons pe_int (pa_cons pe_int (pa_cons (pe_un un_neg pe_int) (pa_cons (pe_op op_add pe_int (pe_op op_mod (pe_op op_fdiv (pv 2) pe_int) (pe_op op_pow pe_int pe_int))) pa_nil))))) (pe_op op_mod (pv 2) pe_int) (fun _ _=>rfl)) (pa_cons (pv 4) pa_nil))))) pss_nil)
   (pss_cons (ps_if (pt_cmpR op_eq (pv 1) pe_int (nomark _)) (pss_cons (ps_set (i:=6) nd rfl (Or.inl rfl) (pe_callTy call_tuple_of rfl B.tTuple boot_tuple (pa_cons (pe_comp (N:=["k"]) (js:=[none]) rfl rfl (pi_range1 rfl B.range (pa_cons (pv 3) pa_nil)) (fun _ _ _ _=>(pg_name (i:=0) (ndOf (N:=["k"]) (by decide +kernel)) rfl (Or.inl rfl))) (fun _ _ _ _=>pts_nil) (fun _ _ _ _=>pe_int)) pa_nil)))
   (pss_one (ps_ret (pe_tup (pa_cons (pv 3) (pa_cons (pe_ix ix_list (pe_lst (pa_cons (pe_tup pa_nil) (pa_cons (pe_op op_repT (pe_slice sl_tupW (pv 4) po_none (po_some pe_int)) pe_int) (pa_cons (pe_tup (pa_cons (pe_tup pa_nil) pa_nil)) (pa_cons (pe_tup (pa_cons (pe_op op_repT (pe_tup (pa_cons (pv 6) pa_nil)) pe_int) pa_nil)) pa_nil))))) (pe_op op_mod (pv 2) pe_int) (fun _ _=>rfl)) pa_nil)))))) pss_nil)
   (pss_cons (ps_if (PW.pt (pw_and (PW.pt (pw_or (pt_cmpR op_eq (pv 1) pe_int (nomark _)) (pw_or1 (pt_cmpR op_eq (pv 1) pe_int (nomark _))))) (pw_and1 (pt_cmpR op_eq (pe_callB call_len_seq rfl B.len PySem.boot_len (pa_cons (pv 4) pa_nil)) pe_int (nomark _))))) (pss_one (ps_set (i:=4) nd rfl (Or.inl rfl) (pe_op op_catT (pv 4) (pv 4)))) pss_nil)
   (pss_cons (ps_set (i:=7) nd rfl (Or.inl rfl) (pe_op op_mod (pe_op op_fdiv (pv 2) pe_int) (pe_callB call_len_seq rfl B.len PySem.boot_len (pa_cons (pv 4) pa_nil))))
   (pss_one (ps_ret (pe_tup (pa_cons (pv 3) (pa_cons (pe_fn h__law_changed (hm hr) (pa_cons (pv 4) (pa_cons (pv 7) (pa_cons (pe_lst (pa_cons (pe_fn h__law_bad_table (hm hr) (pa_cons (pe_ix ix_tup (pv 4) (pv 7) (fun _ _=>rfl)) (pa_cons (pv 1) (pa_cons (pe_op op_fdiv (pv 2) pe_int) pa_nil)))) pa_nil)) pa_nil)))) pa_nil))))))))))),?_⟩
  refine sealE fun E0 hN0 hR0=>?_
  refine cut1 fun T1 hT1=>?_
  refine ⟨_,rfl,a0,_,rfl,SqT.of ha0,rfl,_,_,rfl,_,_,rfl,rfl,hT1 _ _ ?_⟩
  clear hT1
  show (tSeq _ _) E0 [some (.ref a0),some (.int fault),some (.int cell),some (.int b),some (.ref a1),none,none,none] H
  refine cut1 fun T2 hT2=>?_
  refine ⟨_,rfl,rfl,_,rfl,ite2 (fun z=>?_) (fun z=>hT2 _ _ ?_)⟩
  ·clear hT2
   refine cut1 fun T3 hT3=>?_
   refine ⟨_,rfl,_,_,rfl,rfl,⟨by decide,by decide⟩,_,_,rfl,rfl,(by show (0:Int) < 6;decide),_,_,rfl,rfl,zl,fun l1 h1=>?_⟩
   have u1:=Same.new (o:=HO.lst [V.int 1,V.int (11+cell / 4 % 6)]) h1
   obtain ⟨odd,eo,o1,o2,o3⟩:=pickOdd (c:=cell) (cell / 4)
   refine ⟨_,rfl,_,_,rfl,rfl,(by show (0:Int) < 2;decide),l1,_,_,_,rfl,rfl,SqL.of upd_same,eo,hT3 _ _ ?_⟩
   clear hT3
   refine ⟨_,rfl,_,rfl,odd,rfl,by omega,by omega,?_⟩
   refine block_map (Walk.rng 0 odd.toNat) (by omega) rfl (fun _=>.int 0) (fun k H2 Q' hk s2 q'=>q' _ (Same.refl _)) (fun W H2 hW s2 hWl=>?_)
   rw [zeros_map] at hWl
   refine ⟨W,_,rfl,.inl ⟨SqL.of hWl,fun p1 hp1=>⟨zl,fun p2 hp2=>⟨zl,fun p3 hp3=>⟨zl,fun p4 hp4=>hR0 _ _ ?_⟩⟩⟩⟩⟩
   have v1:=Same.new (o:=HO.tup ((List.replicate odd.toNat (0:Int)).map V.int)) hp1
   have v2:=Same.new (o:=HO.tup [V.ref p1]) hp2
   have v3:=Same.new (o:=HO.tup [V.ref p2]) hp3
   have v4:=Same.new (o:=HO.tup [V.int odd,V.ref p3]) hp4
   refine q _ odd [[List.replicate odd.toNat 0]] _ (((((u1.trans s2).trans v1).trans v2).trans v3).trans v4) ⟨p4,.ref p3,rfl,upd_same,p3,_,rfl,v4 _ _ upd_same,.cons ⟨p2,_,rfl,(v3.trans v4) _ _ upd_same,.cons ⟨p1,rfl,((v2.trans v3).trans v4) _ _ upd_same⟩ .nil⟩ .nil⟩ ?_ fun o=>?_
   ·refine ⟨by simp,fun t ht=>?_⟩
    obtain rfl:t=[List.replicate odd.toNat 0]:=by simpa using ht
    refine ⟨by simp,fun r hr'=>?_⟩
    obtain rfl:r=List.replicate odd.toNat 0:=by simpa using hr'
    rw [List.length_replicate]
    omega
   ·have:=o.b1
    have:=o.b2
    omega
  clear hT2
  refine cut1 fun T3 hT3=>?_
  refine ⟨_,rfl,rfl,_,rfl,ite2 (fun z1=>?_) (fun z1=>hT3 _ _ ?_)⟩
  ·clear hT3
   have far0:0≤cell / 4 % 10 ^ (30:Int).toNat:=Int.emod_nonneg _ (by decide)
   refine ⟨_,rfl,_,rfl,_,_,rfl,rfl,⟨by decide,by decide⟩,_,_,rfl,rfl,⟨by decide,by decide,by decide⟩,_,_,rfl,rfl,(by show (0:Int) < 10 ^ (30:Int).toNat;decide),_,_,rfl,rfl,zl,fun l1 h1=>?_⟩
   have u1:=Same.new (o:=HO.lst [V.int 1,V.int 0,V.int (-1),V.int (11+cell / 4 % 10 ^ (30:Int).toNat)]) h1
   obtain ⟨e,he,hbad⟩:=pickBase (c:=cell) far0
   refine ⟨_,rfl,_,_,rfl,rfl,(by show (0:Int) < 4;decide),l1,_,_,_,rfl,rfl,SqL.of upd_same,he,_,rfl,zl,fun p4 hp4=>hR0 _ _ ?_⟩
   have v4:=Same.new (o:=HO.tup [V.int e,V.ref a1]) hp4
   refine q _ e ts _ (u1.trans v4) ⟨p4,.ref a1,rfl,upd_same,TabsAt.same (u1.trans v4) ⟨a1,vts,rfl,ha1,pT⟩⟩ ok.small fun o=>?_
   have:=o.b1
   have:=o.b2
   omega
  clear hT3
  refine cut1 fun T4 hT4=>?_
  refine ⟨_,rfl,rfl,_,rfl,ite2 (fun z2=>?_) (fun z2=>hT4 _ _ ?_)⟩
  ·clear hT4
   refine cut1 fun T5 hT5=>?_
   refine ⟨_,rfl,b,rfl,by omega,by omega,?_⟩
   refine block_map (Walk.rng 0 b.toNat) (by omega) rfl (fun _=>.int 0) (fun k H2 Q' hk s2 q'=>q' _ (Same.refl _)) (fun W H2 hW s2 hWl=>?_)
   rw [zeros_map] at hWl
   refine ⟨W,_,rfl,.inl ⟨SqL.of hWl,fun r1 hr1=>hT5 _ _ ?_⟩⟩
   clear hT5
   have v1:=Same.new (o:=HO.tup ((List.replicate b.toNat (0:Int)).map V.int)) hr1
   have hrow:=upd_same (H:=H2) (a:=r1) (o:=HO.tup ((List.replicate b.toNat (0:Int)).map V.int))
   have s3:=s2.trans v1
   generalize hH3:upd H2 r1 (HO.tup ((List.replicate b.toNat (0:Int)).map V.int))=H3 at s3 hrow ⊢
   clear hH3 v1
   obtain ⟨x0,vr,t0,tr,rfl,rfl,hx0,hxr⟩:∃ x0 vr t0 tr,vts=x0 :: vr∧ts=t0 :: tr∧TabAt H x0 t0∧Paired (TabAt H) vr tr:=by
    cases pT with
    | nil=>simp at t1
    | cons h1 h2=>exact ⟨_,_,_,_,rfl,rfl,h1,h2⟩
   refine ⟨_,rfl,zl,fun e1 he1=>?_⟩
   have w1:=Same.new (o:=HO.tup []) he1
   have k1:=upd_same (H:=H3) (a:=e1) (o:=HO.tup [])
   have s4:=s3.trans w1
   generalize hH4:upd H3 e1 (HO.tup [])=H4 at w1 k1 s4 ⊢
   clear hH4
   have hrow:=w1 _ _ hrow
   refine ⟨_,rfl,_,rfl,slW_of (s4 _ _ ha1) ?_⟩
   rw [show cutV (x0 :: vr) none (some 1)=[x0] from cut_upto _ 1]
   rintro _ H5 ⟨qq,rfl,s5,hq⟩
   have hrow:=s5 _ _ hrow
   have k1:=s5 _ _ k1
   have s05:=s4.trans s5
   refine ⟨qq,7,_,rfl,rfl,SqT.of hq,by simp,by decide,by decide,zl,fun p7 hp7=>⟨zl,fun e2 he2=>⟨zl,fun e3 he3=>?_⟩⟩⟩
   have w7:=Same.new (o:=HO.tup (List.replicate (7:Int).toNat [x0]).flatten) hp7
   have w2:=Same.new (o:=HO.tup []) he2
   have w3:=Same.new (o:=HO.tup [V.ref e2]) he3
   have k7:=(w2.trans w3) _ _ (upd_same (H:=H5) (a:=p7) (o:=HO.tup (List.replicate (7:Int).toNat [x0]).flatten))
   have k2:=w3 _ _ (upd_same (a:=e2) (o:=HO.tup []))
   have k3:=upd_same (H:=upd (upd H5 p7 (HO.tup (List.replicate (7:Int).toNat [x0]).flatten)) e2 (HO.tup [])) (a:=e3) (o:=HO.tup [V.ref e2])
   have s06:=((s05.trans w7).trans w2).trans w3
   have hrow:=((w7.trans w2).trans w3) _ _ hrow
   have k1:=((w7.trans w2).trans w3) _ _ k1
   generalize hH6:upd (upd (upd H5 p7 (HO.tup (List.replicate (7:Int).toNat [x0]).flatten)) e2 (HO.tup [])) e3 (HO.tup [V.ref e2])=H6 at k7 k2 k3 s06 hrow k1 ⊢
   clear hH6 w7 w2 w3 hq
   refine ⟨_,rfl,zl,fun e4 he4=>⟨e4,13,_,rfl,rfl,SqT.of upd_same,by simp,by decide,by decide,zl,fun e5 he5=>⟨zl,fun e6 he6=>⟨zl,fun l hl=>?_⟩⟩⟩⟩
   have x4:=Same.new (o:=HO.tup [V.ref r1]) he4
   have x5:=Same.new (o:=HO.tup (List.replicate (13:Int).toNat [V.ref r1]).flatten) he5
   have x6:=Same.new (o:=HO.tup [V.ref e5]) he6
   have x7:=Same.new (o:=HO.lst [V.ref e1,V.ref p7,V.ref e3,V.ref e6]) hl
   have k5:=(x6.trans x7) _ _ (upd_same (a:=e5) (o:=HO.tup (List.replicate (13:Int).toNat [V.ref r1]).flatten))
   have k6:=x7 _ _ (upd_same (a:=e6) (o:=HO.tup [V.ref e5]))
   have s67:=((x4.trans x5).trans x6).trans x7
   have hrow:=s67 _ _ hrow
   have k1:=s67 _ _ k1
   have k7:=s67 _ _ k7
   have k2:=s67 _ _ k2
   have k3:=s67 _ _ k3
   have s07:=s06.trans s67
   have kl:=upd_same (H:=upd (upd (upd H6 e4 (HO.tup [V.ref r1])) e5 (HO.tup (List.replicate (13:Int).toNat [V.ref r1]).flatten)) e6 (HO.tup [V.ref e5])) (a:=l) (o:=HO.lst [V.ref e1,V.ref p7,V.ref e3,V.ref e6])
   generalize hH7:upd (upd (upd (upd H6 e4 (HO.tup [V.ref r1])) e5 (HO.tup (List.replicate (13:Int).toNat [V.ref r1]).flatten)) e6 (HO.tup [V.ref e5])) l (HO.lst [V.ref e1,V.ref p7,V.ref e3,V.ref e6])=H7 at hrow k1 k7 k2 k3 k5 k6 s07 kl ⊢
   clear hH7 x4 x5 x6 x7 s67 s06 s05 s5 s4 s3
   have hzr:RowAt H7 (.ref r1) (List.replicate b.toNat 0):=⟨r1,rfl,hrow⟩
   have hx7:TabAt H7 x0 t0:=hx0.same s07
   obtain ⟨pk,epk,ts',hTs,hsm,hno⟩:=pickTabs (c:=cell) (R:=NoTabs H7 b) (p0:=.ref e1) (p1:=.ref p7) (p2:=.ref e3) (p3:=.ref e6)
    ⟨[],⟨e1,[],rfl,k1,.nil⟩,⟨by simp,fun t ht=>by simp at ht⟩,fun o=>by have:=o.t1;simp at this⟩
    ⟨[t0,t0,t0,t0,t0,t0,t0],⟨p7,_,rfl,k7,.cons hx7 (.cons hx7 (.cons hx7 (.cons hx7 (.cons hx7 (.cons hx7 (.cons hx7 .nil))))))⟩,⟨by simp,fun t ht=>ok.small.2 t (by simp at ht;simp [ht])⟩,fun o=>by have:=o.t2;simp at this⟩
    ⟨[[]],⟨e3,_,rfl,k3,.cons ⟨e2,[],rfl,k2,.nil⟩ .nil⟩,⟨by simp,fun t ht=>by simp at ht;subst ht;simp⟩,fun o=>by have:=o.n1;simp [nst] at this⟩
    ⟨[[List.replicate b.toNat 0,List.replicate b.toNat 0,List.replicate b.toNat 0,List.replicate b.toNat 0,List.replicate b.toNat 0,List.replicate b.toNat 0,List.replicate b.toNat 0,List.replicate b.toNat 0,List.replicate b.toNat 0,List.replicate b.toNat 0,List.replicate b.toNat 0,List.replicate b.toNat 0,List.replicate b.toNat 0]],
     ⟨e6,_,rfl,k6,.cons ⟨e5,_,rfl,k5,.cons hzr (.cons hzr (.cons hzr (.cons hzr (.cons hzr (.cons hzr (.cons hzr (.cons hzr (.cons hzr (.cons hzr (.cons hzr (.cons hzr (.cons hzr .nil))))))))))))⟩ .nil⟩,⟨by simp,fun t ht=>by
      obtain rfl:=List.mem_singleton.mp ht
      refine ⟨by simp,fun r hr'=>?_⟩
      simp at hr'
      subst hr'
      rw [List.length_replicate]
      omega⟩,fun o=>by have:=o.n2;simp [nst] at this⟩
   refine ⟨_,rfl,_,_,rfl,rfl,(by show (0:Int) < 4;decide),l,_,_,_,rfl,rfl,SqL.of kl,epk,zl,fun p hp=>hR0 _ _ ?_⟩
   have y1:=Same.new (o:=HO.tup [V.int b,pk]) hp
   exact q _ b ts' _ (s07.trans y1) ⟨p,pk,rfl,upd_same,TabsAt.same y1 hTs⟩ hsm hno
  clear hT4
  have f8:fault≠8:=by simpa using z
  refine cut1 fun T5 hT5=>?_
  have hne:vts≠[]:=fun z=>by
   rw [z] at hvl
   simp at hvl
   omega
  refine pickV16 (p:=fun v H'=>∃ us:List Tab,Same H H'∧TabsAt H' v us∧(∀ t∈us,t∈ts)∧1≤us.length∧us.length≤6∧(fault=3∨fault=4→2≤us.length)) (R:=fun v H'=>T5 E0 [some (.ref a0),some (.int fault),some (.int cell),some (.int b),some v,none,none,none] H') (fun g=>?_) ?_
  ·have dbl:∀ p,H p=none→(decide (V.int (vts.length:Int)=V.int 1))=true→∃ us:List Tab,Same H (upd H p (.tup (vts++vts)))∧TabsAt (upd H p (.tup (vts++vts))) (.ref p) us∧(∀ t∈us,t∈ts)∧1≤us.length∧us.length≤6∧(fault=3∨fault=4→2≤us.length):=fun p hp zl=>by
    have e1:vts.length=1:=by
     have:(vts.length:Int)=1:=by simpa using zl
     omega
    have pT':Paired (TabAt (upd H p (.tup (vts++vts)))) vts ts:=paired_imp (fun _ _ h=>h.same (Same.new hp)) pT
    refine ⟨ts++ts,Same.new hp,⟨p,_,rfl,upd_same,paired_append pT' pT'⟩,fun t ht=>?_,?_,?_,fun _=>?_⟩
    ·rcases List.mem_append.mp ht with h | h<;>exact h
    all_goals
     rw [List.length_append]
     omega
   have sgl:¬(decide (V.int (vts.length:Int)=V.int 1))=true→∃ us:List Tab,Same H H∧TabsAt H (.ref a1) us∧(∀ t∈us,t∈ts)∧1≤us.length∧us.length≤6∧(fault=3∨fault=4→2≤us.length):=fun zl=>by
    have e1:vts.length≠1:=by
     have:¬(vts.length:Int)=1:=by simpa using zl
     omega
    exact ⟨ts,Same.refl _,⟨a1,vts,rfl,ha1,pT⟩,fun _ h=>h,t1,t2,fun _=>by omega⟩
   refine ⟨_,rfl,rfl,_,rfl,ite2 (fun z3=>iteT ?_) (fun z3=>⟨_,rfl,rfl,_,rfl,ite2 (fun z4=>?_) (fun z4=>iteF (g _ _ ?_))⟩)⟩
   ·exact ⟨_,rfl,a1,vts,rfl,.inr (SqT.of ha1),rfl,_,rfl,ite2 (fun zl=>⟨_,rfl,_,rfl,a1,a1,vts,vts,rfl,rfl,SqT.of ha1,SqT.of ha1,hne,(by rw [hvl];exact Nat.le_of_lt (smallM (by omega))),(fun z=>absurd z hne),fun _ p hp=>g (.ref p) _ (dbl p hp zl)⟩) (fun zl=>g _ _ (sgl zl))⟩
   ·exact ⟨_,rfl,a1,vts,rfl,.inr (SqT.of ha1),rfl,_,rfl,ite2 (fun zl=>⟨_,rfl,_,rfl,a1,a1,vts,vts,rfl,rfl,SqT.of ha1,SqT.of ha1,hne,(by rw [hvl];exact Nat.le_of_lt (smallM (by omega))),(fun z=>absurd z hne),fun _ p hp=>g (.ref p) _ (dbl p hp zl)⟩) (fun zl=>g _ _ (sgl zl))⟩
   ·have f3:fault≠3:=by simpa using z3
    have f4:fault≠4:=by simpa using z4
    exact ⟨ts,Same.refl _,⟨a1,vts,rfl,ha1,pT⟩,fun _ h=>h,t1,t2,fun h=>by omega⟩
  rintro v2 H2 ⟨us,s2,⟨a2,vus,rfl,ha2,pU⟩,hm,l1,l2,l3⟩
  refine hT5 _ _ ?_
  clear hT5
  have hul:=paired_length pU
  refine cut1 fun T6 hT6=>?_
  refine ⟨_,rfl,_,_,rfl,rfl,⟨by decide,by decide⟩,_,rfl,a2,_,rfl,.inr (SqT.of ha2),_,_,rfl,rfl,(by rw [hul];omega),hT6 _ _ ?_⟩
  clear hT6
  obtain ⟨j,ej,hj⟩:=mod_pos (c:=cell / 5) l1
  have hjx:j < vus.length:=by rw [hul];exact hj
  rw [hul]
  show (tRet _) E0 [some (.ref a0),some (.int fault),some (.int cell),some (.int b),some (.ref a2),none,none,some (.int (cell / 5 % (us.length:Int)))] H2
  rw [ej]
  have ek:us[j]? = some us[j]:=List.getElem?_eq_getElem hj
  obtain ⟨x,ex,hx⟩:=paired_get pU j _ ek
  have hmj:us[j]∈ts:=hm _ (List.getElem_mem hj)
  have hlj:=ok.rows _ hmj
  refine ⟨_,rfl,_,rfl,_,rfl,_,rfl,_,rfl,a2,_,_,_,rfl,rfl,SqT.of ha2,atI_nat ex,_,rfl,_,rfl,_,_,rfl,rfl,⟨by decide,by decide⟩,x,us[j],fault,cell / 10,b.toNat,rfl,hx,by omega,by omega,(fun r hr'=>?_),by omega,by omega,fun x' t' H3 s3 hx' q3 q4 ql qr=>⟨zl,fun l hl=>?_⟩⟩
  ·have:=ok.figs _ hmj r hr'
   omega
  have u1:=Same.new (o:=HO.lst [x']) hl
  have s4:=s3.trans u1
  refine ⟨a2,l,_,_,j,rfl,SqT.of (s4 _ _ ha2),upd_same,hjx,by simp;omega,fun p H5 s5 hp=>⟨zl,fun p2 hp2=>hR0 _ _ ?_⟩⟩
  have u2:=Same.new (o:=HO.tup [V.int b,V.ref p]) hp2
  have s6:=(s4.trans s5).trans u2
  have hcl:=chg_length (ys:=[t']) hj
  simp at hcl
  refine q _ b (chg us j [t']) _ (s2.trans s6) ⟨p2,.ref p,rfl,upd_same,p,_,rfl,u2 _ _ hp,chg_paired (paired_imp (fun _ _ h=>h.same s6) pU) (.cons (hx'.same ((u1.trans s5).trans u2)) .nil) j⟩ ⟨by omega,fun t ht=>?_⟩ (spoilt_no ok hm hj ?_)
  ·rcases mem_chg ht with h | h
   ·exact ok.small.2 t (hm t h)
   ·obtain rfl:=List.mem_singleton.mp h
    exact ⟨by omega,fun r hr'=>by have:=qr r hr';omega⟩
  ·by_cases h34:fault=3∨fault=4
   ·exact .inl ⟨l3 h34,by have:=q3 h34;omega⟩
   ·obtain ⟨h1,r,h2,h3⟩:=q4 (fun z=>h34 (.inl z)) (fun z=>h34 (.inr z))
    rw [hlj] at h1 h3
    exact .inr ⟨h1,r,h2,h3⟩
end
end My
namespace My
open PySem L2 PyProof.Rows
def spLF (K:PySem.W.Frag) (Pc Pg:Addr) (mg:Str→Option Value):Sp:=fun vs H Q E=>∃ (n:Int) (v:V) (a:Addr) (ts:List Tab) (b:Int) (fs:List Int),vs=[.int n,v,.ref a]∧0≤n∧SchAt H v b ts∧Small ts∧SqL K H a (fs.map V.int)∧TabSt H Pc qsC∧TabSt H Pg qsG ∧
 (6≤n→Q .non H)∧(n < 6→¬Ok b ts→NoV mg "NoScheme" E)∧(n < 3→Ok b ts→¬figsIn b fs→NoV mg "NoFigure" E)∧(n < 6→Ok b ts→(n < 3→figsIn b fs)→∀ H',Q .non H')
structure LSF (K:PySem.W.Frag) (Pu Pp:Addr) (mg:Str→Option Value) (n:Int) (v:V) (s:Str) (a:Addr) (H:Hp) (C:Prop) (E:XK) (ts:List Tab) (b:Int) (fs:List Int):Prop where
 sch:SchAt H v b ts
 sm:Small ts
 sq:SqL K H a (fs.map V.int)
 fl:fs.length≤10000
 kd:KdOr s
 tu:TabSt H Pu qsU
 tp:TabSt H Pp qsP
 few:Ok b ts→ts.length≤2∧nst ts≤3
 q1:¬Ok b ts→NoV mg "NoScheme" E
 q2:Ok b ts→n≤8→NoKd s→NoV mg "NoKind" E
 q3:Ok b ts→n=6→(∃ k,s=kst k)→¬figsIn b fs→NoV mg "NoFigure" E
 q4:Ok b ts→10 < n→b≠2→NoV mg "OtherBase" E
 q5:Ok b ts→(n≤8→∃ k,s=kst k)→(n=6→figsIn b fs)→(10 < n→b=2)→C
def spLS (K:PySem.W.Frag) (Pu Pp:Addr) (mg:Str→Option Value):Sp:=fun vs H Q E=>∃ (n:Int) (v:V) (s:Str) (a:Addr),vs=[.int n,v,.str s,.ref a]∧((n < 6∧∀ H',Q .non H')∨(6≤n∧n≤14∧∃ ts b fs,LSF K Pu Pp mg n v s a H (∀ H',Q .non H') E ts b fs))
theorem pickH {R J:Hp→Prop}{G:Prop} (a:(∀ H',J H'→R H')→G) (b:∀ H',J H'→R H'):G:=a b
abbrev plT:List Tab:=[[[0,0]]]
theorem ok_plain:Ok 2 plT:=by
 refine ⟨by decide,by decide,by decide,by decide,by decide,by decide,fun t ht=>?_,fun t ht r hr=>?_,fun t ht r hr e he=>?_⟩
 all_goals
  obtain rfl:=List.mem_singleton.mp ht
 ·rfl
 ·obtain rfl:=List.mem_singleton.mp hr
  rfl
 ·obtain rfl:=List.mem_singleton.mp hr
  have:e=0:=by simpa using he
  subst this
  decide
theorem small_plain:Small plT:=ok_plain.small
theorem fits_self {ts:List Tab} (h:ts.length≤2∧nst ts≤3):Fits ts ts:=by
 refine ⟨?_,?_⟩
 ·rw [Nat.lcm_self]
  omega
 ·have:=Nat.mul_le_mul h.2 h.2
  omega
theorem fits_plain {ts:List Tab} (h:ts.length≤2∧nst ts≤3):Fits plT ts:=by
 refine ⟨?_,?_⟩
 ·show Nat.lcm 1 ts.length≤6
  rw [Nat.lcm_one_left]
  omega
 ·show 1 * nst ts≤12
  omega
theorem fits_plain2 {ts:List Tab} (h:ts.length≤2∧nst ts≤3):Fits ts plT:=by
 refine ⟨?_,?_⟩
 ·show Nat.lcm ts.length 1≤6
  rw [Nat.lcm_one_right]
  omega
 ·show nst ts * 1≤12
  omega
section
variable {P:Program}{w:World}{K:PySem.W.Frag}{mg:Str→Option Value}{base:Heap}{Pc Pg Pu Pp:Addr}
abbrev s__law_first:Stmt:=top 69
theorem sc__law_first:FnScope ["which","scheme","figures"] ["which","scheme","figures"] (defScope s__law_first):=fS
theorem ok__law_first {f:Addr}{fd:FuncData} (F:Fun K "_law_first" "_law_first" s__law_first f fd) (B:Blt mg)  (h_state_afterX:HasX P w K mg base "state_after" 7 ["scheme","figures"] (spU2 K mg)) (h_goodX:HasX P w K mg base "good" 8 ["scheme","figures"] (spU2 K mg)) (h_checksX:HasX P w K mg base "checks" 7 ["scheme","figures"] (spU2 K mg)) (h_closingX:HasX P w K mg base "closing" 8 ["scheme"] (spUC Pc qsC mg)) (h_good_countX:HasX P w K mg base "good_count" 8 ["scheme","length"] (spUG Pg qsG mg)) (h_shownX:HasX P w K mg base "shown" 6 ["scheme"] (spU1 mg)) :
  FnOk P w K mg base (CXR P w) 9 f fd ["which","scheme","figures"] (spLF K Pc Pg mg):=by
 refine F.okX sc__law_first (fun vs H Q E h=>?_) (fun cdv A outer s H vs Q E hr h L=>?_)
 ·obtain ⟨_,_,_,_,_,_,rfl,_⟩:=h
  rfl
 ·obtain ⟨n,v,a,ts,b,fs,rfl,n0,hC,sm,hS,Tc,Tg,q6,q1,q3,q0⟩:=h
  have nd:=sc__law_first.nd
  refine ⟨_,(pss_cons (ps_if (pt_cmpR op_eq (pv 0) pe_int (nomark _)) (pss_one (ps_expr (pe_fnX h_state_afterX (hm hr) L.pass (pa_cons (pv 1) (pa_cons (pv 2) pa_nil))))) pss_nil)
   (pss_cons (ps_if (pt_cmpR op_eq (pv 0) pe_int (nomark _)) (pss_one (ps_expr (pe_fnX h_goodX (hm hr) L.pass (pa_cons (pv 1) (pa_cons (pv 2) pa_nil))))) pss_nil)
   (pss_cons (ps_if (pt_cmpR op_eq (pv 0) pe_int (nomark _)) (pss_one (ps_expr (pe_fnX h_checksX (hm hr) L.pass (pa_cons (pv 1) (pa_cons (pv 2) pa_nil))))) pss_nil)
   (pss_cons (ps_if (pt_cmpR op_eq (pv 0) pe_int (nomark _)) (pss_one (ps_expr (pe_fnX h_closingX (hm hr) L.pass (pa_cons (pv 1) pa_nil)))) pss_nil)
   (pss_cons (ps_if (pt_cmpR op_eq (pv 0) pe_int (nomark _)) (pss_one (ps_expr (pe_fnX h_good_countX (hm hr) L.pass (pa_cons (pv 1) (pa_cons pe_int pa_nil))))) pss_nil)
   (pss_one (ps_if (pt_cmpR op_eq (pv 0) pe_int (nomark _)) (pss_one (ps_expr (pe_fnX h_shownX (hm hr) L.pass (pa_cons (pv 1) pa_nil)))) pss_nil))))))),?_⟩
  refine sealE fun E0 hN0 hR0=>?_
  have J0:(0≤n∧H=H)∨(n < 0∧Ok b ts∧(n < 3→figsIn b fs)):=.inl ⟨n0,rfl⟩
  refine cut1 fun T0 hT0=>pickH (J:=fun H2=>(1≤n∧H2=H)∨(n < 1∧Ok b ts∧(n < 3→figsIn b fs))) (R:=fun H2=>T0 E0 [some (.int n),some v,some (.ref a)] H2) (fun g=>?_) fun G1 J1=>hT0 _ _ ?_
  ·refine ⟨_,rfl,rfl,_,rfl,ite2 (fun z=>?_) (fun z=>g _ ?_)⟩
   ·have hn:n=0:=by simpa using z
    exact ⟨_,rfl,_,rfl,v,ts,b,a,fs,rfl,hC,sm,hS,q1 (by omega),q3 (by omega),fun ok hf x H2=>g H2 (.inr ⟨by omega,ok,fun _=>hf⟩)⟩
   ·have hn:n≠0:=by simpa using z
    rcases J0 with ⟨h1,h2⟩ | ⟨h1,h2⟩
    ·exact .inl ⟨by omega,h2⟩
    ·exact .inr ⟨by omega,h2⟩
  clear hT0 J0
  refine cut1 fun T1 hT1=>pickH (J:=fun H2=>(2≤n∧H2=H)∨(n < 2∧Ok b ts∧(n < 3→figsIn b fs))) (R:=fun H2=>T1 E0 [some (.int n),some v,some (.ref a)] H2) (fun g=>?_) fun G2 J2=>hT1 _ _ ?_
  ·refine ⟨_,rfl,rfl,_,rfl,ite2 (fun z=>?_) (fun z=>g _ ?_)⟩
   ·have hn:n=1:=by simpa using z
    obtain rfl:G1=H:=by
     rcases J1 with ⟨_,h⟩ | ⟨h,_⟩
     ·exact h
     ·omega
    exact ⟨_,rfl,_,rfl,v,ts,b,a,fs,rfl,hC,sm,hS,q1 (by omega),q3 (by omega),fun ok hf x H2=>g H2 (.inr ⟨by omega,ok,fun _=>hf⟩)⟩
   ·have hn:n≠1:=by simpa using z
    rcases J1 with ⟨h1,h2⟩ | ⟨h1,h2⟩
    ·exact .inl ⟨by omega,h2⟩
    ·exact .inr ⟨by omega,h2⟩
  clear hT1 J1
  refine cut1 fun T2 hT2=>pickH (J:=fun H2=>(3≤n∧H2=H)∨(n < 3∧Ok b ts∧(n < 3→figsIn b fs))) (R:=fun H2=>T2 E0 [some (.int n),some v,some (.ref a)] H2) (fun g=>?_) fun G3 J3=>hT2 _ _ ?_
  ·refine ⟨_,rfl,rfl,_,rfl,ite2 (fun z=>?_) (fun z=>g _ ?_)⟩
   ·have hn:n=2:=by simpa using z
    obtain rfl:G2=H:=by
     rcases J2 with ⟨_,h⟩ | ⟨h,_⟩
     ·exact h
     ·omega
    exact ⟨_,rfl,_,rfl,v,ts,b,a,fs,rfl,hC,sm,hS,q1 (by omega),q3 (by omega),fun ok hf x H2=>g H2 (.inr ⟨by omega,ok,fun _=>hf⟩)⟩
   ·have hn:n≠2:=by simpa using z
    rcases J2 with ⟨h1,h2⟩ | ⟨h1,h2⟩
    ·exact .inl ⟨by omega,h2⟩
    ·exact .inr ⟨by omega,h2⟩
  clear hT2 J2
  refine cut1 fun T3 hT3=>pickH (J:=fun H2=>(4≤n∧H2=H)∨(n < 4∧Ok b ts∧(n < 3→figsIn b fs))) (R:=fun H2=>T3 E0 [some (.int n),some v,some (.ref a)] H2) (fun g=>?_) fun G4 J4=>hT3 _ _ ?_
  ·refine ⟨_,rfl,rfl,_,rfl,ite2 (fun z=>?_) (fun z=>g _ ?_)⟩
   ·have hn:n=3:=by simpa using z
    obtain rfl:G3=H:=by
     rcases J3 with ⟨_,h⟩ | ⟨h,_⟩
     ·exact h
     ·omega
    exact ⟨_,rfl,v,ts,b,rfl,hC,sm,Tc,q1 (by omega),fun ok x H2=>g H2 (.inr ⟨by omega,ok,fun h=>absurd h (by omega)⟩)⟩
   ·have hn:n≠3:=by simpa using z
    rcases J3 with ⟨h1,h2⟩ | ⟨h1,h2⟩
    ·exact .inl ⟨by omega,h2⟩
    ·exact .inr ⟨by omega,h2⟩
  clear hT3 J3
  refine cut1 fun T4 hT4=>pickH (J:=fun H2=>(5≤n∧H2=H)∨(n < 5∧Ok b ts∧(n < 3→figsIn b fs))) (R:=fun H2=>T4 E0 [some (.int n),some v,some (.ref a)] H2) (fun g=>?_) fun G5 J5=>hT4 _ _ ?_
  ·refine ⟨_,rfl,rfl,_,rfl,ite2 (fun z=>?_) (fun z=>g _ ?_)⟩
   ·have hn:n=4:=by simpa using z
    obtain rfl:G4=H:=by
     rcases J4 with ⟨_,h⟩ | ⟨h,_⟩
     ·exact h
     ·omega
    exact ⟨_,rfl,v,ts,b,rfl,hC,sm,Tg,q1 (by omega),fun ok x H2=>g H2 (.inr ⟨by omega,ok,fun h=>absurd h (by omega)⟩)⟩
   ·have hn:n≠4:=by simpa using z
    rcases J4 with ⟨h1,h2⟩ | ⟨h1,h2⟩
    ·exact .inl ⟨by omega,h2⟩
    ·exact .inr ⟨by omega,h2⟩
  clear hT4 J4
  have g:∀ H2,((6≤n∧H2=H)∨(n < 6∧Ok b ts∧(n < 3→figsIn b fs)))→E0.nx [some (.int n),some v,some (.ref a)] H2:=fun H2 J=>hN0 _ _ (by
   rcases J with ⟨h,rfl⟩ | ⟨h1,h2,h3⟩
   ·exact q6 h
   ·exact q0 h1 h2 h3 H2)
  refine ⟨_,rfl,rfl,_,rfl,ite2 (fun z=>?_) (fun z=>g _ ?_)⟩
  ·have hn:n=5:=by simpa using z
   obtain rfl:G5=H:=by
    rcases J5 with ⟨_,h⟩ | ⟨h,_⟩
    ·exact h
    ·omega
   exact ⟨_,rfl,v,ts,b,rfl,hC,sm,q1 (by omega),fun ok x H2=>g H2 (.inr ⟨by omega,ok,fun h=>absurd h (by omega)⟩)⟩
  ·have hn:n≠5:=by simpa using z
   rcases J5 with ⟨h1,h2⟩ | ⟨h1,h2⟩
   ·exact .inl ⟨by omega,h2⟩
   ·exact .inr ⟨by omega,h2⟩
abbrev s__law_second:Stmt:=top 70
theorem sc__law_second:FnScope ["which","scheme","kind","figures","plain"] ["which","scheme","kind","figures"] (defScope s__law_second):=fS
theorem ok__law_second {f:Addr}{fd:FuncData} (F:Fun K "_law_second" "_law_second" s__law_second f fd) (B:Blt mg)  (h_slipsX:HasX P w K mg base "slips" 7 ["scheme","kind","figures"] (spUL K mg)) (h_unseenX:HasX P w K mg base "unseen" 8 ["scheme","kind"] (spUU Pu qsU mg)) (h_missedX:HasX P w K mg base "missed" 8 ["scheme","kind","length"] (spUM Pu qsU mg)) (h_bothX:HasX P w K mg base "both" 7 ["scheme","other"] (spUB mg)) (h_partedX:HasX P w K mg base "parted" 8 ["scheme","other"] (spUP Pp qsP mg)) :
  FnOk P w K mg base (CXR P w) 9 f fd ["which","scheme","kind","figures"] (spLS K Pu Pp mg):=by
 refine F.okX sc__law_second (fun vs H Q E h=>?_) (fun cdv A outer s H vs Q E hr h L=>?_)
 ·obtain ⟨_,_,_,_,rfl,_⟩:=h
  rfl
 ·obtain ⟨n,v,z0,a,rfl,hh⟩:=h
  have nd:=sc__law_second.nd
  refine ⟨_,(pss_cons (ps_set (i:=4) nd rfl (Or.inl rfl) (pe_tup (pa_cons pe_int (pa_cons (pe_tup (pa_cons (pe_tup (pa_cons (pe_tup (pa_cons pe_int (pa_cons pe_int pa_nil))) pa_nil)) pa_nil)) pa_nil))))
   (pss_cons (ps_if (pt_cmpR op_eq (pv 0) pe_int (nomark _)) (pss_one (ps_expr (pe_fnX h_slipsX (hm hr) L.pass (pa_cons (pv 1) (pa_cons (pv 2) (pa_cons (pv 3) pa_nil)))))) pss_nil)
   (pss_cons (ps_if (pt_cmpR op_eq (pv 0) pe_int (nomark _)) (pss_one (ps_expr (pe_fnX h_unseenX (hm hr) L.pass (pa_cons (pv 1) (pa_cons (pv 2) pa_nil))))) pss_nil)
   (pss_cons (ps_if (pt_cmpR op_eq (pv 0) pe_int (nomark _)) (pss_one (ps_expr (pe_fnX h_missedX (hm hr) L.pass (pa_cons (pv 1) (pa_cons (pv 2) (pa_cons pe_int pa_nil)))))) pss_nil)
   (pss_cons (ps_if (pt_cmpR op_eq (pv 0) pe_int (nomark _)) (pss_one (ps_expr (pe_fnX h_bothX (hm hr) L.pass (pa_cons (pv 1) (pa_cons (pv 1) pa_nil))))) pss_nil)
   (pss_cons (ps_if (pt_cmpR op_eq (pv 0) pe_int (nomark _)) (pss_one (ps_expr (pe_fnX h_partedX (hm hr) L.pass (pa_cons (pv 1) (pa_cons (pv 1) pa_nil))))) pss_nil)
   (pss_cons (ps_if (pt_cmpR op_eq (pv 0) pe_int (nomark _)) (pss_one (ps_expr (pe_fnX h_bothX (hm hr) L.pass (pa_cons (pv 4) (pa_cons (pv 1) pa_nil))))) pss_nil)
   (pss_cons (ps_if (pt_cmpR op_eq (pv 0) pe_int (nomark _)) (pss_one (ps_expr (pe_fnX h_partedX (hm hr) L.pass (pa_cons (pv 4) (pa_cons (pv 1) pa_nil))))) pss_nil)
   (pss_cons (ps_if (pt_cmpR op_eq (pv 0) pe_int (nomark _)) (pss_one (ps_expr (pe_fnX h_bothX (hm hr) L.pass (pa_cons (pv 1) (pa_cons (pv 4) pa_nil))))) pss_nil)
   (pss_one (ps_if (pt_cmpR op_eq (pv 0) pe_int (nomark _)) (pss_one (ps_expr (pe_fnX h_partedX (hm hr) L.pass (pa_cons (pv 1) (pa_cons (pv 4) pa_nil))))) pss_nil))))))))))),?_⟩
  refine sealE fun E0 hN0 hR0=>?_
  refine cut1 fun T0 hT0=>?_
  refine ⟨zl,fun p1 hp1=>⟨zl,fun p2 hp2=>⟨zl,fun p3 hp3=>⟨zl,fun p4 hp4=>hT0 _ _ ?_⟩⟩⟩⟩
  clear hT0
  have v1:=Same.new (o:=HO.tup [V.int 0,V.int 0]) hp1
  have v2:=Same.new (o:=HO.tup [V.ref p1]) hp2
  have v3:=Same.new (o:=HO.tup [V.ref p2]) hp3
  have v4:=Same.new (o:=HO.tup [V.int 2,V.ref p3]) hp4
  have s1:=((v1.trans v2).trans v3).trans v4
  have hP:SchAt (upd (upd (upd (upd H p1 (.tup [V.int 0,V.int 0])) p2 (.tup [V.ref p1])) p3 (.tup [V.ref p2])) p4 (.tup [V.int 2,V.ref p3])) (.ref p4) 2 plT :=
   ⟨p4,.ref p3,rfl,upd_same,p3,_,rfl,v4 _ _ upd_same,.cons ⟨p2,_,rfl,(v3.trans v4) _ _ upd_same,.cons ⟨p1,rfl,((v2.trans v3).trans v4) _ _ upd_same⟩ .nil⟩ .nil⟩
  generalize hH1:upd (upd (upd (upd H p1 (HO.tup [V.int 0,V.int 0])) p2 (HO.tup [V.ref p1])) p3 (HO.tup [V.ref p2])) p4 (HO.tup [V.int 2,V.ref p3])=H1 at s1 hP ⊢
  clear hH1 v1 v2 v3 v4 hp1
  show (tSeq _ _) E0 [some (.int n),some v,some (.str z0),some (.ref a),some (.ref p4)] H1
  obtain ⟨C,eC⟩:∃ C:Prop,C=∀ H',Q .non H':=⟨_,rfl⟩
  have hQ:C→∀ σ H',E0.nx σ H':=fun c σ H'=>hN0 _ _ (by rw [eC] at c;exact c H')
  have J6:(6≤n∧H1=H1)∨(n < 6∧C):=by
   rcases hh with ⟨h,c⟩ | ⟨h,_⟩
   ·exact .inr ⟨h,by rw [eC];exact c⟩
   ·exact .inl ⟨h,rfl⟩
  have hF:6≤n→n≤14∧∃ ts b fs,LSF K Pu Pp mg n v z0 a H1 C E ts b fs:=fun h=>by
   rcases hh with ⟨h',_⟩ | ⟨_,h14,ts,b,fs,L⟩
   ·omega
   ·rw [eC]
    exact ⟨h14,ts,b,fs,⟨L.sch.same s1,L.sm,s1.seq L.sq,L.fl,L.kd,L.tu.same s1,L.tp.same s1,L.few,L.q1,L.q2,L.q3,L.q4,L.q5⟩⟩
  clear hh eC hN0
  refine cut1 fun T6 hT6=>pickH (J:=fun H2=>(7≤n∧H2=H1)∨(n < 7∧C)) (R:=fun H2=>T6 E0 [some (.int n),some v,some (.str z0),some (.ref a),some (.ref p4)] H2) (fun g=>?_) fun G7 J7=>hT6 _ _ ?_
  ·refine ⟨_,rfl,rfl,_,rfl,ite2 (fun z=>?_) (fun z=>g _ ?_)⟩
   ·have hn:n=6:=by simpa using z
    obtain ⟨_,ts,b,fs,L⟩:=hF (by omega)
    exact ⟨_,rfl,_,rfl,_,rfl,v,z0,a,ts,b,fs,rfl,L.sch,L.sm,L.sq,L.fl,L.kd,L.q1,fun ok nk=>L.q2 ok (by omega) nk,fun ok ek nf=>L.q3 ok hn ek nf,fun ok ek hf x H2=>g H2 (.inr ⟨by omega,L.q5 ok (fun _=>ek) (fun _=>hf) (fun h=>absurd h (by omega))⟩)⟩
   ·have hn:n≠6:=by simpa using z
    rcases J6 with ⟨h1,h2⟩ | ⟨h1,h2⟩
    ·exact .inl ⟨by omega,h2⟩
    ·exact .inr ⟨by omega,h2⟩
  clear hT6 J6
  refine cut1 fun T7 hT7=>pickH (J:=fun H2=>(8≤n∧H2=H1)∨(n < 8∧C)) (R:=fun H2=>T7 E0 [some (.int n),some v,some (.str z0),some (.ref a),some (.ref p4)] H2) (fun g=>?_) fun G8 J8=>hT7 _ _ ?_
  ·refine ⟨_,rfl,rfl,_,rfl,ite2 (fun z=>?_) (fun z=>g _ ?_)⟩
   ·have hn:n=7:=by simpa using z
    obtain rfl:G7=H1:=by
     rcases J7 with ⟨_,h⟩ | ⟨h,_⟩
     ·exact h
     ·omega
    obtain ⟨_,ts,b,fs,L⟩:=hF (by omega)
    exact ⟨_,rfl,_,rfl,v,z0,ts,b,rfl,L.sch,L.sm,L.tu,L.kd,L.q1,fun ok nk=>L.q2 ok (by omega) nk,fun ok ek x H2=>g H2 (.inr ⟨by omega,L.q5 ok (fun _=>ek) (fun h=>absurd h (by omega)) (fun h=>absurd h (by omega))⟩)⟩
   ·have hn:n≠7:=by simpa using z
    rcases J7 with ⟨h1,h2⟩ | ⟨h1,h2⟩
    ·exact .inl ⟨by omega,h2⟩
    ·exact .inr ⟨by omega,h2⟩
  clear hT7 J7
  refine cut1 fun T8 hT8=>pickH (J:=fun H2=>(9≤n∧H2=H1)∨(n < 9∧C)) (R:=fun H2=>T8 E0 [some (.int n),some v,some (.str z0),some (.ref a),some (.ref p4)] H2) (fun g=>?_) fun G9 J9=>hT8 _ _ ?_
  ·refine ⟨_,rfl,rfl,_,rfl,ite2 (fun z=>?_) (fun z=>g _ ?_)⟩
   ·have hn:n=8:=by simpa using z
    obtain rfl:G8=H1:=by
     rcases J8 with ⟨_,h⟩ | ⟨h,_⟩
     ·exact h
     ·omega
    obtain ⟨_,ts,b,fs,L⟩:=hF (by omega)
    exact ⟨_,rfl,_,rfl,v,z0,ts,b,rfl,L.sch,L.sm,L.tu,L.kd,L.q1,fun ok nk=>L.q2 ok (by omega) nk,fun ok ek x H2=>g H2 (.inr ⟨by omega,L.q5 ok (fun _=>ek) (fun h=>absurd h (by omega)) (fun h=>absurd h (by omega))⟩)⟩
   ·have hn:n≠8:=by simpa using z
    rcases J8 with ⟨h1,h2⟩ | ⟨h1,h2⟩
    ·exact .inl ⟨by omega,h2⟩
    ·exact .inr ⟨by omega,h2⟩
  clear hT8 J8
  refine cut1 fun T9 hT9=>pickH (J:=fun H2=>(10≤n∧H2=H1)∨(n < 10∧C)) (R:=fun H2=>T9 E0 [some (.int n),some v,some (.str z0),some (.ref a),some (.ref p4)] H2) (fun g=>?_) fun G10 J10=>hT9 _ _ ?_
  ·refine ⟨_,rfl,rfl,_,rfl,ite2 (fun z=>?_) (fun z=>g _ ?_)⟩
   ·have hn:n=9:=by simpa using z
    obtain rfl:G9=H1:=by
     rcases J9 with ⟨_,h⟩ | ⟨h,_⟩
     ·exact h
     ·omega
    obtain ⟨_,ts,b,fs,L⟩:=hF (by omega)
    exact ⟨_,rfl,_,rfl,v,v,ts,ts,b,b,rfl,L.sch,L.sm,L.sch,L.sm,fun ok _ _=>fits_self (L.few ok),fun no=>L.q1 (fun o=>no ⟨o,o⟩),fun _ _ nb=>absurd rfl nb,fun ok _ _ x H2=>g H2 (.inr ⟨by omega,L.q5 ok (fun h=>absurd h (by omega)) (fun h=>absurd h (by omega)) (fun h=>absurd h (by omega))⟩)⟩
   ·have hn:n≠9:=by simpa using z
    rcases J9 with ⟨h1,h2⟩ | ⟨h1,h2⟩
    ·exact .inl ⟨by omega,h2⟩
    ·exact .inr ⟨by omega,h2⟩
  clear hT9 J9
  refine cut1 fun T10 hT10=>pickH (J:=fun H2=>(11≤n∧H2=H1)∨(n < 11∧C)) (R:=fun H2=>T10 E0 [some (.int n),some v,some (.str z0),some (.ref a),some (.ref p4)] H2) (fun g=>?_) fun G11 J11=>hT10 _ _ ?_
  ·refine ⟨_,rfl,rfl,_,rfl,ite2 (fun z=>?_) (fun z=>g _ ?_)⟩
   ·have hn:n=10:=by simpa using z
    obtain rfl:G10=H1:=by
     rcases J10 with ⟨_,h⟩ | ⟨h,_⟩
     ·exact h
     ·omega
    obtain ⟨_,ts,b,fs,L⟩:=hF (by omega)
    exact ⟨_,rfl,_,rfl,v,v,ts,ts,b,b,rfl,L.sch,L.sm,L.sch,L.sm,L.tp,fun no=>L.q1 (fun o=>no ⟨o,o⟩),fun _ _ nb=>absurd rfl nb,fun ok _ _ x H2=>g H2 (.inr ⟨by omega,L.q5 ok (fun h=>absurd h (by omega)) (fun h=>absurd h (by omega)) (fun h=>absurd h (by omega))⟩)⟩
   ·have hn:n≠10:=by simpa using z
    rcases J10 with ⟨h1,h2⟩ | ⟨h1,h2⟩
    ·exact .inl ⟨by omega,h2⟩
    ·exact .inr ⟨by omega,h2⟩
  clear hT10 J10
  refine cut1 fun T11 hT11=>pickH (J:=fun H2=>(12≤n∧H2=H1)∨(n < 12∧C)) (R:=fun H2=>T11 E0 [some (.int n),some v,some (.str z0),some (.ref a),some (.ref p4)] H2) (fun g=>?_) fun G12 J12=>hT11 _ _ ?_
  ·refine ⟨_,rfl,rfl,_,rfl,ite2 (fun z=>?_) (fun z=>g _ ?_)⟩
   ·have hn:n=11:=by simpa using z
    obtain rfl:G11=H1:=by
     rcases J11 with ⟨_,h⟩ | ⟨h,_⟩
     ·exact h
     ·omega
    obtain ⟨_,ts,b,fs,L⟩:=hF (by omega)
    exact ⟨_,rfl,_,rfl,.ref p4,v,plT,ts,2,b,rfl,hP,small_plain,L.sch,L.sm,fun _ ok _=>fits_plain (L.few ok),fun no=>L.q1 (fun o=>no ⟨ok_plain,o⟩),fun _ ok nb=>L.q4 ok (by omega) (fun e=>nb e.symm),fun _ ok eb x H2=>g H2 (.inr ⟨by omega,L.q5 ok (fun h=>absurd h (by omega)) (fun h=>absurd h (by omega)) (fun _=>eb.symm)⟩)⟩
   ·have hn:n≠11:=by simpa using z
    rcases J11 with ⟨h1,h2⟩ | ⟨h1,h2⟩
    ·exact .inl ⟨by omega,h2⟩
    ·exact .inr ⟨by omega,h2⟩
  clear hT11 J11
  refine cut1 fun T12 hT12=>pickH (J:=fun H2=>(13≤n∧H2=H1)∨(n < 13∧C)) (R:=fun H2=>T12 E0 [some (.int n),some v,some (.str z0),some (.ref a),some (.ref p4)] H2) (fun g=>?_) fun G13 J13=>hT12 _ _ ?_
  ·refine ⟨_,rfl,rfl,_,rfl,ite2 (fun z=>?_) (fun z=>g _ ?_)⟩
   ·have hn:n=12:=by simpa using z
    obtain rfl:G12=H1:=by
     rcases J12 with ⟨_,h⟩ | ⟨h,_⟩
     ·exact h
     ·omega
    obtain ⟨_,ts,b,fs,L⟩:=hF (by omega)
    exact ⟨_,rfl,_,rfl,.ref p4,v,plT,ts,2,b,rfl,hP,small_plain,L.sch,L.sm,L.tp,fun no=>L.q1 (fun o=>no ⟨ok_plain,o⟩),fun _ ok nb=>L.q4 ok (by omega) (fun e=>nb e.symm),fun _ ok eb x H2=>g H2 (.inr ⟨by omega,L.q5 ok (fun h=>absurd h (by omega)) (fun h=>absurd h (by omega)) (fun _=>eb.symm)⟩)⟩
   ·have hn:n≠12:=by simpa using z
    rcases J12 with ⟨h1,h2⟩ | ⟨h1,h2⟩
    ·exact .inl ⟨by omega,h2⟩
    ·exact .inr ⟨by omega,h2⟩
  clear hT12 J12
  refine cut1 fun T13 hT13=>pickH (J:=fun H2=>(14≤n∧H2=H1)∨(n < 14∧C)) (R:=fun H2=>T13 E0 [some (.int n),some v,some (.str z0),some (.ref a),some (.ref p4)] H2) (fun g=>?_) fun G14 J14=>hT13 _ _ ?_
  ·refine ⟨_,rfl,rfl,_,rfl,ite2 (fun z=>?_) (fun z=>g _ ?_)⟩
   ·have hn:n=13:=by simpa using z
    obtain rfl:G13=H1:=by
     rcases J13 with ⟨_,h⟩ | ⟨h,_⟩
     ·exact h
     ·omega
    obtain ⟨_,ts,b,fs,L⟩:=hF (by omega)
    exact ⟨_,rfl,_,rfl,v,.ref p4,ts,plT,b,2,rfl,L.sch,L.sm,hP,small_plain,fun ok _ _=>fits_plain2 (L.few ok),fun no=>L.q1 (fun o=>no ⟨o,ok_plain⟩),fun ok _ nb=>L.q4 ok (by omega) nb,fun ok _ eb x H2=>g H2 (.inr ⟨by omega,L.q5 ok (fun h=>absurd h (by omega)) (fun h=>absurd h (by omega)) (fun _=>eb)⟩)⟩
   ·have hn:n≠13:=by simpa using z
    rcases J13 with ⟨h1,h2⟩ | ⟨h1,h2⟩
    ·exact .inl ⟨by omega,h2⟩
    ·exact .inr ⟨by omega,h2⟩
  clear hT13 J13
  have g:∀ H2,((15≤n∧H2=H1)∨(n < 15∧C))→E0.nx [some (.int n),some v,some (.str z0),some (.ref a),some (.ref p4)] H2:=fun H2 J=>by
   rcases J with ⟨h,_⟩ | ⟨_,c⟩
   ·have:=(hF (by omega)).1
    omega
   ·exact hQ c _ _
  refine ⟨_,rfl,rfl,_,rfl,ite2 (fun z=>?_) (fun z=>g _ ?_)⟩
  ·have hn:n=14:=by simpa using z
   obtain rfl:G14=H1:=by
    rcases J14 with ⟨_,h⟩ | ⟨h,_⟩
    ·exact h
    ·omega
   obtain ⟨_,ts,b,fs,L⟩:=hF (by omega)
   exact ⟨_,rfl,_,rfl,v,.ref p4,ts,plT,b,2,rfl,L.sch,L.sm,hP,small_plain,L.tp,fun no=>L.q1 (fun o=>no ⟨o,ok_plain⟩),fun ok _ nb=>L.q4 ok (by omega) nb,fun ok _ eb x H2=>g H2 (.inr ⟨by omega,L.q5 ok (fun h=>absurd h (by omega)) (fun h=>absurd h (by omega)) (fun _=>eb)⟩)⟩
  ·have hn:n≠14:=by simpa using z
   rcases J14 with ⟨h1,h2⟩ | ⟨h1,h2⟩
   ·exact .inl ⟨by omega,h2⟩
   ·exact .inr ⟨by omega,h2⟩
end
end My
namespace L2
open PySem PySem.Spec PyProof.Rows
section
variable {X:Cx}{o e:Expr}{to:TE}{t:TA}{apos cpos:Pos}
theorem pe_index (ho:PE X o to) (ha:PA X [e] t) (hbase:attributeBase o "index" X.env (eval o X.env)=eval o X.env:=by rfl)
  (hfew:((backTo cpos (starEach [e] X.env)).all (fun x=>!x.1)&&(backToKw cpos (keywordEach [] X.env)).all (fun x=>x.1.isSome)
   && decide (([e]:List Expr).length+([]:List Keyword).length+(if ([]:List Keyword).isEmpty then 0 else 1) < 30))=true:=by rfl)
  (hline:(apos.endLine == cpos.line)=true:=by rfl) (hs:starEach [e] X.env=(false,eval e X.env) :: starEach [] X.env:=by rfl) (hplain:(backTo cpos (starEach [] X.env)).any (·.1)=false:=by rfl) :
  PE X (.Call (.Attribute o "index" apos) [e] [] cpos) (tBM X.K "list" (rIndex X.K) to t):=pe_bm PySem.F.plainAttrs_list PySem.F.slot_list_index PySem.F.type_list_index mt_index ho ha hbase hfew hline hs hplain
theorem pe_count (ho:PE X o to) (ha:PA X [e] t) (hbase:attributeBase o "count" X.env (eval o X.env)=eval o X.env:=by rfl)
  (hfew:((backTo cpos (starEach [e] X.env)).all (fun x=>!x.1)&&(backToKw cpos (keywordEach [] X.env)).all (fun x=>x.1.isSome)
   && decide (([e]:List Expr).length+([]:List Keyword).length+(if ([]:List Keyword).isEmpty then 0 else 1) < 30))=true:=by rfl)
  (hline:(apos.endLine == cpos.line)=true:=by rfl) (hs:starEach [e] X.env=(false,eval e X.env) :: starEach [] X.env:=by rfl) (hplain:(backTo cpos (starEach [] X.env)).any (·.1)=false:=by rfl) :
  PE X (.Call (.Attribute o "count" apos) [e] [] cpos) (tBM X.K "list" (rCountL X.K) to t):=pe_bm PySem.F.plainAttrs_list PySem.F.slot_list_count PySem.F.type_list_count mt_count ho ha hbase hfew hline hs hplain
end
end L2
namespace L2
open PySem PySem.Spec PyProof.Rows
def cstr (c:Str×Nat×Pos):Expr:=.Constant (.str c.1) c.2.1 c.2.2
def tStrs (ts:List Str):TA:=fun _ H Q=>Q (ts.map V.str) H
theorem pa_strs {X:Cx}:∀ (cs:List (Str×Nat×Pos)),PA X (cs.map cstr) (tStrs (cs.map (·.1)))
 | []=>pa_nil
 | _ :: cs=>pa_cons pe_str (pa_strs cs) rfl
structure CT where
 i:Int
 n1:Nat
 p1:Pos
 j:Int
 n2:Nat
 p2:Pos
 k:Int
 n3:Nat
 p3:Pos
 n4:Nat
 p4:Pos
def ctv (c:CT):List V:=[.int c.i,.int c.j,.int c.k]
end L2
namespace My
open PySem L2 PyProof.Rows
def Due (n b:Int) (ts:List Tab) (s:Str) (fs:List Int) (d:Int):Prop :=
 (¬Ok b ts∧d=1)∨(Ok b ts∧((6≤n∧n≤8∧NoKd s∧d=2)∨(¬figsIn b fs∧(n < 3∨(n=6∧∃ k,s=kst k))∧d=3)∨(10 < n∧b≠2∧d=4) ∨
  ((n < 3→figsIn b fs)∧(6≤n→n≤8→∃ k,s=kst k)∧(n=6→figsIn b fs)∧(10 < n→b=2)∧d=0)))
def Cls (mg:Str→Option Value) (C:Addr) (d:Int):Prop:=(d=1∧mg "NoScheme"=some (.ref C))∨(d=2∧mg "NoKind"=some (.ref C))∨(d=3∧mg "NoFigure"=some (.ref C))∨(d=4∧mg "OtherBase"=some (.ref C))
def spTold16 (K:PySem.W.Frag) (Pc Pg Pu Pp:Addr):Sp:=fun vs H Q _=>∃ (n:Int) (v:V) (s:Str) (a:Addr) (ts:List Tab) (b:Int) (fs:List Int),vs=[.int n,v,.str s,.ref a]∧0≤n∧n≤14∧SchAt H v b ts∧Small ts∧SqL K H a (fs.map V.int)∧fs.length≤10000∧KdOr s ∧
 TabSt H Pc qsC∧TabSt H Pg qsG∧TabSt H Pu qsU∧TabSt H Pp qsP∧(Ok b ts→ts.length≤2∧nst ts≤3)∧∀ d H',Due n b ts s fs d→Q (.int d) H'
theorem pickE {R p:Addr→Hp→Prop}{G:Prop} (a:(∀ C H',p C H'→R C H')→G) (b:∀ C H',p C H'→R C H'):G:=a b
section
variable {P:Program}{w:World}{K:PySem.W.Frag}{mg:Str→Option Value}{base:Heap}{Pc Pg Pu Pp:Addr}
abbrev s__law_told:Stmt:=top 71
theorem sc__law_told:FnScope ["which","scheme","kind","figures","e","kinds"] ["which","scheme","kind","figures"] (defScope s__law_told):=fS
theorem ok__law_told {f:Addr}{fd:FuncData} (F:Fun K "_law_told" "_law_told" s__law_told f fd) (B:Blt mg) (Ea:ErrsA K mg) (h__law_first:HasX P w K mg base "_law_first" 9 ["which","scheme","figures"] (spLF K Pc Pg mg)) (h__law_second:HasX P w K mg base "_law_second" 9 ["which","scheme","kind","figures"] (spLS K Pu Pp mg)) :
  FnOk P w K mg base CX0 10 f fd ["which","scheme","kind","figures"] (spTold16 K Pc Pg Pu Pp):=by
 refine F.ok sc__law_told (fun vs H Q E h=>?_) (fun cdv A outer s H vs Q E hr h=>?_)
 ·obtain ⟨_,_,_,_,_,_,_,rfl,_⟩:=h
  rfl
 ·obtain ⟨n,v,z,a,ts,b,fs,rfl,n0,n14,hC,sm,hS,hfl,hk,Tc,Tg,Tu,Tp,few,q⟩:=h
  have nd:=sc__law_told.nd
  obtain ⟨S,c_NoScheme,c_OtherBase,c_NoRoom,c_NoKind,c_NoFigure,c_NoNote,m_SlipError,m_NoScheme,m_OtherBase,m_NoRoom,m_NoKind,m_NoFigure,m_NoNote,mVE,x_SlipError,e_NoScheme,e_OtherBase,e_NoRoom,e_NoKind,e_NoFigure,e_NoNote⟩:=Ea.at'
  refine ⟨_,(pss_cons (ps_try (i:=4) (fun _ _ _ hp=>(pss_cons (ps_expr (pe_fnX h__law_first (hm hr) hp (pa_cons (pv 0) (pa_cons (pv 1) (pa_cons (pv 3) pa_nil)))))
   (pss_one (ps_expr (pe_fnX h__law_second (hm hr) hp (pa_cons (pv 0) (pa_cons (pv 1) (pa_cons (pv 2) (pa_cons (pv 3) pa_nil))))))))) (fun _ _=>(pss_cons (ps_set (i:=5) nd rfl (Or.inl rfl) (pe_lst (pa_cons (pe_callB call_isexc rfl B.isi boot_isinstance (pa_cons (pv 4) (pa_cons (pe_glob (v:=.ref c_NoScheme) rfl m_NoScheme rfl) pa_nil))) (pa_cons (pe_callB call_isexc rfl B.isi boot_isinstance (pa_cons (pv 4) (pa_cons (pe_glob (v:=.ref c_NoKind) rfl m_NoKind rfl) pa_nil))) (pa_cons (pe_callB call_isexc rfl B.isi boot_isinstance (pa_cons (pv 4) (pa_cons (pe_glob (v:=.ref c_NoFigure) rfl m_NoFigure rfl) pa_nil))) (pa_cons (pe_callB call_isexc rfl B.isi boot_isinstance (pa_cons (pv 4) (pa_cons (pe_glob (v:=.ref c_OtherBase) rfl m_OtherBase rfl) pa_nil))) pa_nil))))))
   (pss_cons (ps_set (i:=5) nd rfl (Or.inl rfl) (pe_op op_cat (pv 5) (pe_lst (pa_cons (pe_callB call_isexc rfl B.isi boot_isinstance (pa_cons (pv 4) (pa_cons (pe_glob (v:=.ref c_NoRoom) rfl m_NoRoom rfl) pa_nil))) (pa_cons (pe_callB call_isexc rfl B.isi boot_isinstance (pa_cons (pv 4) (pa_cons (pe_glob (v:=.ref c_NoNote) rfl m_NoNote rfl) pa_nil))) pa_nil)))))
   (pss_cons (ps_if (PW.pt (pw_or (pt_cmpR op_ne (pe_count (pv 5) (pa_cons pe_bl pa_nil)) pe_int (nomark _)) (pw_or1 (pt_not (pt_val (pe_callB call_isexc rfl B.isi boot_isinstance (pa_cons (pv 4) (pa_cons (pe_ty mVE PyProof.Rows.Boot.«ValueError») pa_nil)))))))) (pss_one (ps_ret pe_int)) pss_nil)
   (pss_one (ps_ret (pe_op op_add pe_int (pe_index (pv 5) (pa_cons pe_bl pa_nil))))))))) rfl rfl rfl nd rfl rfl rfl m_SlipError x_SlipError)
   (pss_one (ps_ret pe_int))),?_⟩
  refine sealE fun E0 hN0 hR0=>?_
  refine cut1 fun T1 hT1=>?_
  refine pickE (p:=fun C _=>∃ d,Due n b ts z fs d∧Cls mg C d) (fun gE=>⟨_,rfl,_,rfl,_,rfl,n,v,a,ts,b,fs,rfl,n0,hC,sm,hS,Tc,Tg,fun h6=>?_,fun h no C H1 mC=>gE C H1 ⟨1,.inl ⟨no,rfl⟩,.inl ⟨rfl,mC⟩⟩,fun h ok nf C H1 mC=>gE C H1 ⟨3,.inr ⟨ok,.inr (.inl ⟨nf,.inl h,rfl⟩)⟩,.inr (.inr (.inl ⟨rfl,mC⟩))⟩,fun h ok hf H1=>?_⟩) ?_
  ·refine ⟨_,rfl,_,rfl,_,rfl,_,rfl,n,v,z,a,rfl,.inr ⟨h6,n14,ts,b,fs,⟨hC,sm,hS,hfl,hk,Tu,Tp,few,fun no C H1 mC=>gE C H1 ⟨1,.inl ⟨no,rfl⟩,.inl ⟨rfl,mC⟩⟩,fun ok h8 nk C H1 mC=>gE C H1 ⟨2,.inr ⟨ok,.inl ⟨h6,h8,nk,rfl⟩⟩,.inr (.inl ⟨rfl,mC⟩)⟩,
    fun ok h6' ek nf C H1 mC=>gE C H1 ⟨3,.inr ⟨ok,.inr (.inl ⟨nf,.inr ⟨h6',ek⟩,rfl⟩)⟩,.inr (.inr (.inl ⟨rfl,mC⟩))⟩,fun ok h10 nb C H1 mC=>gE C H1 ⟨4,.inr ⟨ok,.inr (.inr (.inl ⟨h10,nb,rfl⟩))⟩,.inr (.inr (.inr ⟨rfl,mC⟩))⟩,fun ok h8 hf hb H2=>hT1 _ _ (hR0 _ _ (q 0 H2 (.inr ⟨ok,.inr (.inr (.inr ⟨fun h=>absurd h (by omega),fun _=>h8,hf,hb,rfl⟩))⟩)))⟩⟩⟩
  ·exact ⟨_,rfl,_,rfl,_,rfl,_,rfl,n,v,z,a,rfl,.inl ⟨h,fun H2=>hT1 _ _ (hR0 _ _ (q 0 H2 (.inr ⟨ok,.inr (.inr (.inr ⟨hf,fun h'=>absurd h' (by omega),fun h'=>absurd h' (by omega),fun h'=>absurd h' (by omega),rfl⟩))⟩)))⟩⟩
  ·rintro C H1 ⟨d,hd,hc⟩
   rcases hc with ⟨rfl,mC⟩ | ⟨rfl,mC⟩ | ⟨rfl,mC⟩ | ⟨rfl,mC⟩
   ·obtain rfl:C=c_NoScheme:=by rw [m_NoScheme] at mC;cases mC;rfl
    refine ⟨C,_,rfl,e_NoScheme.exc,e_NoScheme.has,fun pn l0 hl0=>?_⟩
    obtain ⟨k1,kk⟩:=kitRow_cons e_NoScheme.kit
    obtain ⟨k2,kk⟩:=kitRow_cons kk
    obtain ⟨k3,kk⟩:=kitRow_cons kk
    obtain ⟨k4,kk⟩:=kitRow_cons kk
    obtain ⟨k5,kk⟩:=kitRow_cons kk
    obtain ⟨k6,kk⟩:=kitRow_cons kk
    clear kk
    have xI:=e_NoScheme.is
    have ga:∀ {H2:Hp},Same (upd H1 l0 (.ext (excφ l0 C))) H2→H2 l0=some (.ext (excφ l0 C)):=fun z=>z _ _ upd_same
    refine ⟨_,rfl,l0,C,_,true,rfl,ga (Same.refl _),xI,(fun u hu=>by cases hu;exact k1),_,rfl,l0,C,_,false,rfl,ga (Same.refl _),xI,(fun u hu=>by cases hu;exact k4),_,rfl,l0,C,_,false,rfl,ga (Same.refl _),xI,(fun u hu=>by cases hu;exact k5),_,rfl,l0,C,_,false,rfl,ga (Same.refl _),xI,(fun u hu=>by cases hu;exact k2),zl,fun l hl=>?_⟩
    have t1:=Same.new (o:=HO.lst [V.bl true,V.bl false,V.bl false,V.bl false]) hl
    refine ⟨_,rfl,_,rfl,l0,C,_,false,rfl,ga t1,xI,(fun u hu=>by cases hu;exact k3),_,rfl,l0,C,_,false,rfl,ga t1,xI,(fun u hu=>by cases hu;exact k6),zl,fun l2 hl2=>?_⟩
    have t2:=Same.new (o:=HO.lst [V.bl false,V.bl false]) hl2
    refine ⟨l,l2,_,_,rfl,rfl,t2 _ _ upd_same,upd_same,zl,fun R hR=>?_⟩
    have t3:=Same.new (o:=HO.lst ([V.bl true,V.bl false,V.bl false,V.bl false]++[V.bl false,V.bl false])) hR
    refine ⟨_,rfl,.inl ⟨rfl,_,SqL.of upd_same⟩,R,_,V.bl true,rfl,rfl,SqL.of upd_same,rfl,rfl,rfl,_,rfl,iteF ?_⟩
    refine ⟨_,rfl,l0,C,_,true,rfl,ga ((t1.trans t2).trans t3),xI,(fun u hu=>by cases hu;exact e_NoScheme.ve),_,rfl,iteF ?_⟩
    refine ⟨_,rfl,.inl ⟨rfl,_,SqL.of upd_same⟩,R,_,V.bl true,0,V.bl true,rfl,rfl,SqL.of upd_same,rfl,rfl,rfl,rfl,(fun i z h e=>?_),_,_,rfl,rfl,hR0 _ _ (q _ _ hd)⟩
    exact absurd h (Nat.not_lt_zero _)
   ·obtain rfl:C=c_NoKind:=by rw [m_NoKind] at mC;cases mC;rfl
    refine ⟨C,_,rfl,e_NoKind.exc,e_NoKind.has,fun pn l0 hl0=>?_⟩
    obtain ⟨k1,kk⟩:=kitRow_cons e_NoKind.kit
    obtain ⟨k2,kk⟩:=kitRow_cons kk
    obtain ⟨k3,kk⟩:=kitRow_cons kk
    obtain ⟨k4,kk⟩:=kitRow_cons kk
    obtain ⟨k5,kk⟩:=kitRow_cons kk
    obtain ⟨k6,kk⟩:=kitRow_cons kk
    clear kk
    have xI:=e_NoKind.is
    have ga:∀ {H2:Hp},Same (upd H1 l0 (.ext (excφ l0 C))) H2→H2 l0=some (.ext (excφ l0 C)):=fun z=>z _ _ upd_same
    refine ⟨_,rfl,l0,C,_,false,rfl,ga (Same.refl _),xI,(fun u hu=>by cases hu;exact k1),_,rfl,l0,C,_,true,rfl,ga (Same.refl _),xI,(fun u hu=>by cases hu;exact k4),_,rfl,l0,C,_,false,rfl,ga (Same.refl _),xI,(fun u hu=>by cases hu;exact k5),_,rfl,l0,C,_,false,rfl,ga (Same.refl _),xI,(fun u hu=>by cases hu;exact k2),zl,fun l hl=>?_⟩
    have t1:=Same.new (o:=HO.lst [V.bl false,V.bl true,V.bl false,V.bl false]) hl
    refine ⟨_,rfl,_,rfl,l0,C,_,false,rfl,ga t1,xI,(fun u hu=>by cases hu;exact k3),_,rfl,l0,C,_,false,rfl,ga t1,xI,(fun u hu=>by cases hu;exact k6),zl,fun l2 hl2=>?_⟩
    have t2:=Same.new (o:=HO.lst [V.bl false,V.bl false]) hl2
    refine ⟨l,l2,_,_,rfl,rfl,t2 _ _ upd_same,upd_same,zl,fun R hR=>?_⟩
    have t3:=Same.new (o:=HO.lst ([V.bl false,V.bl true,V.bl false,V.bl false]++[V.bl false,V.bl false])) hR
    refine ⟨_,rfl,.inl ⟨rfl,_,SqL.of upd_same⟩,R,_,V.bl true,rfl,rfl,SqL.of upd_same,rfl,rfl,rfl,_,rfl,iteF ?_⟩
    refine ⟨_,rfl,l0,C,_,true,rfl,ga ((t1.trans t2).trans t3),xI,(fun u hu=>by cases hu;exact e_NoKind.ve),_,rfl,iteF ?_⟩
    refine ⟨_,rfl,.inl ⟨rfl,_,SqL.of upd_same⟩,R,_,V.bl true,1,V.bl true,rfl,rfl,SqL.of upd_same,rfl,rfl,rfl,rfl,(fun i z h e=>?_),_,_,rfl,rfl,hR0 _ _ (q _ _ hd)⟩
    match i,h,e with
    | 0,_,e=>cases e;rfl
   ·obtain rfl:C=c_NoFigure:=by rw [m_NoFigure] at mC;cases mC;rfl
    refine ⟨C,_,rfl,e_NoFigure.exc,e_NoFigure.has,fun pn l0 hl0=>?_⟩
    obtain ⟨k1,kk⟩:=kitRow_cons e_NoFigure.kit
    obtain ⟨k2,kk⟩:=kitRow_cons kk
    obtain ⟨k3,kk⟩:=kitRow_cons kk
    obtain ⟨k4,kk⟩:=kitRow_cons kk
    obtain ⟨k5,kk⟩:=kitRow_cons kk
    obtain ⟨k6,kk⟩:=kitRow_cons kk
    clear kk
    have xI:=e_NoFigure.is
    have ga:∀ {H2:Hp},Same (upd H1 l0 (.ext (excφ l0 C))) H2→H2 l0=some (.ext (excφ l0 C)):=fun z=>z _ _ upd_same
    refine ⟨_,rfl,l0,C,_,false,rfl,ga (Same.refl _),xI,(fun u hu=>by cases hu;exact k1),_,rfl,l0,C,_,false,rfl,ga (Same.refl _),xI,(fun u hu=>by cases hu;exact k4),_,rfl,l0,C,_,true,rfl,ga (Same.refl _),xI,(fun u hu=>by cases hu;exact k5),_,rfl,l0,C,_,false,rfl,ga (Same.refl _),xI,(fun u hu=>by cases hu;exact k2),zl,fun l hl=>?_⟩
    have t1:=Same.new (o:=HO.lst [V.bl false,V.bl false,V.bl true,V.bl false]) hl
    refine ⟨_,rfl,_,rfl,l0,C,_,false,rfl,ga t1,xI,(fun u hu=>by cases hu;exact k3),_,rfl,l0,C,_,false,rfl,ga t1,xI,(fun u hu=>by cases hu;exact k6),zl,fun l2 hl2=>?_⟩
    have t2:=Same.new (o:=HO.lst [V.bl false,V.bl false]) hl2
    refine ⟨l,l2,_,_,rfl,rfl,t2 _ _ upd_same,upd_same,zl,fun R hR=>?_⟩
    have t3:=Same.new (o:=HO.lst ([V.bl false,V.bl false,V.bl true,V.bl false]++[V.bl false,V.bl false])) hR
    refine ⟨_,rfl,.inl ⟨rfl,_,SqL.of upd_same⟩,R,_,V.bl true,rfl,rfl,SqL.of upd_same,rfl,rfl,rfl,_,rfl,iteF ?_⟩
    refine ⟨_,rfl,l0,C,_,true,rfl,ga ((t1.trans t2).trans t3),xI,(fun u hu=>by cases hu;exact e_NoFigure.ve),_,rfl,iteF ?_⟩
    refine ⟨_,rfl,.inl ⟨rfl,_,SqL.of upd_same⟩,R,_,V.bl true,2,V.bl true,rfl,rfl,SqL.of upd_same,rfl,rfl,rfl,rfl,(fun i z h e=>?_),_,_,rfl,rfl,hR0 _ _ (q _ _ hd)⟩
    match i,h,e with
    | 0,_,e=>cases e;rfl
    | 1,_,e=>cases e;rfl
   ·obtain rfl:C=c_OtherBase:=by rw [m_OtherBase] at mC;cases mC;rfl
    refine ⟨C,_,rfl,e_OtherBase.exc,e_OtherBase.has,fun pn l0 hl0=>?_⟩
    obtain ⟨k1,kk⟩:=kitRow_cons e_OtherBase.kit
    obtain ⟨k2,kk⟩:=kitRow_cons kk
    obtain ⟨k3,kk⟩:=kitRow_cons kk
    obtain ⟨k4,kk⟩:=kitRow_cons kk
    obtain ⟨k5,kk⟩:=kitRow_cons kk
    obtain ⟨k6,kk⟩:=kitRow_cons kk
    clear kk
    have xI:=e_OtherBase.is
    have ga:∀ {H2:Hp},Same (upd H1 l0 (.ext (excφ l0 C))) H2→H2 l0=some (.ext (excφ l0 C)):=fun z=>z _ _ upd_same
    refine ⟨_,rfl,l0,C,_,false,rfl,ga (Same.refl _),xI,(fun u hu=>by cases hu;exact k1),_,rfl,l0,C,_,false,rfl,ga (Same.refl _),xI,(fun u hu=>by cases hu;exact k4),_,rfl,l0,C,_,false,rfl,ga (Same.refl _),xI,(fun u hu=>by cases hu;exact k5),_,rfl,l0,C,_,true,rfl,ga (Same.refl _),xI,(fun u hu=>by cases hu;exact k2),zl,fun l hl=>?_⟩
    have t1:=Same.new (o:=HO.lst [V.bl false,V.bl false,V.bl false,V.bl true]) hl
    refine ⟨_,rfl,_,rfl,l0,C,_,false,rfl,ga t1,xI,(fun u hu=>by cases hu;exact k3),_,rfl,l0,C,_,false,rfl,ga t1,xI,(fun u hu=>by cases hu;exact k6),zl,fun l2 hl2=>?_⟩
    have t2:=Same.new (o:=HO.lst [V.bl false,V.bl false]) hl2
    refine ⟨l,l2,_,_,rfl,rfl,t2 _ _ upd_same,upd_same,zl,fun R hR=>?_⟩
    have t3:=Same.new (o:=HO.lst ([V.bl false,V.bl false,V.bl false,V.bl true]++[V.bl false,V.bl false])) hR
    refine ⟨_,rfl,.inl ⟨rfl,_,SqL.of upd_same⟩,R,_,V.bl true,rfl,rfl,SqL.of upd_same,rfl,rfl,rfl,_,rfl,iteF ?_⟩
    refine ⟨_,rfl,l0,C,_,true,rfl,ga ((t1.trans t2).trans t3),xI,(fun u hu=>by cases hu;exact e_OtherBase.ve),_,rfl,iteF ?_⟩
    refine ⟨_,rfl,.inl ⟨rfl,_,SqL.of upd_same⟩,R,_,V.bl true,3,V.bl true,rfl,rfl,SqL.of upd_same,rfl,rfl,rfl,rfl,(fun i z h e=>?_),_,_,rfl,rfl,hR0 _ _ (q _ _ hd)⟩
    match i,h,e with
    | 0,_,e=>cases e;rfl
    | 1,_,e=>cases e;rfl
    | 2,_,e=>cases e;rfl
end
end My
namespace L2
open PySem PySem.Spec PyProof.Rows
theorem pe_strsE {X:Cx}{e:Expr}{p:Pos} (cs:List (Str×Nat×Pos)) (h:e=.List (cs.map cstr) p):PE X e (tLst (tStrs (cs.map (·.1)))):=by
 subst h
 exact pe_lst (pa_strs cs)
end L2
namespace My
open PySem L2 PyProof.Rows
def spLaw16 (K:PySem.W.Frag) (Pc Pg Pu Pp:Addr):Sp:=fun vs H Q _=>∃ (a:Addr) (ns:List Int),vs=[.ref a]∧SqL K H a (ns.map V.int)∧ns.length≤63∧TabSt H Pc qsC∧TabSt H Pg qsG∧TabSt H Pu qsU∧TabSt H Pp qsP∧∀ H',Q (.bl true) H'
theorem pickA {α:Type}{R p:α→Prop}{G:Prop} (a:(∀ x,p x→R x)→G) (b:∀ x,p x→R x):G:=a b
theorem pickKd {c:Int}:∃ k,atI [V.str "one",V.str "swap",V.str "twin",V.str "jump",V.str "out"] (c % 5)=some (V.str (kst k)):=by
 have:c % 5=0∨c % 5=1∨c % 5=2∨c % 5=3∨c % 5=4:=by omega
 rcases this with e | e | e | e | e<;>rw [e]
 ·exact ⟨.one,rfl⟩
 ·exact ⟨.swap,rfl⟩
 ·exact ⟨.twin,rfl⟩
 ·exact ⟨.jump,rfl⟩
 ·exact ⟨.out,rfl⟩
theorem pickNoKd {c:Int}:∃ s,atI ([("two" : Str),"ones","One","","swa","outer"," twin","jump "].map V.str) (c % 8)=some (V.str s)∧NoKd s:=by
 have:c % 8=0∨c % 8=1∨c % 8=2∨c % 8=3∨c % 8=4∨c % 8=5∨c % 8=6∨c % 8=7:=by omega
 rcases this with e | e | e | e | e | e | e | e<;>rw [e]
 ·exact ⟨"two",rfl,by with_unfolding_all rfl⟩
 ·exact ⟨"ones",rfl,by with_unfolding_all rfl⟩
 ·exact ⟨"One",rfl,by with_unfolding_all rfl⟩
 ·exact ⟨"",rfl,by with_unfolding_all rfl⟩
 ·exact ⟨"swa",rfl,by with_unfolding_all rfl⟩
 ·exact ⟨"outer",rfl,by with_unfolding_all rfl⟩
 ·exact ⟨" twin",rfl,by with_unfolding_all rfl⟩
 ·exact ⟨"jump ",rfl,by with_unfolding_all rfl⟩
theorem pickFig {c:Int} (b:Int) {far:Int} (h:0≤far):∃ e,atI [V.int (-1),V.int b,V.int (-1-far),V.int (b+far)] (c % 4)=some (V.int e)∧(e < 0∨b≤e):=pick4i b h
theorem pickJ (c:Int):∃ j:Nat,ixN 3 (c % 3)=some j∧j < 3:=by
 have:c % 3=0∨c % 3=1∨c % 3=2:=by omega
 rcases this with e | e | e<;>rw [e]
 ·exact ⟨0,rfl,by omega⟩
 ·exact ⟨1,rfl,by omega⟩
 ·exact ⟨2,rfl,by omega⟩
theorem set_figs {b e:Int}{j:Nat} (hj:j < 3) (he:e < 0∨b≤e):¬figsIn b ([0,1,0].set j e):=fun h=>by
 have:=h e (List.mem_set (l:=[0,1,0]) (by simpa using hj) e)
 omega
theorem no_both {s:Str} (h:NoKd s):¬∃ k,s=kst k:=by
 rintro ⟨k,rfl⟩
 unfold NoKd at h
 rw [wd_look] at h
 cases h
theorem due_eq {n b d d1 d2 d3:Int}{okd ofg:Bool}{N Kk Fg:Prop} (hNK:N→¬Kk) (hk:(okd=true∧N)∨(okd=false∧Kk)) (hf:(ofg=true∧¬Fg)∨(ofg=false∧Fg))
  (D1:(ofg=true∧(n < 3∨n=6)∧d1=3)∨(¬(ofg=true∧(n < 3∨n=6))∧d1=0)) (D2:(okd=true∧6≤n∧n≤8∧d2=2)∨(¬(okd=true∧6≤n∧n≤8)∧d2=d1)) (D3:(10 < n∧b≠2∧d3=4)∨(¬(10 < n∧b≠2)∧d3=d2))
  (hd:(6≤n∧n≤8∧N∧d=2)∨(¬Fg∧(n < 3∨(n=6∧Kk))∧d=3)∨(10 < n∧b≠2∧d=4)∨((n < 3→Fg)∧(6≤n→n≤8→Kk)∧(n=6→Fg)∧(10 < n→b=2)∧d=0)):d=d3:=by
 rcases hk with ⟨rfl,hN⟩ | ⟨rfl,hK⟩
 ·have hK:=hNK hN
  rcases hf with ⟨rfl,hF⟩ | ⟨rfl,hF⟩
  all_goals
   simp only [hN,hK,hF,true_and,and_true,false_and,and_false,or_false,false_or,not_true_eq_false,not_false_eq_true,imp_false,Bool.false_eq_true,implies_true] at D1 D2 hd
   omega
 ·have hN:¬N:=fun h=>hNK h hK
  rcases hf with ⟨rfl,hF⟩ | ⟨rfl,hF⟩
  all_goals
   simp only [hN,hK,hF,true_and,and_true,false_and,and_false,or_false,false_or,not_true_eq_false,not_false_eq_true,imp_false,Bool.false_eq_true,implies_true] at D1 D2 hd
   omega
section
variable {P:Program}{w:World}{K:PySem.W.Frag}{mg:Str→Option Value}{base:Heap}{Pc Pg Pu Pp:Addr}
theorem sc_law:FnScope ["script","scheme","which","fault","bad","odd_kind","kind","figures","odd_figure","cell","far","due"] ["script"] (defScope sLaw):=fS
theorem ok_law {f:Addr}{fd:FuncData} (F:Fun K "law" "law" sLaw f fd) (B:Blt mg)  (h__law_cell_at:Has P w K mg base "_law_cell_at" 1 ["script","k"] (spCell K)) (h__law_scheme:Has P w K mg base "_law_scheme" 3 ["script","at","most"] (spScheme K)) (h__law_spoilt:Has P w K mg base "_law_spoilt" 4 ["scheme","fault","cell"] spSpoilt16) (h__law_told:Has P w K mg base "_law_told" 10 ["which","scheme","kind","figures"] (spTold16 K Pc Pg Pu Pp)) :
  FnOk P w K mg base CX0 12 f fd ["script"] (spLaw16 K Pc Pg Pu Pp):=by
 refine F.ok sc_law (fun vs H Q E h=>?_) (fun cdv A outer s H vs Q E hr h=>?_)
 ·obtain ⟨_,_,rfl,_⟩:=h
  rfl
 ·obtain ⟨a,ns,rfl,hSq,hlen,Tc,Tg,Tu,Tp,q⟩:=h
  have nd:=sc_law.nd
  refine ⟨_,(pss_cons (ps_set (i:=1) nd rfl (Or.inl rfl) (pe_fn h__law_scheme (hm hr) (pa_cons (pv 0) (pa_cons pe_int (pa_cons (pe_tup (pa_cons pe_int (pa_cons pe_int (pa_cons pe_int pa_nil)))) pa_nil)))))
   (pss_cons (ps_set (i:=2) nd rfl (Or.inl rfl) (pe_op op_mod (pe_fn h__law_cell_at (hm hr) (pa_cons (pv 0) (pa_cons pe_int pa_nil))) pe_int))
   (pss_cons (ps_set (i:=3) nd rfl (Or.inl rfl) (pe_op op_mod (pe_fn h__law_cell_at (hm hr) (pa_cons (pv 0) (pa_cons pe_int pa_nil))) pe_int))
   (pss_cons (ps_set (i:=4) nd rfl (Or.inl rfl) (pv 1))
   (pss_cons (ps_if (pt_chain op_le op_le pe_int (pv 3) pe_int) (pss_one (ps_set (i:=4) nd rfl (Or.inl rfl) (pe_fn h__law_spoilt (hm hr) (pa_cons (pv 1) (pa_cons (pv 3) (pa_cons (pe_fn h__law_cell_at (hm hr) (pa_cons (pv 0) (pa_cons pe_int pa_nil))) pa_nil)))))) pss_nil)
   (pss_cons (ps_set (i:=5) nd rfl (Or.inl rfl) (pe_cmpR op_eq (pe_op op_mod (pe_fn h__law_cell_at (hm hr) (pa_cons (pv 0) (pa_cons pe_int pa_nil))) pe_int) pe_int (nomark _)))
   (pss_cons (ps_set (i:=6) nd rfl (Or.inl rfl) (pe_ix ix_list (pe_lst (pa_cons pe_str (pa_cons pe_str (pa_cons pe_str (pa_cons pe_str (pa_cons pe_str pa_nil)))))) (pe_op op_mod (pe_fn h__law_cell_at (hm hr) (pa_cons (pv 0) (pa_cons pe_int pa_nil))) pe_int) (fun _ _=>rfl)))
   (pss_cons (ps_if (pt_val (pv 5)) (pss_one (ps_set (i:=6) nd rfl (Or.inl rfl) (pe_ix ix_list (pe_strsE [(_,_,_),(_,_,_),(_,_,_),(_,_,_),(_,_,_),(_,_,_),(_,_,_),(_,_,_)] rfl) (pe_op op_mod (pe_fn h__law_cell_at (hm hr) (pa_cons (pv 0) (pa_cons pe_int pa_nil))) pe_int) (fun _ _=>rfl)))) pss_nil)
   (pss_cons (ps_set (i:=7) nd rfl (Or.inl rfl) (pe_lst (pa_cons pe_int (pa_cons pe_int (pa_cons pe_int pa_nil)))))
   (pss_cons (ps_set (i:=8) nd rfl (Or.inl rfl) (pe_cmpR op_eq (pe_op op_mod (pe_fn h__law_cell_at (hm hr) (pa_cons (pv 0) (pa_cons pe_int pa_nil))) pe_int) pe_int (nomark _)))
   (pss_cons (ps_if (pt_val (pv 8)) (pss_cons (ps_set (i:=9) nd rfl (Or.inl rfl) (pe_fn h__law_cell_at (hm hr) (pa_cons (pv 0) (pa_cons pe_int pa_nil))))
   (pss_cons (ps_set (i:=10) nd rfl (Or.inl rfl) (pe_op op_mod (pe_op op_fdiv (pv 9) pe_int) (pe_op op_pow pe_int pe_int)))
   (pss_one (ps_asg (pe_ix ix_list (pe_lst (pa_cons (pe_un un_neg pe_int) (pa_cons (pe_ix ix_tup (pv 1) pe_int (fun _ _=>rfl)) (pa_cons (pe_op op_sub (pe_un un_neg pe_int) (pv 10)) (pa_cons (pe_op op_add (pe_ix ix_tup (pv 1) pe_int (fun _ _=>rfl)) (pv 10)) pa_nil))))) (pe_op op_mod (pv 9) pe_int) (fun _ _=>rfl)) (pg_sub (pv 7) (pe_op op_mod (pe_op op_fdiv (pv 9) pe_int) pe_int) set_list))))) pss_nil)
   (pss_cons (ps_set (i:=11) nd rfl (Or.inl rfl) pe_int)
   (pss_cons (ps_if (PW.pt (pw_and (pt_val (pv 8)) (pw_and1 (PW.pt (pw_or (pt_cmpR op_lt (pv 2) pe_int (nomark _)) (pw_or1 (pt_cmpR op_eq (pv 2) pe_int (nomark _)))))))) (pss_one (ps_set (i:=11) nd rfl (Or.inl rfl) pe_int)) pss_nil)
   (pss_cons (ps_if (PW.pt (pw_and (pt_val (pv 5)) (pw_and1 (pt_chain op_le op_le pe_int (pv 2) pe_int)))) (pss_one (ps_set (i:=11) nd rfl (Or.inl rfl) pe_int)) pss_nil)
   (pss_cons (ps_if (PW.pt (pw_and (pt_cmpR op_gt (pv 2) pe_int (nomark _)) (pw_and1 (pt_cmpR op_ne (pe_ix ix_tup (pv 1) pe_int (fun _ _=>rfl)) pe_int (nomark _))))) (pss_one (ps_set (i:=11) nd rfl (Or.inl rfl) pe_int)) pss_nil)
   (pss_cons (ps_if (pt_chain op_le op_le pe_int (pv 3) pe_int) (pss_one (ps_set (i:=11) nd rfl (Or.inl rfl) pe_int)) pss_nil)
   (pss_one (ps_ret (pe_cmpR op_eq (pe_fn h__law_told (hm hr) (pa_cons (pv 2) (pa_cons (pv 4) (pa_cons (pv 6) (pa_cons (pv 7) pa_nil))))) (pv 11) (nomark _)))))))))))))))))))),?_⟩
  refine sealE fun E0 hN0 hR0=>?_
  refine cut1 fun T1 hT1=>?_
  refine ⟨_,rfl,zl,fun m hm=>⟨a,m,ns,0,4,3,2,rfl,(Same.new hm).seq hSq,by omega,upd_same,by omega,by omega,by omega,by omega,by omega,by omega,fun v b ts H1 s1 hSch ok hb4 hn3 ht2=>hT1 _ _ ?_⟩⟩
  clear hT1
  have s01:Same H H1:=(Same.new hm).trans s1
  clear s1 hm
  have hS1:=s01.seq hSq
  refine cut2 fun T2 hT2=>?_
  refine ⟨_,rfl,a,ns,4,rfl,hS1,by omega,_,_,rfl,rfl,(by show (0:Int) < 15;decide),_,rfl,a,ns,5,rfl,hS1,by omega,_,_,rfl,rfl,(by show (0:Int) < 13;decide),hT2 _ _ ?_⟩
  clear hT2
  obtain ⟨n,en⟩:∃ n,n=cel ns 4 % 15:=⟨_,rfl⟩
  obtain ⟨fa,ef⟩:∃ fa,fa=cel ns 5 % 13:=⟨_,rfl⟩
  have n0:0≤n:=by omega
  have n14:n≤14:=by omega
  show (tSeq _ _) E0 [some (.ref a),some v,some (.int (cel ns 4 % 15)),some (.int (cel ns 5 % 13)),none,none,none,none,none,none,none,none] H1
  rw [← en,← ef]
  clear en ef
  obtain ⟨a0,vT,rfl,ha0,hT0⟩:=id hSch
  refine cut2 fun T3 hT3=>pickV16 (p:=fun x H2=>Same H1 H2∧∃ b' ts',SchAt H2 x b' ts'∧Small ts'∧((1≤fa∧fa≤8∧¬Ok b' ts')∨(¬(1≤fa∧fa≤8)∧b'=b∧ts'=ts))) (R:=fun x H2=>T3 E0 [some (.ref a),some (.ref a0),some (.int n),some (.int fa),some x,none,none,none,none,none,none,none] H2) (fun g=>?_) ?_
  ·refine ⟨_,rfl,_,rfl,_,_,rfl,rfl,_,rfl,ite2 (fun c1=>⟨_,_,rfl,rfl,_,rfl,ite2 (fun c2=>?_) (fun c2=>?_)⟩) (fun c1=>⟨_,rfl,iteF ?_⟩)⟩
   ·have d1:1≤fa:=of_decide_eq_true c1
    have d2:fa≤8:=of_decide_eq_true c2
    exact ⟨_,rfl,_,rfl,_,rfl,a,ns,6,rfl,hS1,by omega,.ref a0,ts,b,fa,cel ns 6,rfl,hSch,ok,d1,d2,fun x b' ts' H2 s2 hx sm no=>g x H2 ⟨s2,b',ts',hx,sm,.inl ⟨d1,d2,no⟩⟩⟩
   ·have d2:¬fa≤8:=fun h=>c2 (decide_eq_true h)
    exact g _ _ ⟨Same.refl _,b,ts,hSch,ok.small,.inr ⟨fun h=>d2 h.2,rfl,rfl⟩⟩
   ·have d1:¬1≤fa:=fun h=>c1 (decide_eq_true h)
    exact g _ _ ⟨Same.refl _,b,ts,hSch,ok.small,.inr ⟨fun h=>d1 h.1,rfl,rfl⟩⟩
  rintro x H2 ⟨s2,b',ts',hx,smx,hcase⟩
  refine hT3 _ _ ?_
  clear hT3
  have s02:=s01.trans s2
  have hS2:=s02.seq hSq
  refine cut1 fun T4 hT4=>?_
  refine ⟨_,rfl,a,ns,7,rfl,hS2,by omega,_,_,rfl,rfl,(by show (0:Int) < 3;decide),rfl,hT4 _ _ ?_⟩
  clear hT4
  show (tSeq _ _) E0 [some (.ref a),some (.ref a0),some (.int n),some (.int fa),some x,some (.bl (decide (V.int (cel ns 7 % 3)=V.int 1))),none,none,none,none,none,none] H2
  generalize decide (V.int (cel ns 7 % 3)=V.int 1)=okd
  refine cut2 fun T5 hT5=>pickV16 (p:=fun y H3=>Same H2 H3∧∃ z:Str,y=.str z∧((okd=true∧NoKd z)∨(okd=false∧∃ k,z=kst k))) (R:=fun y H3=>T5 E0 [some (.ref a),some (.ref a0),some (.int n),some (.int fa),some x,some (.bl okd),some y,none,none,none,none,none] H3) (fun g=>?_) ?_
  ·refine ⟨zl,fun l1 hl1=>?_⟩
   have u1:=Same.new (o:=HO.lst [V.str "one",V.str "swap",V.str "twin",V.str "jump",V.str "out"]) hl1
   obtain ⟨kd,ekd⟩:=pickKd (c:=cel ns 8)
   refine ⟨_,rfl,a,ns,8,rfl,u1.seq hS2,by omega,_,_,rfl,rfl,(by show (0:Int) < 5;decide),l1,_,_,_,rfl,rfl,SqL.of upd_same,ekd,_,rfl,_,rfl,ite2 (fun z=>?_) (fun z=>g _ _ ⟨u1,_,rfl,.inr ⟨by simpa using z,kd,rfl⟩⟩)⟩
   refine ⟨zl,fun l2 hl2=>?_⟩
   obtain ⟨zs,ezs,hzs⟩:=pickNoKd (c:=cel ns 8)
   exact ⟨_,rfl,a,ns,8,rfl,(u1.trans (Same.new hl2)).seq hS2,by omega,_,_,rfl,rfl,(by show (0:Int) < 8;decide),l2,_,_,_,rfl,rfl,SqL.of upd_same,ezs,g _ _ ⟨u1.trans (Same.new hl2),_,rfl,.inl ⟨z,hzs⟩⟩⟩
  rintro _ H3 ⟨s3,z,rfl,hkz⟩
  refine hT5 _ _ ?_
  clear hT5
  have s03:=s02.trans s3
  refine cut2 fun T6 hT6=>?_
  refine ⟨zl,fun l hl=>?_⟩
  have u4:=Same.new (o:=HO.lst [V.int 0,V.int 1,V.int 0]) hl
  have hl4:=upd_same (H:=H3) (a:=l) (o:=HO.lst [V.int 0,V.int 1,V.int 0])
  have s04:=s03.trans u4
  have s14:=(s2.trans s3).trans u4
  refine ⟨_,rfl,a,ns,9,rfl,s04.seq hSq,by omega,_,_,rfl,rfl,(by show (0:Int) < 3;decide),rfl,hT6 _ _ ?_⟩
  clear hT6
  show (tSeq _ _) E0 [some (.ref a),some (.ref a0),some (.int n),some (.int fa),some x,some (.bl okd),some (.str z),some (.ref l),some (.bl (decide (V.int (cel ns 9 % 3)=V.int 1))),none,none,none] (upd H3 l (.lst [V.int 0,V.int 1,V.int 0]))
  generalize decide (V.int (cel ns 9 % 3)=V.int 1)=ofg
  refine cut1 fun T7 hT7=>pickA (α:=Option V×Option V×Hp) (p:=fun y=>Same H3 y.2.2∧∃ fs:List Int,y.2.2 l=some (.lst (fs.map V.int))∧fs.length=3∧((ofg=true∧¬figsIn b fs)∨(ofg=false∧figsIn b fs))) (R:=fun y=>T7 E0 [some (.ref a),some (.ref a0),some (.int n),some (.int fa),some x,some (.bl okd),some (.str z),some (.ref l),some (.bl ofg),y.1,y.2.1,none] y.2.2) (fun g=>?_) ?_
  ·refine ⟨_,rfl,_,rfl,ite2 (fun z=>?_) (fun z=>g (none,none,_) ⟨u4,[0,1,0],hl4,rfl,.inr ⟨by simpa using z,fun x hx=>?_⟩⟩)⟩
   ·have far0:0≤cel ns 10 / 12 % 10 ^ (30:Int).toNat:=Int.emod_nonneg _ (by decide)
    refine ⟨_,rfl,a,ns,10,rfl,s04.seq hSq,by omega,_,rfl,_,_,rfl,rfl,⟨by decide,by decide⟩,_,_,rfl,rfl,⟨by decide,by decide,by decide⟩,_,_,rfl,rfl,(by show (0:Int) < 10 ^ (30:Int).toNat;decide),_,rfl,_,rfl,a0,_,0,_,rfl,rfl,SqT.of (s14 _ _ ha0),rfl,_,rfl,_,rfl,_,_,rfl,rfl,_,rfl,a0,_,0,_,rfl,rfl,SqT.of (s14 _ _ ha0),rfl,_,rfl,_,_,rfl,rfl,zl,fun l3 hl3=>?_⟩
    obtain ⟨e,he,hbad⟩:=pickFig (c:=cel ns 10) b far0
    obtain ⟨j,ej,hj⟩:=pickJ (cel ns 10 / 4)
    refine ⟨_,rfl,_,_,rfl,rfl,(by show (0:Int) < 4;decide),l3,_,_,_,rfl,rfl,SqL.of upd_same,he,_,rfl,_,rfl,_,_,rfl,rfl,⟨by decide,by decide⟩,_,_,rfl,rfl,(by show (0:Int) < 3;decide),l,_,_,j,rfl,rfl,(Same.new hl3) _ _ hl4,ej,g (_,_,_) ⟨(u4.trans (Same.new hl3)).put hl,[0,1,0].set j e,?_,List.length_set,.inl ⟨z,set_figs hj hbad⟩⟩⟩
    show upd _ l _ l=_
    rw [upd_same,List.map_set]
    rfl
   ·have b1:=ok.b1
    have:x=0∨x=1∨x=0:=by simpa using hx
    omega
  rintro ⟨o9,o10,H5⟩ ⟨s5,fs,hfl,hfs,hfg⟩
  refine hT7 _ _ ?_
  clear hT7
  show (tSeq _ _) E0 [some (.ref a),some (.ref a0),some (.int n),some (.int fa),some x,some (.bl okd),some (.str z),some (.ref l),some (.bl ofg),o9,o10,none] H5
  have s05:=s03.trans s5
  have s15:=(s2.trans s3).trans s5
  have ha5:=s15 _ _ ha0
  -- due
  refine cut2 fun T8 hT8=>pickA (α:=Int) (p:=fun d1=>(ofg=true∧(n < 3∨n=6)∧d1=3)∨(¬(ofg=true∧(n < 3∨n=6))∧d1=0)) (R:=fun d1=>T8 E0 [some (.ref a),some (.ref a0),some (.int n),some (.int fa),some x,some (.bl okd),some (.str z),some (.ref l),some (.bl ofg),o9,o10,some (.int d1)] H5) (fun g=>?_) fun d1 D1=>hT8 _ _ ?_
  ·refine ⟨_,rfl,_,rfl,ite2 (fun z=>⟨_,rfl,_,_,rfl,rfl,_,rfl,ite2 (fun z1=>iteT (g 3 (.inl ⟨z,.inl (of_decide_eq_true z1),rfl⟩))) (fun z1=>⟨_,rfl,rfl,_,rfl,ite2 (fun z2=>g 3 (.inl ⟨z,.inr (by simpa using z2),rfl⟩)) (fun z2=>g 0 (.inr ⟨fun h=>?_,rfl⟩))⟩)⟩) (fun z=>iteF (g 0 (.inr ⟨fun h=>z h.1,rfl⟩)))⟩
   rcases h.2 with h' | h'
   ·exact z1 (decide_eq_true h')
   ·exact z2 (by simpa using h')
  clear hT8
  refine cut1 fun T9 hT9=>pickA (α:=Int) (p:=fun d2=>(okd=true∧6≤n∧n≤8∧d2=2)∨(¬(okd=true∧6≤n∧n≤8)∧d2=d1)) (R:=fun d1=>T9 E0 [some (.ref a),some (.ref a0),some (.int n),some (.int fa),some x,some (.bl okd),some (.str z),some (.ref l),some (.bl ofg),o9,o10,some (.int d1)] H5) (fun g=>?_) fun d2 D2=>hT9 _ _ ?_
  ·exact ⟨_,rfl,_,rfl,ite2 (fun z=>⟨_,rfl,_,_,rfl,rfl,_,rfl,ite2 (fun z1=>⟨_,_,rfl,rfl,_,rfl,ite2 (fun z2=>g 2 (.inl ⟨z,of_decide_eq_true z1,of_decide_eq_true z2,rfl⟩)) (fun z2=>g d1 (.inr ⟨fun h=>z2 (decide_eq_true h.2.2),rfl⟩))⟩) (fun z1=>⟨_,rfl,iteF (g d1 (.inr ⟨fun h=>z1 (decide_eq_true h.2.1),rfl⟩))⟩)⟩) (fun z=>iteF (g d1 (.inr ⟨fun h=>z h.1,rfl⟩)))⟩
  clear hT9
  refine cut1 fun T10 hT10=>pickA (α:=Int) (p:=fun d3=>(10 < n∧b≠2∧d3=4)∨(¬(10 < n∧b≠2)∧d3=d2)) (R:=fun d1=>T10 E0 [some (.ref a),some (.ref a0),some (.int n),some (.int fa),some x,some (.bl okd),some (.str z),some (.ref l),some (.bl ofg),o9,o10,some (.int d1)] H5) (fun g=>?_) fun d3 D3=>hT10 _ _ ?_
  ·exact ⟨_,rfl,_,_,rfl,rfl,_,rfl,ite2 (fun z=>⟨_,rfl,a0,_,0,_,rfl,rfl,SqT.of ha5,rfl,rfl,_,rfl,ite2 (fun z1=>g 4 (.inl ⟨of_decide_eq_true z,by simpa using z1,rfl⟩)) (fun z1=>g d2 (.inr ⟨fun h=>z1 (by simpa using h.2),rfl⟩))⟩) (fun z=>iteF (g d2 (.inr ⟨fun h=>z (decide_eq_true h.1),rfl⟩)))⟩
  clear hT10
  refine cut1 fun T11 hT11=>pickA (α:=Int) (p:=fun d4=>(1≤fa∧fa≤8∧d4=1)∨(¬(1≤fa∧fa≤8)∧d4=d3)) (R:=fun d1=>T11 E0 [some (.ref a),some (.ref a0),some (.int n),some (.int fa),some x,some (.bl okd),some (.str z),some (.ref l),some (.bl ofg),o9,o10,some (.int d1)] H5) (fun g=>?_) fun d4 D4=>hT11 _ _ ?_
  ·exact ⟨_,rfl,_,_,rfl,rfl,_,rfl,ite2 (fun z1=>⟨_,_,rfl,rfl,_,rfl,ite2 (fun z2=>g 1 (.inl ⟨of_decide_eq_true z1,of_decide_eq_true z2,rfl⟩)) (fun z2=>g d3 (.inr ⟨fun h=>z2 (decide_eq_true h.2),rfl⟩))⟩) (fun z1=>⟨_,rfl,iteF (g d3 (.inr ⟨fun h=>z1 (decide_eq_true h.1),rfl⟩))⟩)⟩
  clear hT11
  refine ⟨_,rfl,_,rfl,_,rfl,_,rfl,n,x,z,l,ts',b',fs,rfl,n0,n14,hx.same (s3.trans s5),smx,SqL.of hfl,by omega,?_,Tc.same s05,Tg.same s05,Tu.same s05,Tp.same s05,(fun ok'=>?_),fun d H6 hd=>⟨_,rfl,rfl,hR0 _ _ ?_⟩⟩
  ·rcases hkz with ⟨_,h⟩ | ⟨_,h⟩
   ·exact .inr h
   ·exact .inl h
  ·rcases hcase with ⟨_,_,no⟩ | ⟨_,rfl,rfl⟩
   ·exact absurd ok' no
   ·exact ⟨by omega,by omega⟩
  ·have e:d=d4:=by
    rcases hcase with ⟨f1,f2,no⟩ | ⟨nf,rfl,rfl⟩
    ·rcases hd with ⟨_,h⟩ | ⟨h,_⟩
     ·omega
     ·exact absurd h no
    ·rcases hd with ⟨h,_⟩ | ⟨_,hd⟩
     ·exact absurd ok h
     ·have:=due_eq no_both hkz hfg D1 D2 D3 hd
      omega
   rw [decide_eq_true (show V.int d=V.int d4 by rw [e])]
   exact q H6
end
end My
namespace My
open PySem L2 PyProof.Rows
theorem _root_.L2.Def.has {P:Program}{w:World}{K:PySem.W.Frag}{h base:Heap}{mg:Str→Option Value}{x:Str}{st:Stmt}{f:Addr}{fd:FuncData}{ps:List Str}{k:Nat}{sp:Sp} (d:L2.Def K x st f fd) (X:K.In h) (G:h.Ns mainGlobals mg)
  (hb:Binds K fd ps []) (ok:FnOk P w K mg base CX0 k f fd ps sp):Has P w K mg base x k ps sp:=⟨f,fd,PySem.W.mg_of X G d.a,d.F.kp,hb,ok⟩
theorem law_mk {K:PySem.W.Frag}{x:Str}{st:Stmt}{f:Addr}{oc:Value}{od an:Option Addr}{osl:Array (Option Value)}{kV doc pm cdv ct:Value} (a:PySem.W.nsIn K mainGlobals x=some (some (.ref f)))
  (l:K.lookup f=some ⟨oc,od,.func (PySem.W.fnOf x x (defArgs st) (defBody st) (defScope st) .none kV doc pm an cdv ct),osl⟩) (c:PySem.W.codeIn K cdv x=true) (k:PySem.W.keepIn K (.ref f)=true)
  (b:∀ (s:Shared) (v:Value),BindsTo s (PySem.W.fnOf x x (defArgs st) (defBody st) (defScope st) .none kV doc pm an cdv ct) ⟨[v],[]⟩ [("script",v)]) :
  ∃ f fd,L2.Def K x st f fd∧∀ (s:Shared) (v:Value),BindsTo s fd ⟨[v],[]⟩ [("script",v)]:=⟨f,_,⟨a,fun_mk l c k⟩,b⟩
end My
namespace My
open PySem L2 PyProof.Rows
theorem all_mk {l:PySem.W.OpenLaw}{w:World}{K:PySem.W.Frag}{h:Heap}{mg:Str→Option Value}{cPc Pc cPg Pg cPu Pu cPp Pp:Addr}{r0 r1 r2 r3 r4 r5 r6:Addr}{fa:Addr}{t0 t1 t2 t3:Tok}{aS:Addr}{u0 u1:Tok}{dS:Option Addr}{nS:Nat}{slS:Array (Option Value)}{aW:Addr} (X:K.In h) (G:h.Ns mainGlobals mg) (hfa:mg "law"=some (.ref fa))
  (d1:∃ f fd,L2.Def K "labels_to" s_labels_to f fd)
  (d2:∃ f fd,L2.Def K "shortest" s_shortest f fd)
  (d3:∃ f fd,L2.Def K "step_counts" s_step_counts f fd)
  (d4:∃ f fd,L2.Def K "one_step_on" s_one_step_on f fd)
  (d5:∃ f fd,L2.Def K "ways_to_end" s_ways_to_end f fd)
  (d6:∃ f fd,L2.Def K "is_whole" sWhole f fd)
  (d7:∃ f fd,L2.Def K "is_tuple_of" sTupOf f fd)
  (d8:∃ f fd,L2.Def K "is_row" sRow f fd)
  (d9:∃ f fd,L2.Def K "is_table" sTab f fd)
  (d10:∃ f fd,L2.Def K "are_tables" sTabs f fd)
  (d11:∃ f fd,L2.Def K "check_scheme" sCheck f fd)
  (d12:∃ f fd,L2.Def K "check_figures" sFigs f fd)
  (d13:∃ f fd,L2.Def K "moved" sMoved f fd)
  (d14:∃ f fd,L2.Def K "spot_steps" s_spot_steps f fd)
  (d15:∃ f fd,L2.Def K "spot_after" sSpot f fd)
  (d16:∃ f fd,L2.Def K "checks_at" sChecksAt f fd)
  (d17:∃ f fd,L2.Def K "state_after" sState f fd)
  (d18:∃ f fd,L2.Def K "good" sGood f fd)
  (d19:∃ f fd,L2.Def K "checks" sChecks f fd)
  (d20:∃ f fd,L2.Def K "closing" s_closing f fd∧fd.code=.ref cPc)
  (d21:∃ f fd,L2.Def K "check_kind" s_check_kind f fd)
  (d22:∃ f fd,L2.Def K "writings" s_writings f fd)
  (d23:∃ f fd,L2.Def K "slips" s_slips f fd)
  (d24:∃ f fd,L2.Def K "all_windows" s_all_windows f fd)
  (d25:∃ f fd,L2.Def K "slipped_pairs" s_slipped_pairs f fd)
  (d26:∃ f fd,L2.Def K "ends_good" s_ends_good f fd)
  (d27:∃ f fd,L2.Def K "pair_steps" s_pair_steps f fd)
  (d28:∃ f fd,L2.Def K "joined" s_joined f fd)
  (d29:∃ f fd,L2.Def K "slip_steps" s_slip_steps f fd∧fd.code=.ref cPu)
  (d30:∃ f fd,L2.Def K "unseen" s_unseen f fd)
  (d31:∃ f fd,L2.Def K "good_count" s_good_count f fd∧fd.code=.ref cPg)
  (d32:∃ f fd,L2.Def K "missed" s_missed f fd)
  (d33:∃ f fd,L2.Def K "check_pair" s_check_pair f fd)
  (d34:∃ f fd,L2.Def K "common_turns" s_common_turns f fd)
  (d35:∃ f fd,L2.Def K "paired_row" s_paired_row f fd)
  (d36:∃ f fd,L2.Def K "paired_table" s_paired_table f fd)
  (d37:∃ f fd,L2.Def K "both" s_both f fd)
  (d38:∃ f fd,L2.Def K "parted" s_parted f fd∧fd.code=.ref cPp)
  (d39:∃ f fd,L2.Def K "line_of" s_line_of f fd)
  (d40:∃ f fd,L2.Def K "shown" s_shown f fd)
  (d41:∃ f fd,L2.Def K "_law_cell_at" sCell f fd)
  (d42:∃ f fd,L2.Def K "_law_stirred" sStir f fd)
  (d43:∃ f fd,L2.Def K "_law_weight" sWeight f fd)
  (d44:∃ f fd,L2.Def K "_law_scheme" sScheme f fd)
  (d45:∃ f fd,L2.Def K "_law_changed" s__law_changed f fd)
  (d46:∃ f fd,L2.Def K "_law_bad_row" s__law_bad_row f fd)
  (d47:∃ f fd,L2.Def K "_law_bad_table" s__law_bad_table f fd)
  (d48:∃ f fd,L2.Def K "_law_spoilt" s__law_spoilt f fd)
  (d49:∃ f fd,L2.Def K "_law_first" s__law_first f fd)
  (d50:∃ f fd,L2.Def K "_law_second" s__law_second f fd)
  (d51:∃ f fd,L2.Def K "_law_told" s__law_told f fd)
  (d52:∃ f fd,L2.Def K "law" sLaw f fd∧∀ (s:Shared) (v:Value),BindsTo s fd ⟨[v],[]⟩ [("script",v)])
  (c0:PySem.W.nsIn K mainGlobals "LEAST_BASE"=some (some (.int 2 t0)))
  (c1:PySem.W.nsIn K mainGlobals "MOST_BASE"=some (some (.int 10 t1)))
  (c2:PySem.W.nsIn K mainGlobals "MOST_TABLES"=some (some (.int 6 t2)))
  (c3:PySem.W.nsIn K mainGlobals "MOST_STATES"=some (some (.int 12 t3)))
  (x0:PySem.W.nsIn K mainGlobals "SlipError"=some (some (.ref r0)))
  (x1:PySem.W.nsIn K mainGlobals "NoScheme"=some (some (.ref r1)))
  (x2:PySem.W.nsIn K mainGlobals "OtherBase"=some (some (.ref r2)))
  (x3:PySem.W.nsIn K mainGlobals "NoRoom"=some (some (.ref r3)))
  (x4:PySem.W.nsIn K mainGlobals "NoKind"=some (some (.ref r4)))
  (x5:PySem.W.nsIn K mainGlobals "NoFigure"=some (some (.ref r5)))
  (x6:PySem.W.nsIn K mainGlobals "NoNote"=some (some (.ref r6)))
  (xv:PySem.W.nsIn K mainGlobals "ValueError"=some none)
  (xb:errsAB K r0 r1 r2 r3 r4 r5 r6=true)
  (e1:PySem.W.nsIn K mainGlobals "START"=some (some (.ref aS))) (e2:K.lookup aS=some ⟨.type "tuple",dS,.seq #[.int 0 u0,.int 0 u1] nS,slS⟩)
  (w1:PySem.W.nsIn K mainGlobals "WIDTHS"=some (some (.ref aW))) (w2:PyProof.Rows.KTD.tabLook PyProof.Rows.KTD.flatLooks (fun b=>K.lookup b) aW WDD=true) (w3:PyProof.Rows.KTD.hashesOf (fun b=>K.lookup b) aW=WDD.map fun p=>(PySem.strKind l.prog w).hash p.1)
  (z0:PySem.W.nsIn K mainGlobals "len"=some none)
  (z1:PySem.W.nsIn K mainGlobals "isinstance"=some none)
  (z2:PySem.W.nsIn K mainGlobals "int"=some none)
  (z3:PySem.W.nsIn K mainGlobals "bool"=some none)
  (z4:PySem.W.nsIn K mainGlobals "tuple"=some none)
  (z5:PySem.W.nsIn K mainGlobals "list"=some none)
  (z6:PySem.W.nsIn K mainGlobals "all"=some none)
  (z7:PySem.W.nsIn K mainGlobals "range"=some none)
  (z8:PySem.W.nsIn K mainGlobals "enumerate"=some none)
  (z9:PySem.W.nsIn K mainGlobals "sum"=some none)
  (z10:PySem.W.nsIn K mainGlobals "zip"=some none)
  (z11:PySem.W.nsIn K mainGlobals "max"=some none)
  (z12:PySem.W.nsIn K mainGlobals "str"=some none)
  (z13:PySem.W.nsIn K mainGlobals "dict"=some none) :
  ∃ fd:FuncData,(∀ (s:Shared) (v:Value),BindsTo s fd ⟨[v],[]⟩ [("script",v)])∧∀ base:Heap,K.In base→base.Ns mainGlobals mg→BMain mg base→(∀ q∈[(cPc,Pc),(cPg,Pg),(cPu,Pu),(cPp,Pp)],PySem.W.CodeHd base q.1 q.2)→FnOk l.prog w K mg base CX0 12 fa fd ["script"] (spLaw16 K Pc Pg Pu Pp):=by
 obtain ⟨f1,g1,d1⟩:=d1
 obtain ⟨f2,g2,d2⟩:=d2
 obtain ⟨f3,g3,d3⟩:=d3
 obtain ⟨f4,g4,d4⟩:=d4
 obtain ⟨f5,g5,d5⟩:=d5
 obtain ⟨f6,g6,d6⟩:=d6
 obtain ⟨f7,g7,d7⟩:=d7
 obtain ⟨f8,g8,d8⟩:=d8
 obtain ⟨f9,g9,d9⟩:=d9
 obtain ⟨f10,g10,d10⟩:=d10
 obtain ⟨f11,g11,d11⟩:=d11
 obtain ⟨f12,g12,d12⟩:=d12
 obtain ⟨f13,g13,d13⟩:=d13
 obtain ⟨f14,g14,d14⟩:=d14
 obtain ⟨f15,g15,d15⟩:=d15
 obtain ⟨f16,g16,d16⟩:=d16
 obtain ⟨f17,g17,d17⟩:=d17
 obtain ⟨f18,g18,d18⟩:=d18
 obtain ⟨f19,g19,d19⟩:=d19
 obtain ⟨f20,g20,d20,dc20⟩:=d20
 obtain ⟨f21,g21,d21⟩:=d21
 obtain ⟨f22,g22,d22⟩:=d22
 obtain ⟨f23,g23,d23⟩:=d23
 obtain ⟨f24,g24,d24⟩:=d24
 obtain ⟨f25,g25,d25⟩:=d25
 obtain ⟨f26,g26,d26⟩:=d26
 obtain ⟨f27,g27,d27⟩:=d27
 obtain ⟨f28,g28,d28⟩:=d28
 obtain ⟨f29,g29,d29,dc29⟩:=d29
 obtain ⟨f30,g30,d30⟩:=d30
 obtain ⟨f31,g31,d31,dc31⟩:=d31
 obtain ⟨f32,g32,d32⟩:=d32
 obtain ⟨f33,g33,d33⟩:=d33
 obtain ⟨f34,g34,d34⟩:=d34
 obtain ⟨f35,g35,d35⟩:=d35
 obtain ⟨f36,g36,d36⟩:=d36
 obtain ⟨f37,g37,d37⟩:=d37
 obtain ⟨f38,g38,d38,dc38⟩:=d38
 obtain ⟨f39,g39,d39⟩:=d39
 obtain ⟨f40,g40,d40⟩:=d40
 obtain ⟨f41,g41,d41⟩:=d41
 obtain ⟨f42,g42,d42⟩:=d42
 obtain ⟨f43,g43,d43⟩:=d43
 obtain ⟨f44,g44,d44⟩:=d44
 obtain ⟨f45,g45,d45⟩:=d45
 obtain ⟨f46,g46,d46⟩:=d46
 obtain ⟨f47,g47,d47⟩:=d47
 obtain ⟨f48,g48,d48⟩:=d48
 obtain ⟨f49,g49,d49⟩:=d49
 obtain ⟨f50,g50,d50⟩:=d50
 obtain ⟨f51,g51,d51⟩:=d51
 obtain ⟨f52,g52,d52,hb⟩:=d52
 have e:=hfa.symm.trans (PySem.W.mg_of X G d52.a)
 cases e
 have B:Blt mg:=⟨PySem.W.mg_none_of X G z0,PySem.W.mg_none_of X G z1,PySem.W.mg_none_of X G z2,PySem.W.mg_none_of X G z3,PySem.W.mg_none_of X G z4,PySem.W.mg_none_of X G z5,PySem.W.mg_none_of X G z6,PySem.W.mg_none_of X G z7,PySem.W.mg_none_of X G z8,PySem.W.mg_none_of X G z9⟩
 have Nm:Nums mg:=⟨⟨_,PySem.W.mg_of X G c0⟩,⟨_,PySem.W.mg_of X G c1⟩,⟨_,PySem.W.mg_of X G c2⟩,⟨_,PySem.W.mg_of X G c3⟩⟩
 have Ea:ErrsA K mg:=errsA_mk (PySem.W.mg_of X G x0) (PySem.W.mg_of X G x1) (PySem.W.mg_of X G x2) (PySem.W.mg_of X G x3) (PySem.W.mg_of X G x4) (PySem.W.mg_of X G x5) (PySem.W.mg_of X G x6) (PySem.W.mg_none_of X G xv) xb
 have Ep:ErrsP K mg:=Ea.toP
 have Zm:BltZ mg:=⟨PySem.W.mg_none_of X G z10,PySem.W.mg_none_of X G z11⟩
 have Tz:BltT mg:=⟨PySem.W.mg_none_of X G z12,PySem.W.mg_none_of X G z13⟩
 have St:StartAt K mg:=⟨aS,PySem.W.mg_of X G e1,fun H=>.inr ⟨_,_,_,e2,rfl,rfl,zl,.cons ⟨_,rfl⟩ (.cons ⟨_,rfl⟩ .nil)⟩⟩
 have Wd:WidthsAt l.prog w K mg:=⟨aW,PySem.W.mg_of X G w1,fun h x=>PySem.W.kt_tab_in l.prog w x w2 (by decide) w3⟩
 refine ⟨g52,hb,fun base _ _ BM CHs=>?_⟩
 have CHPc:PySem.W.CodeHd base cPc Pc:=CHs (cPc,Pc) List.mem_cons_self
 have CHPg:PySem.W.CodeHd base cPg Pg:=CHs (cPg,Pg) (List.mem_cons_of_mem _ List.mem_cons_self)
 have CHPu:PySem.W.CodeHd base cPu Pu:=CHs (cPu,Pu) (List.mem_cons_of_mem _ (List.mem_cons_of_mem _ List.mem_cons_self))
 have CHPp:PySem.W.CodeHd base cPp Pp:=CHs (cPp,Pp) (List.mem_cons_of_mem _ (List.mem_cons_of_mem _ (List.mem_cons_of_mem _ List.mem_cons_self)))
 have H1:Has l.prog w K mg base "labels_to" 1 ["node","arrivals"] (spLabels l.prog w K):=d1.has X G (d1.F.binds fun _ _ _ _ _ _ us hl=>match us,hl with | [_,_],_=>rfl) (ok_labels_to d1.F B  )
 have H2:HasS l.prog w K mg base "shortest" 6 ["start","steps","ends"] (preSh l.prog w K mg base) (spSh K):=⟨f2,g2,PySem.W.mg_of X G d2.a,d2.F.kp,d2.F.binds fun _ _ _ _ _ _ us hl=>match us,hl with | [_,_,_],_=>rfl,fun g=>ok_shortest d2.F B H1 g⟩
 have H3:Has l.prog w K mg base "step_counts" 1 ["steps"] (spStepCounts l.prog w K):=d3.has X G (d3.F.binds fun _ _ _ _ _ _ us hl=>match us,hl with | [_],_=>rfl) (ok_step_counts d3.F B  )
 have H4:Has l.prog w K mg base "one_step_on" 1 ["ways","counts"] (spOneStep l.prog w K):=d4.has X G (d4.F.binds fun _ _ _ _ _ _ us hl=>match us,hl with | [_,_],_=>rfl) (ok_one_step_on d4.F B  )
 have H5:HasS l.prog w K mg base "ways_to_end" 6 ["start","steps","ends","length"] (preW l.prog w K mg base) (spWays K):=⟨f5,g5,PySem.W.mg_of X G d5.a,d5.F.kp,d5.F.binds fun _ _ _ _ _ _ us hl=>match us,hl with | [_,_,_,_],_=>rfl,fun g=>ok_ways_to_end d5.F B H3 H4 g⟩
 have H6:Has l.prog w K mg base "is_whole" 1 ["value","least","most"] spWhole:=d6.has X G (d6.F.binds fun _ _ _ _ _ _ us hl=>match us,hl with | [_,_,_],_=>rfl) (ok_whole d6.F B)
 have H7:Has l.prog w K mg base "is_tuple_of" 1 ["value","least","most"] spTupOf:=d7.has X G (d7.F.binds fun _ _ _ _ _ _ us hl=>match us,hl with | [_,_,_],_=>rfl) (ok_tupOf d7.F B)
 have H8:=d8.h2 X G (base:=base) (ok_row d8.F B H7 H6) (d8.F.binds fun _ _ _ _ _ _ us hl=>match us,hl with | [_,_,_],_=>rfl)
 have H9:=d9.h2 X G (base:=base) (ok_tab d9.F B H7 H8) (d9.F.binds fun _ _ _ _ _ _ us hl=>match us,hl with | [_,_,_],_=>rfl)
 have H10:=d10.h2 X G (base:=base) (ok_tabs d10.F B Nm H7 H9) (d10.F.binds fun _ _ _ _ _ _ us hl=>match us,hl with | [_,_],_=>rfl)
 have H11:=d11.h2 X G (base:=base) (ok_check d11.F B Nm H7 H6 H10) (d11.F.binds fun _ _ _ _ _ _ us hl=>match us,hl with | [_],_=>rfl)
 have H12:=d12.h2 X G (base:=base) (ok_figs d12.F H6) (d12.F.binds fun _ _ _ _ _ _ us hl=>match us,hl with | [_,_],_=>rfl)
 have H13:Has l.prog w K mg base "moved" 1 ["tables","spot","figures"] (spMoved K):=d13.has X G (d13.F.binds fun _ _ _ _ _ _ us hl=>match us,hl with | [_,_,_],_=>rfl) (ok_moved d13.F B)
 have H14:=d14.h2 X G (base:=base) (ok_spot_steps d14.F B  H13) (d14.F.binds fun _ _ _ _ _ _ us hl=>match us,hl with | [_,_],_=>rfl)
 have H15:=d15.h2 X G (base:=base) (ok_spot d15.F St H11 H12 H13) (d15.F.binds fun _ _ _ _ _ _ us hl=>match us,hl with | [_,_],_=>rfl)
 have H16:Has l.prog w K mg base "checks_at" 1 ["tables","spot"] (spChecksAt K):=d16.has X G (d16.F.binds fun _ _ _ _ _ _ us hl=>match us,hl with | [_,_],_=>rfl) (ok_checksAt d16.F B)
 have H17:=d17.h2 X G (base:=base) (ok_state d17.F H15) (d17.F.binds fun _ _ _ _ _ _ us hl=>match us,hl with | [_,_],_=>rfl)
 have H18:=d18.h2 X G (base:=base) (ok_good d18.F H17) (d18.F.binds fun _ _ _ _ _ _ us hl=>match us,hl with | [_,_],_=>rfl)
 have H19:=d19.h2 X G (base:=base) (ok_checks d19.F H15 H16) (d19.F.binds fun _ _ _ _ _ _ us hl=>match us,hl with | [_,_],_=>rfl)
 have H20:=d20.h2 X G (base:=base) (ok_closing d20.F dc20 B BM CHPc St H11 H14 H16 H2) (d20.F.binds fun _ _ _ _ _ _ us hl=>match us,hl with | [_],_=>rfl)
 have H21:Has l.prog w K mg base "check_kind" 1 ["kind"] spKind:=d21.has X G (d21.F.binds fun _ _ _ _ _ _ us hl=>match us,hl with | [_],_=>rfl) (ok_check_kind d21.F B Wd )
 have H22:Has l.prog w K mg base "writings" 1 ["kind","window","base"] (spWritings K):=d22.has X G (d22.F.binds fun _ _ _ _ _ _ us hl=>match us,hl with | [_,_,_],_=>rfl) (ok_writings d22.F B  )
 have H23:=d23.h2 X G (base:=base) (ok_slips d23.F B Wd H11 H21 H12 H22) (d23.F.binds fun _ _ _ _ _ _ us hl=>match us,hl with | [_,_,_],_=>rfl)
 have H24:Has l.prog w K mg base "all_windows" 1 ["base","width"] spWins:=d24.has X G (d24.F.binds fun _ _ _ _ _ _ us hl=>match us,hl with | [_,_],_=>rfl) (ok_all_windows d24.F B  )
 have H25:=d25.h2 X G (base:=base) (ok_slipped_pairs d25.F B Wd H24 H22) (d25.F.binds fun _ _ _ _ _ _ us hl=>match us,hl with | [_,_],_=>rfl)
 have H26:∃ f fd,mg "ends_good"=some (.ref f)∧PySem.W.keepIn K (.ref f)=true∧Binds K fd ["node"] []∧∀ g ts,g.fin=finU→g.univ=univU ts→FnOk l.prog w K mg base CX0 4 f fd ["node"] (spEnds K g):=⟨f26,g26,PySem.W.mg_of X G d26.a,d26.F.kp,d26.F.binds fun _ _ _ _ _ _ us hl=>match us,hl with | [_],_=>rfl,fun g ts h1 h2=>ok_ends_good d26.F g ts h1 h2⟩
 have H27:=d27.h2 X G (base:=base) (ok_pair_steps d27.F B  H13) (d27.F.binds fun _ _ _ _ _ _ us hl=>match us,hl with | [_,_,_,_],_=>rfl)
 have H28:Has l.prog w K mg base "joined" 1 ["pairs"] (spJoined K):=d28.has X G (d28.F.binds fun _ _ _ _ _ _ us hl=>match us,hl with | [_],_=>rfl) (ok_joined d28.F B  )
 have H29:=d29.h2 X G (base:=base) (ok_slip_steps d29.F dc29 B BM CHPu H25 H13 H27) (d29.F.binds fun _ _ _ _ _ _ us hl=>match us,hl with | [_,_],_=>rfl)
 have H30:=d30.h2 X G (base:=base) (ok_unseen d30.F B St H11 H21 H28 H26 H2 H29) (d30.F.binds fun _ _ _ _ _ _ us hl=>match us,hl with | [_,_],_=>rfl)
 have H31:=d31.h2 X G (base:=base) (ok_good_count d31.F dc31 B BM CHPg St H11 H14 H5) (d31.F.binds fun _ _ _ _ _ _ us hl=>match us,hl with | [_,_],_=>rfl)
 have H32:=d32.h2 X G (base:=base) (ok_missed d32.F B Wd St H11 H21 H26 H5 H29) (d32.F.binds fun _ _ _ _ _ _ us hl=>match us,hl with | [_,_,_],_=>rfl)
 have H33:=d33.hX X G (base:=base) (ok_check_pair d33.F B Ep H11) (d33.F.binds fun _ _ _ _ _ _ us hl=>match us,hl with | [_,_],_=>rfl)
 have H34:Has l.prog w K mg base "common_turns" 1 ["tables","others"] (spCTurns K):=d34.has X G (d34.F.binds fun _ _ _ _ _ _ us hl=>match us,hl with | [_,_],_=>rfl) (ok_common_turns d34.F B  )
 have H35:Has l.prog w K mg base "paired_row" 1 ["row","other_row","other_states"] spPRow:=d35.has X G (d35.F.binds fun _ _ _ _ _ _ us hl=>match us,hl with | [_,_,_],_=>rfl) (ok_paired_row d35.F B Zm )
 have H36:=d36.h2 X G (base:=base) (ok_paired_table d36.F B  H35) (d36.F.binds fun _ _ _ _ _ _ us hl=>match us,hl with | [_,_],_=>rfl)
 have H37:=d37.hX X G (base:=base) (ok_both d37.F B Nm Ea H33 H34 H36) (d37.F.binds fun _ _ _ _ _ _ us hl=>match us,hl with | [_,_],_=>rfl)
 have H38:=d38.hX X G (base:=base) (ok_parted d38.F dc38 B BM CHPp St H33 H13 H2) (d38.F.binds fun _ _ _ _ _ _ us hl=>match us,hl with | [_,_],_=>rfl)
 have H39:Has l.prog w K mg base "line_of" 1 ["numbers"] (spLine K):=d39.has X G (d39.F.binds fun _ _ _ _ _ _ us hl=>match us,hl with | [_],_=>rfl) (ok_line_of d39.F B Tz )
 have H40:=d40.h2 X G (base:=base) (ok_shown d40.F B  H11 H39) (d40.F.binds fun _ _ _ _ _ _ us hl=>match us,hl with | [_],_=>rfl)
 have H41:Has l.prog w K mg base "_law_cell_at" 1 ["script","k"] (spCell K):=d41.has X G (d41.F.binds fun _ _ _ _ _ _ us hl=>match us,hl with | [_,_],_=>rfl) (ok_cell d41.F B)
 have H42:Has l.prog w K mg base "_law_stirred" 1 ["cell","k"] spStir:=d42.has X G (d42.F.binds fun _ _ _ _ _ _ us hl=>match us,hl with | [_,_],_=>rfl) (ok_stir d42.F)
 have H43:=d43.h2 X G (base:=base) (ok_weight d43.F B H41) (d43.F.binds fun _ _ _ _ _ _ us hl=>match us,hl with | [_,_,_,_],_=>rfl)
 have H44:=d44.h2 X G (base:=base) (ok_scheme d44.F B H41 H42 H43) (d44.F.binds fun _ _ _ _ _ _ us hl=>match us,hl with | [_,_,_],_=>rfl)
 have H45:Has l.prog w K mg base "_law_changed" 1 ["rows","at","part"] (spChanged K):=d45.has X G (d45.F.binds fun _ _ _ _ _ _ us hl=>match us,hl with | [_,_,_],_=>rfl) (ok__law_changed d45.F B  )
 have H46:=d46.h2 X G (base:=base) (ok__law_bad_row d46.F B  H45) (d46.F.binds fun _ _ _ _ _ _ us hl=>match us,hl with | [_,_,_,_],_=>rfl)
 have H47:=d47.h2 X G (base:=base) (ok__law_bad_table d47.F B  H45 H46) (d47.F.binds fun _ _ _ _ _ _ us hl=>match us,hl with | [_,_,_],_=>rfl)
 have H48:=d48.h2 X G (base:=base) (ok__law_spoilt d48.F B  H45 H47) (d48.F.binds fun _ _ _ _ _ _ us hl=>match us,hl with | [_,_,_],_=>rfl)
 have H1000:=d11.hX X G (base:=base) (ok_checkX d11.F Nm Ea H7 H6 H10) (d11.F.binds fun _ _ _ _ _ _ us hl=>match us,hl with | [_],_=>rfl)
 have H1001:=d12.hX X G (base:=base) (ok_figsX d12.F Ea H6) (d12.F.binds fun _ _ _ _ _ _ us hl=>match us,hl with | [_,_],_=>rfl)
 have H1002:=d15.hX X G (base:=base) (ok_spotB d15.F H1000 H1001) (d15.F.binds fun _ _ _ _ _ _ us hl=>match us,hl with | [_,_],_=>rfl)
 have H1003:=d17.hX X G (base:=base) (u_state (ok_state d17.F H15) (ok_stateB d17.F H1002)) (d17.F.binds fun _ _ _ _ _ _ us hl=>match us,hl with | [_,_],_=>rfl)
 have H1004:=d17.hX X G (base:=base) (ok_stateB d17.F H1002) (d17.F.binds fun _ _ _ _ _ _ us hl=>match us,hl with | [_,_],_=>rfl)
 have H1005:=d18.hX X G (base:=base) (u_good (ok_good d18.F H17) (ok_goodB d18.F H1004)) (d18.F.binds fun _ _ _ _ _ _ us hl=>match us,hl with | [_,_],_=>rfl)
 have H1006:=d19.hX X G (base:=base) (u_checks (ok_checks d19.F H15 H16) (ok_checksB d19.F H1002)) (d19.F.binds fun _ _ _ _ _ _ us hl=>match us,hl with | [_,_],_=>rfl)
 have H1007:=d20.hX X G (base:=base) (u_closing (ok_closing d20.F dc20 B BM CHPc St H11 H14 H16 H2) (ok_closingB d20.F H1000)) (d20.F.binds fun _ _ _ _ _ _ us hl=>match us,hl with | [_],_=>rfl)
 have H1008:=d31.hX X G (base:=base) (u_good_count (ok_good_count d31.F dc31 B BM CHPg St H11 H14 H5) (ok_good_countB d31.F H1000)) (d31.F.binds fun _ _ _ _ _ _ us hl=>match us,hl with | [_,_],_=>rfl)
 have H1009:=d40.hX X G (base:=base) (u_shown (ok_shown d40.F B  H11 H39) (ok_shownB d40.F H1000)) (d40.F.binds fun _ _ _ _ _ _ us hl=>match us,hl with | [_],_=>rfl)
 have H49:=d49.hX X G (base:=base) (ok__law_first d49.F B  H1003 H1005 H1006 H1007 H1008 H1009) (d49.F.binds fun _ _ _ _ _ _ us hl=>match us,hl with | [_,_,_],_=>rfl)
 have H1010:HasX l.prog w K mg base "check_kind" 1 ["kind"] (spKindX mg):=⟨f21,g21,PySem.W.mg_of X G d21.a,d21.F.kp,d21.F.binds fun _ _ _ _ _ _ us hl=>match us,hl with | [_],_=>rfl,ok_kindX d21.F Ea Wd⟩
 have H1011:=d23.hX X G (base:=base) (u_slips (ok_slips d23.F B Wd H11 H21 H12 H22) (ok_slipsB d23.F H1000 H1010 H1001)) (d23.F.binds fun _ _ _ _ _ _ us hl=>match us,hl with | [_,_,_],_=>rfl)
 have H1012:=d30.hX X G (base:=base) (u_unseen (ok_unseen d30.F B St H11 H21 H28 H26 H2 H29) (ok_unseenB d30.F H1000 H1010)) (d30.F.binds fun _ _ _ _ _ _ us hl=>match us,hl with | [_,_],_=>rfl)
 have H1013:=d32.hX X G (base:=base) (u_missed (ok_missed d32.F B Wd St H11 H21 H26 H5 H29) (ok_missedB d32.F H1000 H1010)) (d32.F.binds fun _ _ _ _ _ _ us hl=>match us,hl with | [_,_,_],_=>rfl)
 have H1014:=d33.hX X G (base:=base) (ok_pairB d33.F H1000) (d33.F.binds fun _ _ _ _ _ _ us hl=>match us,hl with | [_,_],_=>rfl)
 have H1015:=d37.hX X G (base:=base) (u_both (ok_both d37.F B Nm Ea H33 H34 H36) (ok_bothB d37.F H1014)) (d37.F.binds fun _ _ _ _ _ _ us hl=>match us,hl with | [_,_],_=>rfl)
 have H1016:=d38.hX X G (base:=base) (u_parted (ok_parted d38.F dc38 B BM CHPp St H33 H13 H2) (ok_partedB d38.F H1014)) (d38.F.binds fun _ _ _ _ _ _ us hl=>match us,hl with | [_,_],_=>rfl)
 have H50:=d50.hX X G (base:=base) (ok__law_second d50.F B  H1011 H1012 H1013 H1015 H1016) (d50.F.binds fun _ _ _ _ _ _ us hl=>match us,hl with | [_,_,_,_],_=>rfl)
 have H51:=d51.h2 X G (base:=base) (ok__law_told d51.F B Ea H49 H50) (d51.F.binds fun _ _ _ _ _ _ us hl=>match us,hl with | [_,_,_,_],_=>rfl)
 exact ok_law d52.F B  H41 H44 H48 H51
theorem tabIn_mk {K:PySem.W.Frag}{x:Str}{st:Stmt}{f c Pt:Addr}{oc o1:Value}{od an o2:Option Addr}{osl o3:Array (Option Value)}{vs:Array Value}{kV doc pm ct:Value} (a:PySem.W.nsIn K mainGlobals x=some (some (.ref f)))
  (l:K.lookup f=some ⟨oc,od,.func (PySem.W.fnOf x x (defArgs st) (defBody st) (defScope st) .none kV doc pm an (.ref c) ct),osl⟩) (m:K.lookup c=some ⟨o1,o2,.fields vs,o3⟩) (e:vs[11]? = some (.ref Pt)):PySem.W.tabIn K x=some (c,Pt):=by
 unfold PySem.W.tabIn
 rw [a]
 simp only [l]
 show (match K.lookup c with
    | some ⟨_,_,.fields vs,_⟩=>(match (vs[11]?:Option Value) with
     | some (.ref P)=>some (c,P)
     | _=>none)
    | _=>none)=some (c,Pt)
 rw [m]
 show (match (vs[11]?:Option Value) with
     | some (.ref P)=>some (c,P)
     | _=>none)=some (c,Pt)
 rw [e]
theorem tabs_four {cPc Pc cPg Pg cPu Pu cPp Pp:Addr}{h:Heap} (x0:PySem.W.CodeHd h cPc Pc∧h.get? Pc=some (PySem.W.tabObj #[])) (x1:PySem.W.CodeHd h cPg Pg∧h.get? Pg=some (PySem.W.tabObj #[])) (x2:PySem.W.CodeHd h cPu Pu∧h.get? Pu=some (PySem.W.tabObj #[])) (x3:PySem.W.CodeHd h cPp Pp∧h.get? Pp=some (PySem.W.tabObj #[])):PySem.W.TabsAt [(cPc,Pc),(cPg,Pg),(cPu,Pu),(cPp,Pp)] h:=List.forall_mem_cons.mpr ⟨x0,List.forall_mem_cons.mpr ⟨x1,List.forall_mem_cons.mpr ⟨x2,List.forall_mem_cons.mpr ⟨x3,fun _ z=>nomatch z⟩⟩⟩⟩
theorem defT_mk {K:PySem.W.Frag}{x:Str}{st:Stmt}{f c:Addr}{oc:Value}{od an:Option Addr}{osl:Array (Option Value)}{kV doc pm ct:Value} (a:PySem.W.nsIn K mainGlobals x=some (some (.ref f)))
  (l:K.lookup f=some ⟨oc,od,.func (PySem.W.fnOf x x (defArgs st) (defBody st) (defScope st) .none kV doc pm an (.ref c) ct),osl⟩) (hc:PySem.W.codeIn K (.ref c) x=true) (k:PySem.W.keepIn K (.ref f)=true) :
  ∃ f fd,L2.Def K x st f fd∧fd.code=.ref c:=⟨f,_,⟨a,fun_mk l hc k⟩,rfl⟩
theorem walk {l:PySem.W.OpenLaw}{q:Program}{loose:List Str}{XP:(Str→Option Value)→Heap→Prop}{YP:World→Heap→Prop}{d:DefRec}{K:Params→PySem.W.Frag}{cPc Pc cPg Pg cPu Pu cPp Pp:Addr} (hn:l.most=some 63) (hdf:d.params.defaults=[])
  (hY:∀ (w:World) (h:Heap),YP w h→(K w.params).In h)
  (hT:∀ (w:World) (mg mb:Str→Option Value) (mean:ExcName→Option Value) (h:Heap),(K w.params).In h→Top q (PySem.W.looseW q loose) mean mg mb h→PySem.W.TabsAt [(cPc,Pc),(cPg,Pg),(cPu,Pu),(cPp,Pp)] h) (hK:∀ w:World,PySem.W.noTabs (K w.params)=true)
  (F:∀ (w:World) (mg:Str→Option Value) (fa:Addr) (h:Heap),(K w.params).In h→h.Ns mainGlobals mg→mg d.name=some (.ref fa) →
   ∃ fd:FuncData,(∀ (s:Shared) (u:Value),BindsTo s fd ⟨[u],[]⟩ [("script",u)])∧∀ base:Heap,(K w.params).In base→base.Ns mainGlobals mg→BMain mg base→(∀ q∈[(cPc,Pc),(cPg,Pg),(cPu,Pu),(cPp,Pp)],PySem.W.CodeHd base q.1 q.2)→FnOk l.prog w (K w.params) mg base CX0 12 fa fd ["script"] (spLaw16 (K w.params) Pc Pg Pu Pp)) :
  PySem.W.WalkO q loose XP YP l.row.toRowW d [] (fun f vs=>PySem.call f vs) :=
 L2.walk_ofT (n:=63) (k:=12) (x:="script") (CX:=fun _=>CX0) (sp:=fun w=>(spLaw16 (K w.params) Pc Pg Pu Pp)) (tabs:=[(cPc,Pc),(cPg,Pg),(cPu,Pu),(cPp,Pp)]) hn (by decide) hdf ⟨rfl,by decide,by decide⟩ hY hT hK F (fun _ H a ns hl hS hTb=>⟨a,ns,rfl,hS,hl,⟨#[],hTb (cPc,Pc) List.mem_cons_self,trivial,fun _ _ _ e=>by cases e⟩,⟨#[],hTb (cPg,Pg) (List.mem_cons_of_mem _ List.mem_cons_self),trivial,fun _ _ _ e=>by cases e⟩,⟨#[],hTb (cPu,Pu) (List.mem_cons_of_mem _ (List.mem_cons_of_mem _ List.mem_cons_self)),trivial,fun _ _ _ e=>by cases e⟩,⟨#[],hTb (cPp,Pp) (List.mem_cons_of_mem _ (List.mem_cons_of_mem _ (List.mem_cons_of_mem _ List.mem_cons_self))),trivial,fun _ _ _ e=>by cases e⟩,fun _=>rfl⟩) fun _ _ _ _ _ z=>z
end My
namespace PySem.W.Fast
theorem tw10015195396546477200:0=0:=rfl
theorem tw10024748732532456077:0=0:=rfl
theorem tw10107867235700885141:0=0:=rfl
theorem tw10204592214799230835:0=0:=rfl
theorem tw10235265694634999253:0=0:=rfl
theorem tw10288773661304223778:0=0:=rfl
theorem tw10298583966785134244:0=0:=rfl
theorem tw10306412881627612571:0=0:=rfl
theorem tw1036699030261223716:0=0:=rfl
theorem tw10370749133155796303:0=0:=rfl
theorem tw1039923843122106801:0=0:=rfl
theorem tw10479573913748346621:0=0:=rfl
theorem tw10638170046932044903:0=0:=rfl
theorem tw10651909959794191741:0=0:=rfl
theorem tw1065573058293013088:0=0:=rfl
theorem tw10672180871687829116:0=0:=rfl
theorem tw10679801646642419562:0=0:=rfl
theorem tw10694038719536065304:0=0:=rfl
theorem tw10697833671610410850:0=0:=rfl
theorem tw10719524042470935870:0=0:=rfl
theorem tw10782778046609390080:0=0:=rfl
theorem tw10788964066962011404:0=0:=rfl
theorem tw10892323090718533731:0=0:=rfl
theorem tw10955548285097505010:0=0:=rfl
theorem tw10985420998173419914:0=0:=rfl
theorem tw11029231651099776703:0=0:=rfl
theorem tw11046747514723920115:0=0:=rfl
theorem tw11134651342096156202:0=0:=rfl
theorem tw11148276546201318415:0=0:=rfl
theorem tw11212641701100521032:0=0:=rfl
theorem tw11221115370528514983:0=0:=rfl
theorem tw11256752718133907704:0=0:=rfl
theorem tw1139975424551998294:0=0:=rfl
theorem tw1141306704711847375:0=0:=rfl
theorem tw11491855136353067878:0=0:=rfl
theorem tw11519271128485612326:0=0:=rfl
theorem tw11563451085163304405:0=0:=rfl
theorem tw11582342264659726002:0=0:=rfl
theorem tw11609613329423877826:0=0:=rfl
theorem tw11669355778638911978:0=0:=rfl
theorem tw11796804106609652879:0=0:=rfl
theorem tw11801023851504418737:0=0:=rfl
theorem tw11894855912090308183:0=0:=rfl
theorem tw11899621302534767118:0=0:=rfl
theorem tw11916644060253938251:0=0:=rfl
theorem tw11980670204533725961:0=0:=rfl
theorem tw1199352064175313742:0=0:=rfl
theorem tw12020161940121389358:0=0:=rfl
theorem tw12059784506265034111:0=0:=rfl
theorem tw12076542455573894372:0=0:=rfl
theorem tw1213734159150055905:0=0:=rfl
theorem tw121639754955653967:0=0:=rfl
theorem tw12168222037104300233:0=0:=rfl
theorem tw12278424673598999172:0=0:=rfl
theorem tw12393298795033910044:0=0:=rfl
theorem tw12412003859218913830:0=0:=rfl
theorem tw12418647831761553268:0=0:=rfl
theorem tw12469754484341537647:0=0:=rfl
theorem tw12556263998271283918:0=0:=rfl
theorem tw12636648994493956123:0=0:=rfl
theorem tw12656289840954631744:0=0:=rfl
theorem tw12667351869546164320:0=0:=rfl
theorem tw12766428007082608199:0=0:=rfl
theorem tw12778278005242895747:0=0:=rfl
theorem tw12856741949008222476:0=0:=rfl
theorem tw12879845207266991198:0=0:=rfl
theorem tw12916355701840598155:0=0:=rfl
theorem tw12955520952012475364:0=0:=rfl
theorem tw13109800153862327277:0=0:=rfl
theorem tw13209006087153088312:0=0:=rfl
theorem tw13253994252557398118:0=0:=rfl
theorem tw13261740109558931599:0=0:=rfl
theorem tw13301903135848162633:0=0:=rfl
theorem tw13308675868163777024:0=0:=rfl
theorem tw13340692077747592649:0=0:=rfl
theorem tw13375600805535037822:0=0:=rfl
theorem tw13386121795866438901:0=0:=rfl
theorem tw13394760836170663263:0=0:=rfl
theorem tw13437334218793071441:0=0:=rfl
theorem tw13448309758005409305:0=0:=rfl
theorem tw1345904118464064026:0=0:=rfl
theorem tw13480074215066873808:0=0:=rfl
theorem tw13522112651688128109:0=0:=rfl
theorem tw13539905195062556786:0=0:=rfl
theorem tw135484793843135537:0=0:=rfl
theorem tw13560128456843593246:0=0:=rfl
theorem tw13566648653192601527:0=0:=rfl
theorem tw13580451486218736791:0=0:=rfl
theorem tw13586350473877880717:0=0:=rfl
theorem tw13639080547624703498:0=0:=rfl
theorem tw13670612540968905306:0=0:=rfl
theorem tw13719563601833673172:0=0:=rfl
theorem tw13720663856687267895:0=0:=rfl
theorem tw1373552648612102553:0=0:=rfl
theorem tw13830571815423407574:0=0:=rfl
theorem tw13846074775868383158:0=0:=rfl
theorem tw13898603781944049387:0=0:=rfl
theorem tw13974928319642857606:0=0:=rfl
theorem tw1412388567495546962:0=0:=rfl
theorem tw14186288869275348972:0=0:=rfl
theorem tw141984151961471113:0=0:=rfl
theorem tw14298816369428006568:0=0:=rfl
theorem tw14382434110299567766:0=0:=rfl
theorem tw14410291741145243898:0=0:=rfl
theorem tw14601750609461970215:0=0:=rfl
theorem tw14635044971087780254:0=0:=rfl
theorem tw14635483899715350979:0=0:=rfl
theorem tw14716431282124434932:0=0:=rfl
theorem tw14723958525980992535:0=0:=rfl
theorem tw14768469790713315615:0=0:=rfl
theorem tw14798312845818601456:0=0:=rfl
theorem tw14865557611385005033:0=0:=rfl
theorem tw14875786895105945735:0=0:=rfl
theorem tw14936130545937744504:0=0:=rfl
theorem tw14985247973529872994:0=0:=rfl
theorem tw15011439163361004809:0=0:=rfl
theorem tw15057618164131023215:0=0:=rfl
theorem tw15119440893194463080:0=0:=rfl
theorem tw15138695295528874946:0=0:=rfl
theorem tw15165120466404350043:0=0:=rfl
theorem tw15188696586482547953:0=0:=rfl
theorem tw15236011469311447610:0=0:=rfl
theorem tw15266217716705334758:0=0:=rfl
theorem tw15278865049267974996:0=0:=rfl
theorem tw15318566323546418514:0=0:=rfl
theorem tw15424957995156970770:0=0:=rfl
theorem tw15435156728381763167:0=0:=rfl
theorem tw15456187867007402984:0=0:=rfl
theorem tw1549063861901163316:0=0:=rfl
theorem tw1549138660890844765:0=0:=rfl
theorem tw15669086710394277716:0=0:=rfl
theorem tw1570569456368519249:0=0:=rfl
theorem tw15757665117315477340:0=0:=rfl
theorem tw15793054263259655171:0=0:=rfl
theorem tw15849388577694591046:0=0:=rfl
theorem tw15863401879543440111:0=0:=rfl
theorem tw15904436708576809578:0=0:=rfl
theorem tw15913635184096735639:0=0:=rfl
theorem tw15918109120279347135:0=0:=rfl
theorem tw1598543634790491525:0=0:=rfl
theorem tw16003908215527792565:0=0:=rfl
theorem tw1604231014489468762:0=0:=rfl
theorem tw16046192851827858415:0=0:=rfl
theorem tw16047942473670450825:0=0:=rfl
theorem tw16055781092065162438:0=0:=rfl
theorem tw16072230505507566305:0=0:=rfl
theorem tw16074229905562497786:0=0:=rfl
theorem tw16110407513366634313:0=0:=rfl
theorem tw16124124017276963983:0=0:=rfl
theorem tw16130353495783042584:0=0:=rfl
theorem tw16159467256382861227:0=0:=rfl
theorem tw16161118990019688521:0=0:=rfl
theorem tw16177709430976469711:0=0:=rfl
theorem tw16216380295867264111:0=0:=rfl
theorem tw16252342897903266984:0=0:=rfl
theorem tw16294861008610180933:0=0:=rfl
theorem tw16417486608709254428:0=0:=rfl
theorem tw16440553188117999933:0=0:=rfl
theorem tw16456149296032938893:0=0:=rfl
theorem tw16464783952730817242:0=0:=rfl
theorem tw1648321870940917354:0=0:=rfl
theorem tw16499397514140317802:0=0:=rfl
theorem tw16524243314954793067:0=0:=rfl
theorem tw16543973019992947995:0=0:=rfl
theorem tw16595692626536260530:0=0:=rfl
theorem tw16641911603767619715:0=0:=rfl
theorem tw16649285063683196137:0=0:=rfl
theorem tw16722301598279375491:0=0:=rfl
theorem tw16737455185377088297:0=0:=rfl
theorem tw16773654081930100962:0=0:=rfl
theorem tw16807177603605822313:0=0:=rfl
theorem tw16945221571068485162:0=0:=rfl
theorem tw17048992751395034747:0=0:=rfl
theorem tw17055616699656118682:0=0:=rfl
theorem tw17114563878551201470:0=0:=rfl
theorem tw1713132970767265714:0=0:=rfl
theorem tw17144769056677184911:0=0:=rfl
theorem tw1720145462472384702:0=0:=rfl
theorem tw17256526142191275170:0=0:=rfl
theorem tw1726344928019213155:0=0:=rfl
theorem tw17339016311751220451:0=0:=rfl
theorem tw17380833036043064516:0=0:=rfl
theorem tw17474173295064620280:0=0:=rfl
theorem tw17504807670409839224:0=0:=rfl
theorem tw17555163532818003697:0=0:=rfl
theorem tw17564115845256447293:0=0:=rfl
theorem tw17580321088893825025:0=0:=rfl
theorem tw17583226306801098953:0=0:=rfl
theorem tw17640237384623984524:0=0:=rfl
theorem tw17704290634075709015:0=0:=rfl
theorem tw17716921117714473934:0=0:=rfl
theorem tw17736617902650271011:0=0:=rfl
theorem tw17785684089154518106:0=0:=rfl
theorem tw1782245942261250164:0=0:=rfl
theorem tw17842114369487017061:0=0:=rfl
theorem tw17855789962313995145:0=0:=rfl
theorem tw17902818509422364549:0=0:=rfl
theorem tw17941145279441346454:0=0:=rfl
theorem tw17965097944136064847:0=0:=rfl
theorem tw17990069489180006783:0=0:=rfl
theorem tw18000692927611876271:0=0:=rfl
theorem tw18125076292410034517:0=0:=rfl
theorem tw18136241649594118171:0=0:=rfl
theorem tw18193138008322111565:0=0:=rfl
theorem tw18214801329960222688:0=0:=rfl
theorem tw1882622205518498142:0=0:=rfl
theorem tw1885720055761346521:0=0:=rfl
theorem tw1887715945528982698:0=0:=rfl
theorem tw1908192607001853560:0=0:=rfl
theorem tw197010602357867012:0=0:=rfl
theorem tw205386189424351462:0=0:=rfl
theorem tw2157084429164052862:0=0:=rfl
theorem tw2175361247953963094:0=0:=rfl
theorem tw2178706513201179523:0=0:=rfl
theorem tw2203349307437469441:0=0:=rfl
theorem tw2268962728431382325:0=0:=rfl
theorem tw2307162621516324363:0=0:=rfl
theorem tw2373069595243587500:0=0:=rfl
theorem tw2374171544411989229:0=0:=rfl
theorem tw2382783261834640:0=0:=rfl
theorem tw2474015431514720364:0=0:=rfl
theorem tw2570994741264652276:0=0:=rfl
theorem tw2597272765028659571:0=0:=rfl
theorem tw2695812455245625963:0=0:=rfl
theorem tw2726589947844571418:0=0:=rfl
theorem tw2739814546433896762:0=0:=rfl
theorem tw2747469809655518902:0=0:=rfl
theorem tw2783770558731999856:0=0:=rfl
theorem tw2867045494193223513:0=0:=rfl
theorem tw294410526356587139:0=0:=rfl
theorem tw2945421366033513249:0=0:=rfl
theorem tw2963041155731177038:0=0:=rfl
theorem tw297111356194521916:0=0:=rfl
theorem tw3090992191705074508:0=0:=rfl
theorem tw3091849739388182746:0=0:=rfl
theorem tw3105570209078146673:0=0:=rfl
theorem tw3116646011770056483:0=0:=rfl
theorem tw3132868087479434298:0=0:=rfl
theorem tw3145586618609442518:0=0:=rfl
theorem tw3158819557961269863:0=0:=rfl
theorem tw3178661403961643401:0=0:=rfl
theorem tw3198668836415642873:0=0:=rfl
theorem tw3220896929090449512:0=0:=rfl
theorem tw3251829507885244844:0=0:=rfl
theorem tw3283744038882122019:0=0:=rfl
theorem tw3289138928847548762:0=0:=rfl
theorem tw3364535757188190742:0=0:=rfl
theorem tw3369720698083990458:0=0:=rfl
theorem tw3435467865099068615:0=0:=rfl
theorem tw3446246545031240670:0=0:=rfl
theorem tw3479648154529684835:0=0:=rfl
theorem tw3486265761869253314:0=0:=rfl
theorem tw3529401571829236810:0=0:=rfl
theorem tw3532402327751242593:0=0:=rfl
theorem tw3574412974342701881:0=0:=rfl
theorem tw3634311296123698794:0=0:=rfl
theorem tw3663216340816101173:0=0:=rfl
theorem tw3703550999888125091:0=0:=rfl
theorem tw3707489372718663178:0=0:=rfl
theorem tw3734221901363299115:0=0:=rfl
theorem tw3769352507905883486:0=0:=rfl
theorem tw377088724790652154:0=0:=rfl
theorem tw37758424426924732:0=0:=rfl
theorem tw3783520743239136775:0=0:=rfl
theorem tw3813866792013058422:0=0:=rfl
theorem tw3816028814318156134:0=0:=rfl
theorem tw3851977887894692200:0=0:=rfl
theorem tw3902388648699786133:0=0:=rfl
theorem tw4008355895207762050:0=0:=rfl
theorem tw4059669118995407074:0=0:=rfl
theorem tw406675855915920583:0=0:=rfl
theorem tw4140053167450773875:0=0:=rfl
theorem tw4178929363300621697:0=0:=rfl
theorem tw4188189230327683942:0=0:=rfl
theorem tw4199951652006095310:0=0:=rfl
theorem tw4207831903911036794:0=0:=rfl
theorem tw4230402435411738266:0=0:=rfl
theorem tw4264906079966453332:0=0:=rfl
theorem tw4310634887298820049:0=0:=rfl
theorem tw4331303708400042520:0=0:=rfl
theorem tw4360308544208214070:0=0:=rfl
theorem tw4403852413946067963:0=0:=rfl
theorem tw4563421705172065968:0=0:=rfl
theorem tw4643071233233531599:0=0:=rfl
theorem tw4644539697391982601:0=0:=rfl
theorem tw4661140469455184998:0=0:=rfl
theorem tw4683024762684345447:0=0:=rfl
theorem tw4708997485509199126:0=0:=rfl
theorem tw4713668712811944963:0=0:=rfl
theorem tw4788581241592725948:0=0:=rfl
theorem tw4797709234634906250:0=0:=rfl
theorem tw4862989403439223744:0=0:=rfl
theorem tw4869736582083130944:0=0:=rfl
theorem tw489355042413596256:0=0:=rfl
theorem tw5009995503701124120:0=0:=rfl
theorem tw5058494917589918653:0=0:=rfl
theorem tw5065883427644964991:0=0:=rfl
theorem tw5084898622695316858:0=0:=rfl
theorem tw5169864757875380976:0=0:=rfl
theorem tw5178517721848153694:0=0:=rfl
theorem tw5202583614716298472:0=0:=rfl
theorem tw5206495858650723988:0=0:=rfl
theorem tw522050327255053233:0=0:=rfl
theorem tw5265503754290502776:0=0:=rfl
theorem tw5472040076293570479:0=0:=rfl
theorem tw5484084208001255489:0=0:=rfl
theorem tw549853104828159556:0=0:=rfl
theorem tw5498619960905360804:0=0:=rfl
theorem tw5534364265644868983:0=0:=rfl
theorem tw5563528734684502681:0=0:=rfl
theorem tw5614159901623016789:0=0:=rfl
theorem tw563067518459213037:0=0:=rfl
theorem tw5659035123988739392:0=0:=rfl
theorem tw5660404481813155915:0=0:=rfl
theorem tw566714211080225788:0=0:=rfl
theorem tw5703359665085814111:0=0:=rfl
theorem tw5719770509642498555:0=0:=rfl
theorem tw5779322203035182254:0=0:=rfl
theorem tw5819866257704838211:0=0:=rfl
theorem tw5878918618346311880:0=0:=rfl
theorem tw5879745339331495583:0=0:=rfl
theorem tw5897251401672237890:0=0:=rfl
theorem tw5958921543655942958:0=0:=rfl
theorem tw6053402566934170488:0=0:=rfl
theorem tw611452619983884905:0=0:=rfl
theorem tw6131883806810501863:0=0:=rfl
theorem tw6174720835022176025:0=0:=rfl
theorem tw6280111349613253469:0=0:=rfl
theorem tw6444291883324179824:0=0:=rfl
theorem tw6459549527500059388:0=0:=rfl
theorem tw6479986938841341092:0=0:=rfl
theorem tw6528560855669825017:0=0:=rfl
theorem tw660537638728354664:0=0:=rfl
theorem tw6635185002457997254:0=0:=rfl
theorem tw6675466455444634889:0=0:=rfl
theorem tw6760173383740392297:0=0:=rfl
theorem tw6804743731353378126:0=0:=rfl
theorem tw6873912177479871673:0=0:=rfl
theorem tw6879214409608210777:0=0:=rfl
theorem tw6959820947548342913:0=0:=rfl
theorem tw7051849043314435334:0=0:=rfl
theorem tw706029353917188079:0=0:=rfl
theorem tw7129517301772827075:0=0:=rfl
theorem tw722355368902807423:0=0:=rfl
theorem tw7236864575183121476:0=0:=rfl
theorem tw7239847068893599758:0=0:=rfl
theorem tw7256058351088344922:0=0:=rfl
theorem tw7317652221457820123:0=0:=rfl
theorem tw745531759804876403:0=0:=rfl
theorem tw7565303784719187897:0=0:=rfl
theorem tw7568579562070539936:0=0:=rfl
theorem tw7619057464420675685:0=0:=rfl
theorem tw7630674505345282907:0=0:=rfl
theorem tw7631092307099523094:0=0:=rfl
theorem tw7665040217291458424:0=0:=rfl
theorem tw7829035951667340146:0=0:=rfl
theorem tw7863813933199350278:0=0:=rfl
theorem tw7874280007924420797:0=0:=rfl
theorem tw7879384897551447505:0=0:=rfl
theorem tw7911156957791812729:0=0:=rfl
theorem tw7949465974550224943:0=0:=rfl
theorem tw7950574131583187378:0=0:=rfl
theorem tw7966639110834768325:0=0:=rfl
theorem tw7987010571211467022:0=0:=rfl
theorem tw7990022632817323977:0=0:=rfl
theorem tw800478948500295811:0=0:=rfl
theorem tw8068294621068976247:0=0:=rfl
theorem tw8083099578793238151:0=0:=rfl
theorem tw8103620963152994013:0=0:=rfl
theorem tw8405515546671582568:0=0:=rfl
theorem tw8417989412305356232:0=0:=rfl
theorem tw8423389643967560448:0=0:=rfl
theorem tw8512418270792450855:0=0:=rfl
theorem tw8519007242258288259:0=0:=rfl
theorem tw8561272732323776882:0=0:=rfl
theorem tw8593884492904741519:0=0:=rfl
theorem tw8622115394654085959:0=0:=rfl
theorem tw8656009552562378860:0=0:=rfl
theorem tw8666364963430145967:0=0:=rfl
theorem tw8717061579481235174:0=0:=rfl
theorem tw8733775546365374632:0=0:=rfl
theorem tw8746691202032376189:0=0:=rfl
theorem tw8747097644194380238:0=0:=rfl
theorem tw8789694202346158327:0=0:=rfl
theorem tw8845084493190081220:0=0:=rfl
theorem tw8883787493069188992:0=0:=rfl
theorem tw8897863395929835933:0=0:=rfl
theorem tw8898730968306086433:0=0:=rfl
theorem tw8921059743154370280:0=0:=rfl
theorem tw8950968841446355071:0=0:=rfl
theorem tw8965001409696673616:0=0:=rfl
theorem tw9031795694070198:0=0:=rfl
theorem tw9036728000841828339:0=0:=rfl
theorem tw9044775946288956334:0=0:=rfl
theorem tw9108432991855541743:0=0:=rfl
theorem tw9148836548484027661:0=0:=rfl
theorem tw9191841801535251159:0=0:=rfl
theorem tw9222270576212311294:0=0:=rfl
theorem tw9291594105044702356:0=0:=rfl
theorem tw9328336807005256135:0=0:=rfl
theorem tw9528392844188811295:0=0:=rfl
theorem tw9540151954562264527:0=0:=rfl
theorem tw9557754836987351666:0=0:=rfl
theorem tw9570194689411602720:0=0:=rfl
theorem tw9591355497428916227:0=0:=rfl
theorem tw9632018089378918956:0=0:=rfl
theorem tw9883495554499579287:0=0:=rfl
theorem tw9926274316801533134:0=0:=rfl
theorem tw9980611841960268684:0=0:=rfl
theorem tw9990576918862476676:0=0:=rfl
theorem tw9993082307725963593:0=0:=rfl
end PySem.W.Fast
open PySem PySem.W PyProof.Rows
set_option maxRecDepth 100000 in
set_option maxHeartbeats 0 in
theorem PySem.Challenge.cw_slipseen_k16_schemes_refused_holds : PySem.Challenge.rw_slipseen_k16_schemes_refused.Holds := by
 w_on;o_law;k_head;(case hw=>w_witness2)
 k_fill
 refine' My.walk (l:=PySem.Challenge.rw_slipseen_k16_schemes_refused) (cPc:=?tPc) (Pc:=?qPc) (cPg:=?tPg) (Pg:=?qPg) (cPu:=?tPu) (Pu:=?qPu) (cPp:=?tPp) (Pp:=?qPp) rfl rfl (fun w h Y=>PySem.W.km_in_of Y) ?hTab ?hNo ?F
 case hTab =>
  intro w mg mb mean h KX T
  refine' My.tabs_four (PySem.W.tab_of (x:=PySem.Str.ofString "closing") T KX rfl (My.tabIn_mk (st:=My.s_closing) ?aPc ?lPc ?mPc ?ePc)) (PySem.W.tab_of (x:=PySem.Str.ofString "good_count") T KX rfl (My.tabIn_mk (st:=My.s_good_count) ?aPg ?lPg ?mPg ?ePg)) (PySem.W.tab_of (x:=PySem.Str.ofString "slip_steps") T KX rfl (My.tabIn_mk (st:=My.s_slip_steps) ?aPu ?lPu ?mPu ?ePu)) (PySem.W.tab_of (x:=PySem.Str.ofString "parted") T KX rfl (My.tabIn_mk (st:=My.s_parted) ?aPp ?lPp ?mPp ?ePp))
  case aPc=>k_is
  case lPc=>k_is
  case mPc=>k_is
  case ePc=>rfl
  case aPg=>k_is
  case lPg=>k_is
  case mPg=>k_is
  case ePg=>rfl
  case aPu=>k_is
  case lPu=>k_is
  case mPu=>k_is
  case ePu=>rfl
  case aPp=>k_is
  case lPp=>k_is
  case mPp=>k_is
  case ePp=>rfl
 case hNo =>
  intro w
  kernel_rfl
 case F =>
  intro w mg fa h KX G hmg
  refine' My.all_mk KX G hmg ?d1 ?d2 ?d3 ?d4 ?d5 ?d6 ?d7 ?d8 ?d9 ?d10 ?d11 ?d12 ?d13 ?d14 ?d15 ?d16 ?d17 ?d18 ?d19 ?d20 ?d21 ?d22 ?d23 ?d24 ?d25 ?d26 ?d27 ?d28 ?d29 ?d30 ?d31 ?d32 ?d33 ?d34 ?d35 ?d36 ?d37 ?d38 ?d39 ?d40 ?d41 ?d42 ?d43 ?d44 ?d45 ?d46 ?d47 ?d48 ?d49 ?d50 ?d51 ?d52 ?c0 ?c1 ?c2 ?c3 ?x0 ?x1 ?x2 ?x3 ?x4 ?x5 ?x6 ?xv ?xb ?e1 ?e2 ?w1 ?w2 ?w3 ?z0 ?z1 ?z2 ?z3 ?z4 ?z5 ?z6 ?z7 ?z8 ?z9 ?z10 ?z11 ?z12 ?z13
  case d52=>(refine' My.law_mk ?a ?l ?c ?k ?b;(case a=>k_is);(case l=>k_is);(case c=>k_is);(case k=>k_is);(case b=>exact fun s v=>.of_eq rfl))
  case c0=>k_is
  case c1=>k_is
  case c2=>k_is
  case c3=>k_is
  case x0=>k_is
  case x1=>k_is
  case x2=>k_is
  case x3=>k_is
  case x4=>k_is
  case x5=>k_is
  case x6=>k_is
  case xv=>k_is
  case xb=>kernel_rfl
  case e1=>k_is
  case e2=>k_is
  case w1=>k_is
  case w2=>kernel_rfl
  case w3=>kernel_rfl
  case z0=>k_is
  case z1=>k_is
  case z2=>k_is
  case z3=>k_is
  case z4=>k_is
  case z5=>k_is
  case z6=>k_is
  case z7=>k_is
  case z8=>k_is
  case z9=>k_is
  case z10=>k_is
  case z11=>k_is
  case z12=>k_is
  case z13=>k_is
  case d20=>(refine' My.defT_mk ?a ?l ?c ?k;(case a=>k_is);(case l=>k_is);(case c=>k_is);(case k=>k_is))
  case d29=>(refine' My.defT_mk ?a ?l ?c ?k;(case a=>k_is);(case l=>k_is);(case c=>k_is);(case k=>k_is))
  case d31=>(refine' My.defT_mk ?a ?l ?c ?k;(case a=>k_is);(case l=>k_is);(case c=>k_is);(case k=>k_is))
  case d38=>(refine' My.defT_mk ?a ?l ?c ?k;(case a=>k_is);(case l=>k_is);(case c=>k_is);(case k=>k_is))
  all_goals (refine' L2.def_mk ?a ?l ?c ?k;(case a=>k_is);(case l=>k_is);(case c=>k_is);(case k=>k_is))
#print axioms PySem.Challenge.cw_slipseen_k16_schemes_refused_holds
