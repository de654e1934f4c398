import PyProof.Rows.All
import Wide.All
import OpenK.AllK
import Wide.FinOn
import Lean
import PyProof.EqAt
import PyProof.EqKinds
import PyProof.TupleCall
import PySem.Challenge.RW_thinwood_k54_behind_any_node
set_option Elab.async false
set_option linter.all false
set_option maxRecDepth 100000
namespace L2
open PySem PySem.Spec PyProof.Rows
abbrev Key := Sum Int Str
def Ds : Key → Value → Bool
 | .inl k, v => Value.isInt k v
 | .inr x, v => Value.isStrOf x v
def Hi (w : World) : Key → Int
 | .inl k => hashInt k
 | .inr x => hashStr w x
theorem bM : ∀ {k : Key} {v : Value}, Ds k v = true → (∃ i t, k = Sum.inl i ∧ v = Value.int i t) ∨ (∃ x t, k = Sum.inr x ∧ v = Value.str x t)
 | .inl i, v, h => by
  obtain ⟨t, e⟩ := Value.isInt_shape (k := i) (v := v) h
  exact .inl ⟨i, t, rfl, e⟩
 | .inr x, v, h => by
  obtain ⟨t, e⟩ := Value.isStrOf_shape (x := x) (v := v) h
  exact .inr ⟨x, t, rfl, e⟩
theorem Em (a b : Int) : decide ((Sum.inl a : Key) = Sum.inl b) = (a == b) := by
 by_cases e : a = b
 ·subst e; simp
 ·have h : ¬ (Sum.inl a : Key) = Sum.inl b := fun q => e (Sum.inl.inj q)
  rw [decide_eq_false h]
  exact (beq_eq_false_iff_ne.mpr e).symm
theorem DY (a b : Str) : decide ((Sum.inr a : Key) = Sum.inr b) = decide (a = b) := by
 by_cases e : a = b
 ·subst e; simp
 ·have h : ¬ (Sum.inr a : Key) = Sum.inr b := fun q => e (Sum.inr.inj q)
  rw [decide_eq_false h, decide_eq_false e]
theorem Ei (a : Int) (b : Str) : decide ((Sum.inl a : Key) = Sum.inr b) = false := decide_eq_false (fun q => nomatch q)
theorem Ej (a : Str) (b : Int) : decide ((Sum.inr a : Key) = Sum.inl b) = false := decide_eq_false (fun q => nomatch q)
def yD (prog : Program) (w : World) : PySem.KeyKind prog w Key where
 is := Ds
 hash := Hi w
 inj := fun v a b ha hb => by
  rcases bM ha with ⟨i, t, rfl, rfl⟩ | ⟨x, t, rfl, rfl⟩
  ·rcases bM hb with ⟨j, u, rfl, e⟩ | ⟨y, u, rfl, e⟩
   ·injection e with e1 _; rw [e1]
   ·exact nomatch e
  ·rcases bM hb with ⟨j, u, rfl, e⟩ | ⟨y, u, rfl, e⟩
   ·exact nomatch e
   ·injection e with e1 _; rw [e1]
 byValue := fun k v h => by
  rcases bM h with ⟨i, t, rfl, rfl⟩ | ⟨x, t, rfl, rfl⟩ <;> rfl
 pyHash := fun hv h => by
  rcases bM hv with ⟨i, t, rfl, rfl⟩ | ⟨x, t, rfl, rfl⟩
  ·exact wpAny_pyHash_int h
  ·exact wpAny_pyHash_str h
 eqBool := fun hu hv h => by
  rcases bM hu with ⟨i, t, rfl, rfl⟩ | ⟨x, t, rfl, rfl⟩
  ·rcases bM hv with ⟨j, u, rfl, rfl⟩ | ⟨y, u, rfl, rfl⟩
   ·rw [Em] at h; exact wpAny_eqBool_int h
   ·rw [Ei] at h; exact SeqAt.EqAt.int_str i t y u _ _ _ _ h
  ·rcases bM hv with ⟨j, u, rfl, rfl⟩ | ⟨y, u, rfl, rfl⟩
   ·rw [Ej] at h; exact SeqAt.EqAt.str_int x t j u _ _ _ _ h
   ·rw [DY] at h; exact wpAny_eqBool_str h
 «strs» := fun k x t v h => by
  rcases bM h with ⟨i, u, rfl, e⟩ | ⟨y, u, rfl, e⟩
  ·exact nomatch e
  ·injection e with e1 _
   subst e1
   cases v <;> rfl
end L2
namespace L2
open PySem PySem.Spec PyProof.Rows
inductive V where
 | non | bl (b : Bool) | int (i : Int) | str (x : Str) | byt (b : Array UInt8) | flt (b : UInt64) | ref (a : Addr) | ty (n : String)
 deriving DecidableEq
def RelV : V → Value → Prop
 | .non, u => u = Value.none
 | .bl b, u => u = Value.bool b
 | .int i, u => ∃ t, u = Value.int i t
 | .str x, u => ∃ t, u = Value.str x t
 | .byt b, u => ∃ t, u = Value.bytes b t
 | .flt b, u => ∃ t, u = Value.float b t
 | .ref a, u => u = Value.ref a
 | .ty n, u => u = Value.type n
abbrev Vals : List V → List Value → Prop := Paired RelV
theorem Vals.length {xs : List V} {us : List Value} (r : Vals xs us) : xs.length = us.length := Paired.length r
theorem Vals.get : ∀ {xs : List V} {us : List Value} {i : Nat} {x : V}, Vals xs us → xs[i]? = some x → ∃ u, us[i]? = some u ∧ RelV x u
 | _, _, _, _, .nil, e => by simp at e
 | _, _, 0, _, .cons r _, e => by simp at e; subst e; exact ⟨_, rfl, r⟩
 | _, _, i + 1, x, .cons _ t, e => by
  obtain ⟨u, h1, h2⟩ := Vals.get (i := i) (x := x) t (by simpa using e)
  exact ⟨u, by simpa using h1, h2⟩
theorem Vals.set {x : V} {u : Value} (r : RelV x u) : ∀ {xs : List V} {us : List Value} (i : Nat), Vals xs us → Vals (xs.set i x) (us.set i u)
 | _, _, _, .nil => .nil
 | _, _, 0, .cons _ t => .cons r t
 | _, _, i + 1, .cons q t => .cons q (Vals.set r i t)
theorem Vals.append : ∀ {xs ys : List V} {us ws : List Value}, Vals xs us → Vals ys ws → Vals (xs ++ ys) (us ++ ws)
 | _, _, _, _, .nil, s => s
 | _, _, _, _, .cons r t, s => .cons r (Vals.append t s)
theorem Vals.take : ∀ {xs : List V} {us : List Value} (n : Nat), Vals xs us → Vals (xs.take n) (us.take n)
 | _, _, 0, _ => .nil
 | _, _, _ + 1, .nil => .nil
 | _, _, n + 1, .cons r t => .cons r (Vals.take n t)
theorem Vals.drop : ∀ {xs : List V} {us : List Value} (n : Nat), Vals xs us → Vals (xs.drop n) (us.drop n)
 | _, _, 0, r => r
 | _, _, _ + 1, .nil => .nil
 | _, _, n + 1, .cons _ t => Vals.drop n t
def rF : Option V → Option Value → Prop
 | some v, some u => RelV v u
 | none, none => True
 | _, _ => False
def KV {κ : Type} : List (κ × V) → List (κ × Value) → Prop := Paired fun (p : κ × V) (q : κ × Value) => p.1 = q.1 ∧ RelV p.2 q.2
def kV : Key → V
 | .inl i => .int i
 | .inr x => .str x
inductive HO where
  | lst (xs : List V)
  | tup (xs : List V)
  | dK (kvs : List (Key × V)) | dT (kvs : List (List Key × V))
  | set (S : Int → Bool) (n : Nat)
  | ins (C dx : Addr) (fs : List (Str × V))
  | own (x : Addr)
  | xd (fs : List (Str × V))
  | met (f x : Addr)
  | rng (lo hi : Int)
  | frz (o : Obj) (u : HO)
  | tbl (ps : Array Value)
  | ext (φ : Heap → Prop)
abbrev Hp := Addr → Option HO
def upd (H : Hp) (a : Addr) (o : HO) : Hp := fun b => if b = a then some o else H b
theorem ao {H : Hp} {a : Addr} {o : HO} : upd H a o a = some o := by unfold upd; rw [if_pos rfl]
theorem aC {H : Hp} {a b : Addr} {o : HO} (h : b ≠ a) : upd H a o b = H b := by unfold upd; rw [if_neg h]
theorem iw {H : Hp} {a : Addr} {o u : HO} : upd (upd H a o) a u = upd H a u := by
 funext b; unfold upd; split <;> rfl
theorem aJ {H : Hp} {a b : Addr} {o : HO} (h : H a = some o) (h' : H b = none) : a ≠ b := by
 intro e; subst e; rw [h] at h'; cases h'
section
variable (P : Program) (w : World)
def bU (H : Hp) (h : Heap) (a : Addr) : HO → Prop
 | .lst xs => xs.length ≤ sizeLine ∧ ∃ (its : List Value) (n : Nat), Vals xs its ∧ h.get? a = some { cls := .type "list", data := .seq its.toArray n }
 | .tup xs => xs.length ≤ sizeLine ∧ ∃ its : List Value, Vals xs its ∧ IsTup h a its.toArray
 | .dK kvs => kvs.length ≤ sizeLine ∧ (a == sysModules) = false ∧ ∃ vs, KV kvs vs ∧ h.DictOf (yD P w) a vs
 | .dT kvs => kvs.length ≤ sizeLine ∧ (a == sysModules) = false ∧ ∃ xs : List (List Key × Addr × Value),
   Paired (fun (p : List Key × V) (q : List Key × Addr × Value) => p.1 = q.1 ∧ H q.2.1 = some (.tup (p.1.map kV)) ∧ RelV p.2 q.2.2) kvs xs ∧
   ∃ o es ep, h.get? a = some o ∧ o.ExactDict ∧ o.data = .dict es ep ∧ es.toList = xs.map (entryOfKey (tupleKind (yD P w))) ∧ (xs.map (·.1)).Nodup
 | .set S n => h.SetOf (intKind P w) a S n
 | .ins C dx fs => H dx = some (.own a) ∧ fs.length ≤ 1000 ∧ dx ≠ a ∧ h.get? a = some (PySem.W.instObj C dx) ∧
   ∃ mA, h.Ns1 dx mA ∧ (∀ f, rF (fs.lookup f) (mA f)) ∧ PySem.Within mA (fs.map (·.1))
 | .own _ => ∃ o, h.get? a = some o
 | .xd fs => ∃ mA, h.Ns1 a mA ∧ ∀ f, rF (fs.lookup f) (mA f)
 | .rng lo hi => ∃ t u v, h.get? a = some { cls := .type "range", data := .fields #[.int lo t, .int hi u, .int 1 v] }
 | .frz o u => h.get? a = some o ∧ bU H h a u
 | .tbl ps => h.get? a = some { cls := .none, data := .fields ps }
 | .met f x => h.get? a = some (PySem.W.methodObj (.ref f) (.ref x))
 | .ext φ => φ h ∧ (∃ o, h.get? a = some o) ∧ ∀ h1 h2 : Heap, φ h1 → (∀ o, h1.get? a = some o → h2.get? a = some o) → φ h2
def HOk (H : Hp) (h : Heap) : Prop := ∀ a o, H a = some o → bU P w H h a o
end
section
variable {P : Program} {w : World} {H H' : Hp} {h h' : Heap} {a : Addr} {o : HO}
theorem bU.lt (x : bU P w H h a o) : a < h.objs.size := by
 cases o with
 | lst xs => obtain ⟨_, _, _, _, e⟩ := x; exact Heap.lt_size e
 | tup xs => obtain ⟨_, _, _, p⟩ := x; exact p.lt
 | dK kvs => obtain ⟨_, _, _, _, o, _, _, e, _⟩ := x; exact Heap.lt_size e
 | dT kvs => obtain ⟨_, _, _, _, o, _, _, e, _⟩ := x; exact Heap.lt_size e
 | set S n => obtain ⟨o, _, _, _, e, _⟩ := x; exact Heap.lt_size e
 | ins C dx fs => obtain ⟨_, _, _, e, _⟩ := x; exact Heap.lt_size e
 | own y => obtain ⟨_, e⟩ := x; exact Heap.lt_size e
 | xd fs => obtain ⟨_, ⟨_, _, _, e, _⟩, _⟩ := x; exact Heap.lt_size e
 | rng lo hi => obtain ⟨_, _, _, e⟩ := x; exact Heap.lt_size e
 | frz ob u => obtain ⟨e, _⟩ := x; exact Heap.lt_size e
 | tbl ps => exact Heap.lt_size (show h.get? a = some _ from x)
 | met f y => exact Heap.lt_size (show h.get? a = some _ from x)
 | ext φ => obtain ⟨_, ⟨_, e⟩, _⟩ := x; exact Heap.lt_size e
theorem Paired.mapP {α β : Type} {F G : α → β → Prop} : ∀ {l₁ : List α} {l₂ : List β}, Paired F l₁ l₂ → (∀ a b, F a b → G a b) → Paired G l₁ l₂
 | _, _, .nil, _ => .nil
 | _, _, .cons r t, f => .cons (f _ _ r) (Paired.mapP t f)
theorem bU.stay (x : bU P w H h a o) (k : ∀ b u, (b = a ∨ H b = some (.own a)) → h.get? b = some u → h'.get? b = some u)
  (ho : ∀ b, H b = some (.own a) → H' b = some (.own a)) (ht : ∀ b xs, H b = some (.tup xs) → H' b = some (.tup xs)) : bU P w H' h' a o := by
 induction o with
 | lst xs => obtain ⟨z, its, n, r, e⟩ := x; exact ⟨z, its, n, r, k _ _ (.inl rfl) e⟩
 | tup xs => obtain ⟨z, its, r, ob, e, c⟩ := x; exact ⟨z, its, r, ob, k _ _ (.inl rfl) e, c⟩
 | dK kvs => obtain ⟨z, y, vs, r, ob, es, ep, e, c⟩ := x; exact ⟨z, y, vs, r, ob, es, ep, k _ _ (.inl rfl) e, c⟩
 | dT kvs =>
  obtain ⟨z, y, xs, r, ob, es, ep, e, c⟩ := x
  exact ⟨z, y, xs, Paired.mapP r fun p q z => ⟨z.1, ht _ _ z.2.1, z.2.2⟩, ob, es, ep, k _ _ (.inl rfl) e, c⟩
 | set S n => obtain ⟨ob, es, ep, t, e, c⟩ := x; exact ⟨ob, es, ep, t, k _ _ (.inl rfl) e, c⟩
 | ins C dx fs =>
  obtain ⟨d, z, ne, e, mA, ⟨od, es, ep, e2, c⟩, r⟩ := x
  exact ⟨ho _ d, z, ne, k _ _ (.inl rfl) e, mA, ⟨od, es, ep, k _ _ (.inr d) e2, c⟩, r⟩
 | own y => obtain ⟨ob, e⟩ := x; exact ⟨ob, k _ _ (.inl rfl) e⟩
 | xd fs => obtain ⟨mA, ⟨od, es, ep, e, c⟩, r⟩ := x; exact ⟨mA, ⟨od, es, ep, k _ _ (.inl rfl) e, c⟩, r⟩
 | rng lo hi => obtain ⟨t, u, v, e⟩ := x; exact ⟨t, u, v, k _ _ (.inl rfl) e⟩
 | frz ob u ih => obtain ⟨e, q⟩ := x; exact ⟨k _ _ (.inl rfl) e, ih q⟩
 | tbl ps =>
  have e : h.get? a = some { cls := .none, data := .fields ps } := x
  show h'.get? a = some { cls := .none, data := .fields ps }
  exact k a _ (.inl rfl) e
 | met f y =>
  have e : h.get? a = some (PySem.W.methodObj (.ref f) (.ref y)) := x
  show h'.get? a = some (PySem.W.methodObj (.ref f) (.ref y))
  exact k a _ (.inl rfl) e
 | ext φ => obtain ⟨p, ⟨o, e⟩, st⟩ := x; exact ⟨st _ _ p fun o q => k _ _ (.inl rfl) q, ⟨o, k _ _ (.inl rfl) e⟩, st⟩
theorem HOk.lt (x : HOk P w H h) (e : H a = some o) : a < h.objs.size := (x a o e).lt
theorem HOk.fresh (x : HOk P w H h) (e : h.objs.size ≤ a) : H a = none := by
 cases q : H a with
 | none => rfl
 | some u => exact absurd (Nat.lt_of_lt_of_le (x.lt q) e) (Nat.lt_irrefl _)
theorem HOk.kept (x : HOk P w H h) (k : ∀ b u, h.get? b = some u → h'.get? b = some u) : HOk P w H h' := fun a o e =>
 (x a o e).stay (fun b u _ q => k b u q) (fun _ q => q) fun _ _ q => q
theorem HOk.laid (x : HOk P w H h) (k : ∀ b u, h.get? b = some u → h'.get? b = some u) (hp : h.objs.size ≤ a) (new : bU P w (upd H a o) h' a o) : HOk P w (upd H a o) h' := fun b u e => by
 have hn := x.fresh hp
 by_cases hb : b = a
 ·subst hb; rw [ao] at e; cases e; exact new
 ·rw [aC hb] at e
  exact (x b u e).stay (fun c v _ q => k c v q) (fun c q => by rw [aC (aJ q hn)]; exact q) fun c xs q => by rw [aC (aJ q hn)]; exact q
end
def Rd (H : Hp) (a : Addr) (u : HO) : Prop := H a = some u ∨ ∃ o, H a = some (.frz o u)
theorem Rd.ok {P : Program} {w : World} {H : Hp} {h : Heap} {a : Addr} {u : HO} (r : Rd H a u) (x : HOk P w H h) : bU P w H h a u := by
 rcases r with r | ⟨o, r⟩
 ·exact x a u r
 ·obtain ⟨_, q⟩ := x a _ r
  exact q
def Mut : Option HO → Prop
 | some (.lst _) => True
 | some (.dK _) => True
 | some (.dT _) => True
 | some (.set _ _) => True
 | some (.ins _ _ _) => True
 | some (.ext _) => True
 | _ => False
section
variable {P : Program} {w : World} {H : Hp} {h h' : Heap} {x e : Addr} {o' : HO}
theorem HOk.write (ok : HOk P w H h) (mu : Mut (H x)) (he : e = x ∨ H e = some (.own x)) (k : ∀ b u, b ≠ e → h.get? b = some u → h'.get? b = some u) (heo : ∃ u, h'.get? e = some u)
  (new : bU P w (upd H x o') h' x o') : HOk P w (upd H x o') h' := fun b u q => by
 have nown : ∀ c y, H c = some (.own y) → c ≠ x := fun c y r z => by subst z; rw [r] at mu; exact mu
 have ntup : ∀ c xs, H c = some (.tup xs) → c ≠ x := fun c xs r z => by subst z; rw [r] at mu; exact mu
 by_cases hb : b = x
 ·subst hb; rw [ao] at q; cases q; exact new
 ·rw [aC hb] at q
  by_cases hbe : b = e
  ·have q' : H b = some (.own x) := by
    rcases he with z | z
    ·exact absurd (hbe.trans z) hb
    ·rw [hbe]; exact z
   rw [q] at q'; cases q'
   obtain ⟨v, hv⟩ := heo
   exact ⟨v, by rw [hbe]; exact hv⟩
  ·refine (ok b u q).stay (fun c v hc r => k c v ?_ r) (fun c r => by rw [aC (nown c b r)]; exact r) fun c xs r => by rw [aC (ntup c xs r)]; exact r
   rcases hc with rfl | hc
   ·exact hbe
   ·rintro rfl
    rcases he with z | z
    ·exact nown c b hc z
    ·rw [hc] at z; cases z; exact hb rfl
end
structure Un (fs ex : List Addr) (H H' : Hp) (h h' : Heap) : Prop where
 keep : ∀ b o, h.get? b = some o → H b = none → b ∉ fs → b ∉ ex → h'.get? b = some o
 slot : ∀ b o, h.get? b = some o → H b = none → b ∈ fs → b ∉ ex → ∃ sl, h'.get? b = some { o with slots := sl }
 free : ∀ b o, h.get? b = some o → H b = none → b ∉ ex → H' b = none
 there : ∀ b o, h.get? b = some o → b ∉ ex → ∃ o', h'.get? b = some o'
 tups : ∀ b xs, H b = some (.tup xs) → H' b = some (.tup xs)
 frzs : ∀ b o u, H b = some (.frz o u) → H' b = some (.frz o u)
 tbls : ∀ b ps, H b = some (.tbl ps) → ∃ more, H' b = some (.tbl (ps ++ more))
section
variable {fs fs' ex ex' : List Addr} {H H1 H2 : Hp} {h h1 h2 h' : Heap} {a x e : Addr} {o : HO}
theorem Un.any (u : Un fs ex H H1 h h1) {b : Addr} {ob : Obj} (q : h.get? b = some ob) (n : H b = none) (hx : b ∉ ex) : ∃ sl, h1.get? b = some { ob with slots := sl } := by
 by_cases hb : b ∈ fs
 ·exact u.slot b ob q n hb hx
 ·exact ⟨ob.slots, u.keep b ob q n hb hx⟩
theorem Un.trans (a : Un fs ex H H1 h h1) (b : Un fs ex H1 H2 h1 h2) : Un fs ex H H2 h h2 where
 keep := fun c ob q n hc hx => b.keep c ob (a.keep c ob q n hc hx) (a.free c ob q n hx) hc hx
 slot := fun c ob q n hc hx => by
  obtain ⟨sl, e1⟩ := a.slot c ob q n hc hx
  obtain ⟨sl', e2⟩ := b.slot c _ e1 (a.free c ob q n hx) hc hx
  exact ⟨sl', e2⟩
 free := fun c ob q n hx => by
  obtain ⟨o', e1⟩ := a.there c ob q hx
  exact b.free c o' e1 (a.free c ob q n hx) hx
 there := fun c ob q hx => by
  obtain ⟨o', e1⟩ := a.there c ob q hx
  exact b.there c o' e1 hx
 tups := fun c xs q => b.tups c xs (a.tups c xs q)
 frzs := fun c ob xs q => b.frzs c ob xs (a.frzs c ob xs q)
 tbls := fun c ps q => by
  obtain ⟨m1, e1⟩ := a.tbls c ps q
  obtain ⟨m2, e2⟩ := b.tbls c _ e1
  exact ⟨m1 ++ m2, by rw [e2, Array.append_assoc]⟩
theorem Un.kept (k : ∀ b u, h.get? b = some u → h'.get? b = some u) : Un fs ex H H h h' :=
 ⟨fun b ob q _ _ _ => k b ob q, fun b ob q _ _ _ => ⟨ob.slots, k b ob q⟩, fun _ _ _ n _ => n, fun b ob q _ => ⟨ob, k b ob q⟩, fun _ _ q => q, fun _ _ _ q => q, fun _ ps q => ⟨#[], by rw [q]; simp⟩⟩
theorem Un.refl : Un fs ex H H h h := Un.kept fun _ _ q => q
theorem Un.laid (k : ∀ b u, h.get? b = some u → h'.get? b = some u) (hp : h.objs.size ≤ a) (hn : H a = none) : Un fs ex H (upd H a o) h h' where
 keep := fun b u q _ _ _ => k b u q
 slot := fun b u q _ _ _ => ⟨u.slots, k b u q⟩
 free := fun b u q n _ => by rw [aC (Nat.ne_of_lt (Nat.lt_of_lt_of_le (Heap.lt_size q) hp))]; exact n
 there := fun b u q _ => ⟨u, k b u q⟩
 tups := fun b xs q => by rw [aC (aJ q hn)]; exact q
 frzs := fun b u xs q => by rw [aC (aJ q hn)]; exact q
 tbls := fun b ps q => ⟨#[], by rw [aC (aJ q hn), q]; simp⟩
theorem Un.write (mu : Mut (H x)) (he : e = x ∨ H e = some (.own x)) (k : ∀ b u, b ≠ e → h.get? b = some u → h'.get? b = some u) (heo : ∃ u, h'.get? e = some u) : Un fs ex H (upd H x o) h h' := by
 have hx : ∀ b, H b = none → b ≠ x := fun b n z => by subst z; rw [n] at mu; exact mu
 have hb : ∀ b, H b = none → b ≠ e := fun b n z => by
  subst z
  rcases he with r | r
  ·exact hx b n r
  ·rw [n] at r; cases r
 have hm : ∀ b u, H b = some u → ¬ Mut (some u) → b ≠ x := fun b u q nm z => by subst z; rw [q] at mu; exact nm mu
 refine ⟨fun b u q n _ _ => k b u (hb b n) q, fun b u q n _ _ => ⟨u.slots, k b u (hb b n) q⟩, fun b u q n _ => by rw [aC (hx b n)]; exact n, fun b u q _ => ?_,
  fun b xs q => by rw [aC (hm b _ q fun z => z)]; exact q, fun b u xs q => by rw [aC (hm b _ q fun z => z)]; exact q, fun b ps q => ⟨#[], by rw [aC (hm b _ q fun z => z), q]; simp⟩⟩
 by_cases hbe : b = e
 ·subst hbe; exact heo
 ·exact ⟨u, k b u hbe q⟩
end
def trk (h : Heap) (H : Hp) : List Addr := (List.range h.objs.size).filter fun a => (H a).isSome
def qw (h : Heap) (H : Hp) : Heap := PySem.W.hideAll h (trk h H)
theorem zb (h : Heap) (H : Hp) : (qw h H).objs.size = h.objs.size := PySem.W.hideAll_size _ _
theorem Ai {h : Heap} {H : Hp} {b : Addr} {o : Obj} (e : h.get? b = some o) (n : H b = none) : (qw h H).get? b = some o :=
 PySem.W.hideAll_get _ e fun hm => by
  have q : (H b).isSome = true := (List.mem_filter.mp hm).2
  rw [n] at q; simp at q
theorem BR {h : Heap} {H : Hp} {b : Addr} {o : Obj} (e : (qw h H).get? b = some o) : h.get? b = some o ∧ H b = none := by
 have e' : h.get? b = some o := PySem.W.of_hideAll (trk h H) e
 refine ⟨e', ?_⟩
 cases q : H b with
 | none => rfl
 | some x =>
  have hm : b ∈ trk h H := List.mem_filter.mpr ⟨List.mem_range.mpr (Heap.lt_size e'), by simp [q]⟩
  have z : (qw h H).get? b = none := PySem.W.hideAll_none (trk h H) hm
  rw [z] at e; cases e
def Cz (g h : Heap) (L : Addr) : List (Addr × Obj) := (List.range h.objs.size).filterMap fun a => if a = L ∨ (g.get? a).isSome = true then none else (h.get? a).map fun o => (a, o)
def rest (g h : Heap) (L d : Addr) : List (Addr × Obj) := (Cz g h L).filter fun p => decide (p.1 ≠ d)
end L2
namespace L2
open PySem PySem.Spec PyProof.Rows
structure Mod (K : PySem.W.Frag) (mg : Str → Option Value) (base : Heap) : Prop where
 kin : K.In base
 glob : base.Ns mainGlobals mg
 blt : ∃ mb, base.Ns builtinsNs mb ∧ ∀ x : Str, x ≠ "__name__" → mb x = bootBuiltins x
 nolimit : base.NoLimit
structure Cx where
 prog : Program
 w : World
 K : PySem.W.Frag
 mg : Str → Option Value
 base : Heap
 A : Around
 N : List Str
 s₀ : Shared
 H₀ : Hp
 env : Env
 outer : List Env
 stack : List Env
 ex : List Addr
 fn : Str → Bool
 calm : Bool
 pn : List (Addr × Obj)
 xe : Value → Shared → Prop
def frs (l : List Env) : List Addr := l.filterMap (·.frame)
abbrev Cx.fs (X : Cx) : List Addr := frs X.outer
def Vis (sc : Scope) (x : Str) : Prop := sc.names.lookup x = some .local ∨ sc.names.lookup x = some .cell ∨ sc.names.lookup x = some .free
def Loc (sc : Scope) (x : Str) : Prop := sc.names.lookup x = some .local ∨ sc.names.lookup x = some .cell
def Look (env : Env) (h : Heap) (m : Str → Option Value) (x : Str) (u : Value) : Prop :=
 (env.kindOf x = some .local ∧ m x = some u) ∨ ((env.kindOf x = some .cell ∨ env.kindOf x = some .free) ∧ ∃ c, env.cells.lookup x = some c ∧ h.IsCell c (some u))
structure Cx.Ok (X : Cx) : Prop where
 mod : Mod X.K X.mg X.base
 kind : X.env.scope.kind = .function
 glob : X.env.globals = mainGlobals
 blt : X.env.builtins = builtinsNs
 above : X.s₀.heap.objs.size ≤ X.env.locals
 inj : ∀ x y c, X.env.cells.lookup x = some c → X.env.cells.lookup y = some c → x = y
 has : ∀ x, (X.env.kindOf x = some .cell ∨ X.env.kindOf x = some .free) → ∃ c, X.env.cells.lookup x = some c
 cab : ∀ x c, X.fn x = true → X.env.cells.lookup x = some c → X.s₀.heap.objs.size ≤ c
 hd : X.calm = true → X.A.handled = none
 frames : X.A.frames = some X.stack
 stk : X.stack = X.outer ∨ (X.stack = X.env :: X.outer ∧ X.env.frame = some X.env.locals)
 exf : ∀ b ∈ X.ex, b ≠ X.env.locals ∧ ∀ x c, X.env.cells.lookup x = some c → c ≠ b
 bs : ∀ b o, X.base.get? b = some o → X.s₀.heap.get? b = some o ∧ X.H₀ b = none
 bsz : X.base.objs.size ≤ X.s₀.heap.objs.size
 noex : ∀ b o, X.base.get? b = some o → b ∉ X.ex
 exfs : ∀ b ∈ X.ex, b ∉ X.fs
 funs : X.s₀.heap.FunFrames X.base X.outer
 frf : ∀ b ∈ X.fs, X.H₀ b = none
structure Inv (X : Cx) (pins : List (Addr × Obj)) (σ : List (Option V)) (H : Hp) (s : Shared) : Prop where
 ok : X.Ok
 os : s.os = X.s₀.os
 bare : AllBare s.gens
 base : Un X.fs X.ex X.H₀ H X.s₀.heap s.heap
 loc : ∃ m, s.heap.Ns X.env.locals m ∧ ∀ (i : Nat) (x : Str) (v : V), X.N[i]? = some x → σ[i]? = some (some v) → Vis X.env.scope x → ∃ u, RelV v u ∧ Look X.env s.heap m x u
 cell : ∀ x c, X.env.cells.lookup x = some c → ∃ v, s.heap.IsCell c v
 free : H X.env.locals = none
 freeC : ∀ x c, X.env.cells.lookup x = some c → H c = none
 pin : ∀ p ∈ X.pn ++ pins, s.heap.get? p.1 = some p.2 ∧ H p.1 = none ∧ p.1 ≠ X.env.locals ∧ p.1 ∉ X.fs ∧ ∀ v, p.2.data ≠ .cell v
 hok : HOk X.prog X.w H s.heap
 len : σ.length = X.N.length
section
variable {X : Cx} {pins : List (Addr × Obj)} {σ : List (Option V)} {H H' : Hp} {s : Shared} {h' : Heap}
theorem Cx.Ok.nofr (ok : X.Ok) {b : Addr} {o : Obj} (e : X.base.get? b = some o) : b ∉ X.fs := fun hb => by
 have := (ok.funs.mem hb).1
 rw [e] at this; cases this
theorem Inv.bs (I : Inv X pins σ H s) : ∀ b o, X.base.get? b = some o → s.heap.get? b = some o ∧ H b = none := fun b o e =>
 ⟨I.base.keep b o (I.ok.bs b o e).1 (I.ok.bs b o e).2 (I.ok.nofr e) (I.ok.noex b o e), I.base.free b o (I.ok.bs b o e).1 (I.ok.bs b o e).2 (I.ok.noex b o e)⟩
theorem Inv.bk (I : Inv X pins σ H s) : ∀ b o, X.base.get? b = some o → s.heap.get? b = some o := fun b o e => (I.bs b o e).1
theorem Inv.mod (I : Inv X pins σ H s) : Mod X.K X.mg X.base := I.ok.mod
theorem Inv.kIn (I : Inv X pins σ H s) : X.K.In s.heap := I.ok.mod.kin.keeps I.bk
theorem Inv.lt (I : Inv X pins σ H s) : X.env.locals < s.heap.objs.size := let ⟨_, hn, _⟩ := I.loc; hn.lt
theorem Inv.sz (I : Inv X pins σ H s) : X.s₀.heap.objs.size ≤ s.heap.objs.size := Nat.le_trans I.ok.above (Nat.le_of_lt I.lt)
theorem Inv.nofs (I : Inv X pins σ H s) {a : Addr} (h : s.heap.objs.size ≤ a) : a ∉ X.fs := fun hb => by
 obtain ⟨_, o, ho, _⟩ := I.ok.funs.mem hb
 exact absurd (Nat.lt_of_lt_of_le (Heap.lt_size ho) (Nat.le_trans I.sz h)) (Nat.lt_irrefl _)
theorem Inv.cne (I : Inv X pins σ H s) : ∀ x c, X.env.cells.lookup x = some c → c ≠ X.env.locals := fun x c e z => by
 obtain ⟨v, o, ho, hd⟩ := I.cell x c e
 obtain ⟨m, ⟨o', es, ep, ho', hd', _⟩, _⟩ := I.loc
 rw [z, ho'] at ho; cases ho; rw [hd'] at hd; cases hd
theorem Inv.funs (I : Inv X pins σ H s) : s.heap.FunFrames X.base X.outer := by
 have all : ∀ (l : List Env), (∀ b ∈ frs l, b ∈ X.fs) → X.s₀.heap.FunFrames X.base l → s.heap.FunFrames X.base l := by
  intro l
  induction l with
  | nil => intro _ _; trivial
  | cons env r ih =>
   intro hs hl
   obtain ⟨hk, ⟨L, o, hf, hn, ho, hd⟩, hr⟩ := hl
   have hL : L ∈ X.fs := hs L (by unfold frs; rw [List.filterMap_cons, hf]; exact List.mem_cons_self)
   obtain ⟨sl, e⟩ := I.base.slot L o ho (I.ok.frf L hL) hL fun z => I.ok.exfs L z hL
   exact ⟨hk, ⟨L, _, hf, hn, e, hd⟩, ih (fun b hb => hs b (by unfold frs; rw [List.filterMap_cons, hf]; exact List.mem_cons_of_mem _ hb)) hr⟩
 exact all X.outer (fun _ hb => hb) I.ok.funs
theorem Inv.stack (I : Inv X pins σ H s) : s.heap.FunFrames X.base X.stack := by
 rcases I.ok.stk with e | ⟨e, hf⟩
 ·rw [e]; exact I.funs
 ·rw [e]
  obtain ⟨m, hn, _⟩ := I.loc
  refine .cons (by rw [I.ok.kind]; decide) hf hn ?_ I.funs
  exact Heap.get?_none_of_le (Nat.le_trans I.ok.bsz I.ok.above)
theorem Inv.stkSub (I : Inv X pins σ H s) : ∀ b ∈ frs X.stack, b ∈ X.env.locals :: X.fs := fun b hb => by
 rcases I.ok.stk with e | ⟨e, hf⟩
 ·rw [e] at hb; exact List.mem_cons_of_mem _ hb
 ·rw [e] at hb
  unfold frs at hb
  rw [List.filterMap_cons, hf] at hb
  exact hb
theorem Inv.stkFree (I : Inv X pins σ H s) : ∀ b ∈ frs X.stack, H b = none := fun b hb => by
 rcases List.mem_cons.mp (I.stkSub b hb) with e | hb
 ·rw [e]; exact I.free
 ·obtain ⟨_, o, ho, _⟩ := I.ok.funs.mem hb
  exact I.base.free b o ho (I.ok.frf b hb) fun z => I.ok.exfs b z hb
theorem Inv.step {g' : Array GenState} {t' : Nat} {d' : Drawn} {ch : List Addr} (I : Inv X pins σ H s)
  (hch : ∀ b ∈ ch, (b ∈ X.ex ∨ X.s₀.heap.objs.size ≤ b) ∧ b ≠ X.env.locals ∧ (∀ x c, X.env.cells.lookup x = some c → c ≠ b) ∧ ∀ p ∈ X.pn ++ pins, p.1 ≠ b)
  (keep : ∀ b o, b ≠ X.env.locals → b ∉ X.fs → b ∉ ch → s.heap.get? b = some o → H b = none → h'.get? b = some o)
  (slot : ∀ b o, b ≠ X.env.locals → b ∈ X.fs → b ∉ ch → s.heap.get? b = some o → H b = none → ∃ sl, h'.get? b = some { o with slots := sl }) (free : ∀ b o, b ∉ ch → s.heap.get? b = some o → H b = none → H' b = none)
  (there : ∀ b o, b ∉ ch → s.heap.get? b = some o → ∃ o', h'.get? b = some o')
  (tups : ∀ b xs, H b = some (.tup xs) → H' b = some (.tup xs)) (frzs : ∀ b o u, H b = some (.frz o u) → H' b = some (.frz o u)) (tbls : ∀ b ps, H b = some (.tbl ps) → ∃ more, H' b = some (.tbl (ps ++ more)))
  (ns : ∀ m, s.heap.Ns X.env.locals m → h'.Ns X.env.locals m) (hok : HOk X.prog X.w H' h') (hg : AllBare g') :
  Inv X pins σ H' { s with heap := h', gens := g', drawn := d', toks := t' } := by
 have neL : ∀ b o, X.s₀.heap.get? b = some o → b ≠ X.env.locals := fun b o e => Nat.ne_of_lt (Nat.lt_of_lt_of_le (Heap.lt_size e) I.ok.above)
 have neC : ∀ b o, X.s₀.heap.get? b = some o → b ∉ X.ex → b ∉ ch := fun b o e hx hb => by
  rcases (hch b hb).1 with z | z
  ·exact hx z
  ·exact absurd (Nat.lt_of_lt_of_le (Heap.lt_size e) z) (Nat.lt_irrefl _)
 have cellK : ∀ x c, X.env.cells.lookup x = some c → ∀ v, s.heap.IsCell c v → h'.IsCell c v := fun x c e v ⟨o, ho, hd⟩ => by
  have nch : c ∉ ch := fun z => (hch c z).2.2.1 x c e rfl
  by_cases hc : c ∈ X.fs
  ·obtain ⟨sl, q⟩ := slot c o (I.cne x c e) hc nch ho (I.freeC x c e)
   exact ⟨_, q, hd⟩
  ·exact ⟨o, keep c o (I.cne x c e) hc nch ho (I.freeC x c e), hd⟩
 refine ⟨I.ok, I.os, hg, ⟨fun b o e n hb hx => ?_, fun b o e n hb hx => ?_, fun b o e n hx => ?_, fun b o e hx => ?_, fun b xs e => tups b xs (I.base.tups b xs e), fun b o xs e => frzs b o xs (I.base.frzs b o xs e), fun b ps e => ?_⟩, ?_, fun x c e => ?_, ?_, fun x c e => ?_, fun p hp => ?_, hok, I.len⟩
 ·exact keep b o (neL b o e) hb (neC b o e hx) (I.base.keep b o e n hb hx) (I.base.free b o e n hx)
 ·obtain ⟨sl, e1⟩ := I.base.slot b o e n hb hx
  obtain ⟨sl', e2⟩ := slot b _ (neL b o e) hb (neC b o e hx) e1 (I.base.free b o e n hx)
  exact ⟨sl', e2⟩
 ·obtain ⟨o', e1⟩ := I.base.there b o e hx
  exact free b o' (neC b o e hx) e1 (I.base.free b o e n hx)
 ·obtain ⟨o', e1⟩ := I.base.there b o e hx
  exact there b o' (neC b o e hx) e1
 ·obtain ⟨m1, e1⟩ := I.base.tbls b ps e
  obtain ⟨m2, e2⟩ := tbls b _ e1
  exact ⟨m1 ++ m2, by rw [e2, Array.append_assoc]⟩
 ·obtain ⟨m, hn, hl⟩ := I.loc
  refine ⟨m, ns m hn, fun i x v e1 e2 e3 => ?_⟩
  obtain ⟨u, r, l⟩ := hl i x v e1 e2 e3
  refine ⟨u, r, ?_⟩
  rcases l with l | ⟨k, c, e, z⟩
  ·exact .inl l
  ·exact .inr ⟨k, c, e, cellK x c e _ z⟩
 ·obtain ⟨v, z⟩ := I.cell x c e
  exact ⟨v, cellK x c e v z⟩
 ·obtain ⟨m, ⟨o, _, _, ho, _⟩, _⟩ := I.loc
  exact free _ o (fun z => (hch _ z).2.1 rfl) ho I.free
 ·obtain ⟨v, o, ho, hd⟩ := I.cell x c e
  exact free c o (fun z => (hch c z).2.2.1 x c e rfl) ho (I.freeC x c e)
 ·obtain ⟨e, n, ne, nf, d⟩ := I.pin p hp
  have nch : p.1 ∉ ch := fun z => (hch p.1 z).2.2.2 p hp rfl
  exact ⟨keep p.1 p.2 ne nf nch e n, free p.1 p.2 nch e n, ne, nf, d⟩
theorem Inv.un {t' : Nat} (I : Inv X pins σ H s) (u : Un X.fs [] H H' s.heap h') (hok : HOk X.prog X.w H' h') : Inv X pins σ H' { s with heap := h', toks := t' } := by
 obtain ⟨m, ⟨o, es, ep, ho, r⟩, _⟩ := id I.loc
 obtain ⟨sl, hL⟩ := u.any ho I.free (by simp)
 exact I.step (g' := s.gens) (d' := s.drawn) (ch := []) (fun _ z => nomatch z) (fun b o _ hb _ e n => u.keep b o e n hb (by simp)) (fun b o _ hb _ e n => u.slot b o e n hb (by simp)) (fun b o _ e n => u.free b o e n (by simp)) (fun b o _ e => u.there b o e (by simp)) u.tups u.frzs u.tbls (fun m' hm => by
  obtain ⟨o', es', ep', ho', r'⟩ := hm
  rw [ho] at ho'; cases ho'
  exact ⟨_, es', ep', hL, r'⟩) hok I.bare
theorem Inv.call {g' : Array GenState} {t' : Nat} {d' : Drawn} {ch : List Addr} (I : Inv X pins σ H s) (u : Un (frs X.stack) ch H H' s.heap h') (hok : HOk X.prog X.w H' h') (hg : AllBare g')
  (hch : ∀ b ∈ ch, (b ∈ X.ex ∨ X.s₀.heap.objs.size ≤ b) ∧ b ≠ X.env.locals ∧ (∀ x c, X.env.cells.lookup x = some c → c ≠ b) ∧ ∀ p ∈ X.pn ++ pins, p.1 ≠ b) :
  Inv X pins σ H' { s with heap := h', gens := g', drawn := d', toks := t' } := by
 obtain ⟨m, ⟨o, es, ep, ho, r⟩, _⟩ := id I.loc
 obtain ⟨sl, hL⟩ := u.any ho I.free fun z => (hch _ z).2.1 rfl
 exact I.step (ch := ch) hch (fun b o hL hb hc e n => u.keep b o e n (fun z => (List.mem_cons.mp (I.stkSub b z)).elim hL hb) hc) (fun b o _ _ hc e n => u.any e n hc) (fun b o hc e n => u.free b o e n hc) (fun b o hc e => u.there b o e hc) u.tups u.frzs u.tbls (fun m' hm => by
  obtain ⟨o', es', ep', ho', r'⟩ := hm
  rw [ho] at ho'; cases ho'
  exact ⟨_, es', ep', hL, r'⟩) hok hg
theorem Inv.turned {t' : Nat} {it : Addr} (I : Inv X pins σ H s) (k : ∀ b o, b ≠ it → s.heap.get? b = some o → h'.get? b = some o) (hn : H it = none) (hL : it ≠ X.env.locals)
  (h1 : it ∈ X.ex ∨ X.s₀.heap.objs.size ≤ it) (h2 : ∀ x c, X.env.cells.lookup x = some c → c ≠ it) (h3 : ∀ p ∈ X.pn ++ pins, p.1 ≠ it) : Inv X pins σ H { s with heap := h', toks := t' } := by
 have nit : ∀ b u, H b = some u → b ≠ it := fun b u e z => by rw [z, hn] at e; cases e
 refine I.step (g' := s.gens) (d' := s.drawn) (ch := [it]) (fun b hb => ?_) (fun b o _ _ hc e _ => k b o (fun z => hc (by simp [z])) e) (fun b o _ _ hc e _ => ⟨o.slots, k b o (fun z => hc (by simp [z])) e⟩) (fun _ _ _ _ n => n)
  (fun b o hc e => ⟨o, k b o (fun z => hc (by simp [z])) e⟩) (fun _ _ e => e) (fun _ _ _ e => e) (fun b ps e => ⟨#[], by rw [e]; simp⟩) (fun m hm => ?_) (fun b u e => ?_) I.bare
 ·have e : b = it := by simpa using hb
  subst e
  exact ⟨h1, hL, h2, h3⟩
 ·obtain ⟨o, es, ep, ho, r⟩ := hm
  exact ⟨o, es, ep, k _ o (Ne.symm hL) ho, r⟩
 ·refine (I.hok b u e).stay (fun c v hc q => k c v ?_ q) (fun _ q => q) fun _ _ q => q
  rcases hc with z | z
  ·rw [z]; exact nit b u e
  ·exact nit c _ z
theorem Inv.tok (I : Inv X pins σ H s) (t : Nat) : Inv X pins σ H { s with toks := t } := I.un (h' := s.heap) (t' := t) Un.refl I.hok
theorem Inv.kept {t' : Nat} (I : Inv X pins σ H s) (k : ∀ b u, s.heap.get? b = some u → h'.get? b = some u) : Inv X pins σ H { s with heap := h', toks := t' } := I.un (Un.kept k) (I.hok.kept k)
theorem Inv.laid {a : Addr} {o : HO} {t' : Nat} (I : Inv X pins σ H s) (k : ∀ b u, s.heap.get? b = some u → h'.get? b = some u) (hp : s.heap.objs.size ≤ a) (new : bU X.prog X.w (upd H a o) h' a o) :
  Inv X pins σ (upd H a o) { s with heap := h', toks := t' } := I.un (Un.laid k hp (I.hok.fresh hp)) (I.hok.laid k hp new)
theorem Inv.write {x e : Addr} {o : HO} {t' : Nat} (I : Inv X pins σ H s) (mu : Mut (H x)) (he : e = x ∨ H e = some (.own x)) (k : ∀ b u, b ≠ e → s.heap.get? b = some u → h'.get? b = some u) (heo : ∃ u, h'.get? e = some u)
  (new : bU X.prog X.w (upd H x o) h' x o) : Inv X pins σ (upd H x o) { s with heap := h', toks := t' } := I.un (Un.write mu he k heo) (I.hok.write mu he k heo new)
theorem Inv.pins_of {pins' : List (Addr × Obj)} (I : Inv X pins σ H s) (h : ∀ p ∈ pins', s.heap.get? p.1 = some p.2 ∧ H p.1 = none ∧ p.1 ≠ X.env.locals ∧ p.1 ∉ X.fs ∧ ∀ v, p.2.data ≠ .cell v) : Inv X pins' σ H s :=
 ⟨I.ok, I.os, I.bare, I.base, I.loc, I.cell, I.free, I.freeC, fun p hp => (List.mem_append.mp hp).elim (fun z => I.pin p (List.mem_append_left _ z)) (h p), I.hok, I.len⟩
theorem qM {N : List Str} (hN : N.Nodup) {i j : Nat} {x : Str} (a : N[i]? = some x) (b : N[j]? = some x) : i = j := by
 obtain ⟨h1, e1⟩ := List.getElem?_eq_some_iff.mp a
 obtain ⟨h2, e2⟩ := List.getElem?_eq_some_iff.mp b
 exact (List.getElem_inj hN).mp (e1.trans e2.symm)
theorem nj {M : Model} {A : Around} {E : Value → Shared → Prop} {i : Nat} {x : Str} {v : V} {u : Value} {Q : Unit → Shared → Prop} (I : Inv X pins σ H s) (hN : X.N.Nodup) (hi : X.N[i]? = some x) (hx : Loc X.env.scope x) (r : RelV v u)
  (h : ∀ s', Inv X pins (σ.set i (some v)) H s' → (∃ a, Heap.SameBut a s.heap s'.heap ∧ (a = X.env.locals ∨ X.env.cells.lookup x = some a)) → Q () s') (hf : X.fn x = true ∨ X.env.scope.names.lookup x = some .local := by first | exact .inl rfl | exact .inr rfl | assumption) : wpAny M A (storeName X.env x u) Q E s := by
 obtain ⟨m, hn, hl⟩ := id I.loc
 have hcls : (X.env.scope.kind == .class || (X.env.scope.kind == .module && X.env.locals != X.env.globals)) = false := by rw [I.ok.kind]; rfl
 have hiσ : i < σ.length := by rw [I.len]; exact (List.getElem?_eq_some_iff.mp hi).1
 have cne := I.cne
 have tracked : ∀ {a : Addr} {h' : Heap}, (∃ o, s.heap.get? a = some o ∧ H a = none) → Heap.SameBut a s.heap h' → HOk X.prog X.w H h' := fun {a h'} ha hs b ob e => by
  obtain ⟨_, _, hfree⟩ := ha
  refine (I.hok b ob e).stay (fun c w' hc q => (hs.2 c ?_).trans q) (fun _ q => q) fun _ _ q => q
  rintro rfl
  rcases hc with rfl | hc
  ·rw [hfree] at e; cases e
  ·rw [hfree] at hc; cases hc
 rcases hx with hk | hk
 ·refine wpAny_storeName_local hk hn (fun h' hn' hs => ?_) hcls
  obtain ⟨oL, _, _, hoL, _⟩ := id hn
  refine h _ ⟨I.ok, I.os, I.bare, ⟨fun b o e n hb hx => ?_, fun b o e n hb hx => ?_, I.base.free, fun b o e hx => ?_, I.base.tups, I.base.frzs, I.base.tbls⟩, ⟨_, hn', fun j y v' e1 e2 e3 => ?_⟩, fun y c e => ?_, I.free, I.freeC, fun p hp => ?_, tracked ⟨oL, hoL, I.free⟩ hs, by simpa using I.len⟩ ⟨_, hs, .inl rfl⟩
  ·exact (hs.2 b (Nat.ne_of_lt (Nat.lt_of_lt_of_le (Heap.lt_size e) I.ok.above))).trans (I.base.keep b o e n hb hx)
  ·obtain ⟨sl, e1⟩ := I.base.slot b o e n hb hx
   exact ⟨sl, (hs.2 b (Nat.ne_of_lt (Nat.lt_of_lt_of_le (Heap.lt_size e) I.ok.above))).trans e1⟩
  ·obtain ⟨o', e1⟩ := I.base.there b o e hx
   exact ⟨o', (hs.2 b (Nat.ne_of_lt (Nat.lt_of_lt_of_le (Heap.lt_size e) I.ok.above))).trans e1⟩
  ·by_cases hj : j = i
   ·subst hj
    rw [hi] at e1; cases e1
    rw [List.getElem?_set_self hiσ] at e2
    cases e2
    exact ⟨u, r, .inl ⟨hk, by simp⟩⟩
   ·rw [List.getElem?_set_ne (Ne.symm hj)] at e2
    obtain ⟨u', r', q⟩ := hl j y v' e1 e2 e3
    refine ⟨u', r', ?_⟩
    rcases q with ⟨k, e⟩ | ⟨k, c, e, z⟩
    ·refine .inl ⟨k, ?_⟩
     have : y ≠ x := fun e => hj (qM hN e1 (e ▸ hi))
     simp [this, e]
    ·exact .inr ⟨k, c, e, z.sameBut hs (cne y c e)⟩
  ·obtain ⟨w', z⟩ := I.cell y c e
   exact ⟨w', z.sameBut hs (cne y c e)⟩
  ·obtain ⟨e, n, ne, nf, d⟩ := I.pin p hp
   exact ⟨(hs.2 p.1 ne).trans e, n, ne, nf, d⟩
 ·have hfn : X.fn x = true := by
   rcases hf with z | z
   ·exact z
   ·rw [z] at hk; cases hk
  obtain ⟨c, hc⟩ := I.ok.has x (.inl hk)
  obtain ⟨w', z⟩ := I.cell x c hc
  refine wpAny_storeName_cell I.ok.kind hk hc z (fun h' hc' hs => ?_)
  obtain ⟨oc, hoc, hocd⟩ := id z
  refine h { s with heap := h' } ⟨I.ok, I.os, I.bare, ⟨fun b o e n hb hx => ?_, fun b o e n hb hx => ?_, I.base.free, fun b o e hx => ?_, I.base.tups, I.base.frzs, I.base.tbls⟩, ⟨m, hn.sameBut hs (Ne.symm (cne x c hc)), fun j y v' e1 e2 e3 => ?_⟩, fun y c' e => ?_, I.free, I.freeC, fun p hp => ?_, tracked ⟨oc, hoc, I.freeC x c hc⟩ hs, by simpa using I.len⟩ ⟨c, hs, .inr hc⟩
  ·exact (hs.2 b (Nat.ne_of_lt (Nat.lt_of_lt_of_le (Heap.lt_size e) (I.ok.cab x c hfn hc)))).trans (I.base.keep b o e n hb hx)
  ·obtain ⟨sl, e1⟩ := I.base.slot b o e n hb hx
   exact ⟨sl, (hs.2 b (Nat.ne_of_lt (Nat.lt_of_lt_of_le (Heap.lt_size e) (I.ok.cab x c hfn hc)))).trans e1⟩
  ·obtain ⟨o', e1⟩ := I.base.there b o e hx
   exact ⟨o', (hs.2 b (Nat.ne_of_lt (Nat.lt_of_lt_of_le (Heap.lt_size e) (I.ok.cab x c hfn hc)))).trans e1⟩
  ·by_cases hj : j = i
   ·subst hj
    rw [hi] at e1; cases e1
    rw [List.getElem?_set_self hiσ] at e2
    cases e2
    exact ⟨u, r, .inr ⟨.inl hk, c, hc, hc'⟩⟩
   ·rw [List.getElem?_set_ne (Ne.symm hj)] at e2
    obtain ⟨u', r', q⟩ := hl j y v' e1 e2 e3
    refine ⟨u', r', ?_⟩
    rcases q with q | ⟨k, c', e, z'⟩
    ·exact .inl q
    ·refine .inr ⟨k, c', e, z'.sameBut hs ?_⟩
     rintro rfl
     exact hj (qM hN e1 (I.ok.inj _ _ _ e hc ▸ hi))
  ·by_cases hcc : c' = c
   ·subst hcc; exact ⟨_, hc'⟩
   ·obtain ⟨w2, z2⟩ := I.cell y c' e
    exact ⟨w2, z2.sameBut hs hcc⟩
  ·obtain ⟨e, n, ne, nf, d⟩ := I.pin p hp
   refine ⟨(hs.2 p.1 ?_).trans e, n, ne, nf, d⟩
   intro q
   rw [q, hoc] at e
   have q' : oc = p.2 := Option.some.inj e
   exact d w' (by rw [← q']; exact hocd)
theorem lL {M : Model} {A : Around} {E : Value → Shared → Prop} {i : Nat} {x : Str} {v : V} {u : Value} {Q : Unit → Shared → Prop} (I : Inv X pins σ H s) (hN : X.N.Nodup) (hi : X.N[i]? = some x) (hx : Loc X.env.scope x) (r : RelV v u)
  (h : ∀ s', Inv X pins (σ.set i (some v)) H s' → Q () s') (hf : X.fn x = true ∨ X.env.scope.names.lookup x = some .local := by first | exact .inl rfl | exact .inr rfl | assumption) : wpAny M A (storeName X.env x u) Q E s :=
 nj I hN hi hx r (fun s' I' _ => h s' I') hf
theorem Inv.call' {s' : Shared} {ch : List Addr} (I : Inv X pins σ H s) (ho : s'.os = s.os) (u : Un (frs X.stack) ch H H' s.heap s'.heap) (hok : HOk X.prog X.w H' s'.heap) (hg : AllBare s'.gens)
  (hch : ∀ b ∈ ch, (b ∈ X.ex ∨ X.s₀.heap.objs.size ≤ b) ∧ b ≠ X.env.locals ∧ (∀ x c, X.env.cells.lookup x = some c → c ≠ b) ∧ ∀ p ∈ X.pn ++ pins, p.1 ≠ b) : Inv X pins σ H' s' := by
 obtain ⟨h', g', d', t', o'⟩ := s'
 have e : o' = s.os := ho
 subst e
 exact I.call (g' := g') (t' := t') (d' := d') u hok hg hch
end
abbrev XK := Value → Option Addr → Hp → Prop
abbrev St := List (Option V)
abbrev VK := V → Hp → Prop
abbrev TE := St → Hp → VK → Prop
abbrev TT := St → Hp → (Bool → Hp → Prop) → Prop
abbrev TA := St → Hp → (List V → Hp → Prop) → Prop
structure Ends where
 nx : St → Hp → Prop
 rt : VK
 bk : St → Hp → Prop := fun _ _ => False
 ct : St → Hp → Prop := fun _ _ => False
abbrev TS := Ends → St → Hp → Prop
def EP (X : Cx) (pins : List (Addr × Obj)) (σ : St) (Q : VK) (u : Value) (s' : Shared) : Prop := ∃ v H', Inv X pins σ H' s' ∧ RelV v u ∧ Q v H'
def TP (X : Cx) (pins : List (Addr × Obj)) (σ : St) (Q : Bool → Hp → Prop) (b : Bool) (s' : Shared) : Prop := ∃ H', Inv X pins σ H' s' ∧ Q b H'
def AP (X : Cx) (pins : List (Addr × Obj)) (σ : St) (Q : List V → Hp → Prop) (us : List Value) (s' : Shared) : Prop := ∃ vs H', Inv X pins σ H' s' ∧ Vals vs us ∧ Q vs H'
def SP (X : Cx) (pins : List (Addr × Obj)) (D : Ends) (f : Flow) (s' : Shared) : Prop :=
 match f with
 | .next => ∃ σ' H', Inv X pins σ' H' s' ∧ D.nx σ' H'
 | .brk => ∃ σ' H', Inv X pins σ' H' s' ∧ D.bk σ' H'
 | .cont => ∃ σ' H', Inv X pins σ' H' s' ∧ D.ct σ' H'
 | .ret u => ∃ v σ' H', Inv X pins σ' H' s' ∧ RelV v u ∧ D.rt v H'
def PE (X : Cx) (e : Expr) (t : TE) : Prop :=
 ∀ (pins : List (Addr × Obj)) (s : Shared) (σ : St) (H : Hp) (Q : VK), Inv X pins σ H s → t σ H Q → wpAny (model X.prog X.w) X.A (eval e X.env) (EP X pins σ Q) X.xe s
def PT (X : Cx) (e : Expr) (t : TT) : Prop :=
 ∀ (pins : List (Addr × Obj)) (s : Shared) (σ : St) (H : Hp) (Q : Bool → Hp → Prop), Inv X pins σ H s → t σ H Q → wpAny (model X.prog X.w) X.A (isTrue e X.env (eval e X.env)) (TP X pins σ Q) X.xe s
def PW (X : Cx) (e : Expr) (t : TT) : Prop :=
 ∀ (whole : Sem Value) (pins : List (Addr × Obj)) (s : Shared) (σ : St) (H : Hp) (Q : Bool → Hp → Prop), Inv X pins σ H s → t σ H Q → wpAny (model X.prog X.w) X.A (isTrue e X.env whole) (TP X pins σ Q) X.xe s
theorem PW.pt {X : Cx} {e : Expr} {t : TT} (h : PW X e t) : PT X e t := h _
def PA (X : Cx) (es : List Expr) (t : TA) : Prop :=
 ∀ (pos : Pos) (pins : List (Addr × Obj)) (s : Shared) (σ : St) (H : Hp) (Q : List V → Hp → Prop), Inv X pins σ H s → t σ H Q → wpAny (model X.prog X.w) X.A (spliced (backTo pos (starEach es X.env))) (AP X pins σ Q) X.xe s
def PS (X : Cx) (st : Stmt) (t : TS) : Prop :=
 ∀ (pins : List (Addr × Obj)) (s : Shared) (σ : St) (H : Hp) (D : Ends), Inv X pins σ H s → t D σ H → wpAny (model X.prog X.w) X.A (exec st X.env) (SP X pins D) X.xe s
def PSs (X : Cx) (st : List Stmt) (t : TS) : Prop :=
 ∀ (pins : List (Addr × Obj)) (s : Shared) (σ : St) (H : Hp) (D : Ends), Inv X pins σ H s → t D σ H → wpAny (model X.prog X.w) X.A (execs st X.env) (SP X pins D) X.xe s
theorem thn {α : Type} {t : Sem α} {Q Q' : α → Shared → Prop} {M : Model} {A : Around} {E : Value → Shared → Prop} {s : Shared} (h : wpAny M A t Q E s) (hQ : ∀ a s, Q a s → Q' a s) : wpAny M A t Q' E s := wpAny_mono h hQ fun _ _ x => x
end L2
namespace L2
open PySem PySem.Spec PyProof.Rows
section
variable {X : Cx}
theorem bin {a b : Expr} {ta tb : TE} (ha : PE X a ta) (hb : PE X b tb) {pins : List (Addr × Obj)} {s : Shared} {σ : St} {H : Hp} {R : V → V → Hp → Prop} (I : Inv X pins σ H s) (h : ta σ H fun x H1 => tb σ H1 fun y H2 => R x y H2)
  {α : Type} {Q : α → Shared → Prop} {f : Value → Value → Sem α}
  (hf : ∀ v u s2 x y H2, Inv X pins σ H2 s2 → RelV x v → RelV y u → R x y H2 → wpAny (model X.prog X.w) X.A (f v u) Q X.xe s2) :
  wpAny (model X.prog X.w) X.A (eval a X.env) (fun v s₁ => wpAny (model X.prog X.w) X.A (eval b X.env) (fun u s₂ => wpAny (model X.prog X.w) X.A (f v u) Q X.xe s₂) X.xe s₁) X.xe s := by
 refine thn (ha pins s σ H _ I h) fun v s1 ⟨x, H1, I1, r1, q1⟩ => ?_
 refine thn (hb pins s1 σ H1 _ I1 q1) fun u s2 ⟨y, H2, I2, r2, q2⟩ => ?_
 exact hf v u s2 x y H2 I2 r1 r2 q2
def DQ (i : Nat) : TE := fun σ H Q => ∃ v, σ[i]? = some (some v) ∧ Q v H
def tC (v : V) : TE := fun _ H Q => Q v H
theorem wF {i : Nat} {x : Str} {pos : Pos} (hN : X.N[i]? = some x) (hv : Vis X.env.scope x) (hd : (x == ("__debug__" : Str)) = false := by decide) (hcd : (x == ("__classdict__" : Str)) = false := by decide) : PE X (.Name x pos) (DQ i) := by
 intro pins s σ H Q I h
 obtain ⟨v, e, h⟩ := h
 obtain ⟨m, hn, hl⟩ := I.loc
 obtain ⟨u, r, l⟩ := hl i x v hN e hv
 have fin : EP X pins σ Q u s := ⟨v, H, I, r, h⟩
 rcases l with ⟨hk, hm⟩ | ⟨hk, c, hc, hcell⟩
 ·exact wpAny_Name (wpAny_loadName_local I.ok.kind hk hn hm fin) hd
 ·rcases hk with hk | hk
  ·exact wpAny_Name (wpAny_loadName_cell I.ok.kind hk hc hcell fin) hd
  ·exact wpAny_Name (wpAny_loadName_free I.ok.kind hk hc hcell fin hcd) hd
theorem au {i j pos} : PE X (.Constant (.int i) j pos) (tC (.int i)) := fun _ _ _ H _ I h => wpAny_Constant_int ⟨.int i, H, I.tok _, ⟨_, rfl⟩, h⟩
theorem p6 {b j pos} : PE X (.Constant (.bool b) j pos) (tC (.bl b)) := fun _ _ _ H _ I h => Constant_bool ⟨.bl b, H, I, rfl, h⟩
theorem cB {j pos} : PE X (.Constant .none j pos) (tC .non) := fun _ _ _ H _ I h => Constant_none ⟨.non, H, I, rfl, h⟩
theorem FP {x j pos} : PE X (.Constant (.str x) j pos) (tC (.str x)) := fun _ _ _ H _ I h => Calls.Constant_str ⟨.str x, H, I.tok _, ⟨_, rfl⟩, h⟩
def Gl (X : Cx) (x : Str) : Prop := X.env.kindOf x = some .globalImplicit
theorem lQ {E : Value → Shared → Prop} {pins : List (Addr × Obj)} {s : Shared} {σ : St} {H : Hp} {x : Str} {u : Value} {pos : Pos} {Q : Value → Shared → Prop} (I : Inv X pins σ H s) (hg : Gl X x) (hm : X.mg x = some u) (h : Q u s)
  (hd : (x == ("__debug__" : Str)) = false := by decide) : wpAny (model X.prog X.w) X.A (eval (.Name x pos) X.env) Q E s :=
 Calls.Name_function_global I.ok.kind hg (Calls.loadGlobal_global (by rw [I.ok.glob]; exact I.mod.glob.keeps I.bk) hm h) hd
theorem c7 {E : Value → Shared → Prop} {pins : List (Addr × Obj)} {s : Shared} {σ : St} {H : Hp} {x : Str} {u : Value} {pos : Pos} {Q : Value → Shared → Prop} (I : Inv X pins σ H s) (hg : Gl X x) (hm : X.mg x = none) (hv : bootBuiltins x = some u) (h : Q u s)
  (hn : x ≠ "__name__" := by decide) (hd : (x == ("__debug__" : Str)) = false := by decide) : wpAny (model X.prog X.w) X.A (eval (.Name x pos) X.env) Q E s := by
 obtain ⟨mb, h1, h2⟩ := I.mod.blt
 exact Calls.Name_function_global I.ok.kind hg (Calls.loadGlobal_builtin (by rw [I.ok.glob]; exact I.mod.glob.keeps I.bk) hm (by rw [I.ok.blt]; exact h1.keeps I.bk) ((h2 x hn).trans hv) h) hd
theorem bx {x : Str} {v : V} {u : Value} {pos : Pos} (hg : Gl X x) (hm : X.mg x = some u) (r : RelV v u) (hd : (x == ("__debug__" : Str)) = false := by decide) : PE X (.Name x pos) (tC v) :=
 fun _ _ _ H _ I h => lQ I hg hm ⟨v, H, I, r, h⟩ hd
theorem ye {x : Str} {v : V} {u : Value} {pos : Pos} (hg : Gl X x) (hm : X.mg x = none) (hv : bootBuiltins x = some u) (r : RelV v u) (hn : x ≠ "__name__" := by decide) (hd : (x == ("__debug__" : Str)) = false := by decide) : PE X (.Name x pos) (tC v) :=
 fun _ _ _ H _ I h => c7 I hg hm hv ⟨v, H, I, r, h⟩ hn hd
variable {a b : Expr} {ta tb : TE} {pos : Pos}
def PC (X : Cx) (op : CmpOp) (a b : Expr) (t : TE) : Prop :=
 ∀ (pins : List (Addr × Obj)) (s : Shared) (σ : St) (H : Hp) (Q : VK), Inv X pins σ H s → t σ H Q →
  wpAny (model X.prog X.w) X.A (eval a X.env) (fun v s₁ => wpAny (model X.prog X.w) X.A (eval b X.env) (fun u s₂ => wpAny (model X.prog X.w) X.A (compareOp op v u) (EP X pins σ Q) X.xe s₂) X.xe s₁) X.xe s
theorem uV (b : Expr) {op : CmpOp} (h : op ≠ .In) (h2 : op ≠ .NotIn) : behindInMarks op b = false := by
 have e1 : (op == CmpOp.In) = false := by cases op <;> first | rfl | exact absurd rfl h
 have e2 : (op == CmpOp.NotIn) = false := by cases op <;> first | rfl | exact absurd rfl h2
 cases b <;> simp [behindInMarks, e1, e2]
def G4 (ta : TE) : TE := fun σ H Q => ta σ H fun x H1 => Q (.bl (decide (x = .non))) H1
def Gy (ta : TE) : TE := fun σ H Q => ta σ H fun x H1 => Q (.bl (!decide (x = .non))) H1
theorem RelV.none_iff {x : V} {v : Value} (r : RelV x v) : (v == Value.none) = decide (x = .non) := by
 cases x with
 | non => cases r; rfl
 | bl _ => cases r; rfl
 | int _ => obtain ⟨t, rfl⟩ := r; rfl
 | str _ => obtain ⟨t, rfl⟩ := r; rfl
 | byt _ => obtain ⟨t, rfl⟩ := r; rfl
 | flt _ => obtain ⟨t, rfl⟩ := r; rfl
 | ref _ => cases r; rfl
 | ty _ => cases r; rfl
theorem iy {j pos'} (ha : PE X a ta) : PC X .Is a (.Constant .none j pos') (G4 ta) := by
 intro pins s σ H Q I h
 refine thn (ha pins s σ H _ I h) fun v s1 ⟨x, H1, I1, r1, q1⟩ => ?_
 exact Constant_none (is_none_gen ⟨.bl _, H1, I1, by rw [r1.none_iff]; rfl, q1⟩)
theorem yj {j pos'} (ha : PE X a ta) : PC X .IsNot a (.Constant .none j pos') (Gy ta) := by
 intro pins s σ H Q I h
 refine thn (ha pins s σ H _ I h) fun v s1 ⟨x, H1, I1, r1, q1⟩ => ?_
 exact Constant_none (isnot_none_gen ⟨.bl _, H1, I1, by rw [r1.none_iff]; rfl, q1⟩)
def tB (t : TE) : TT := fun σ H Q => t σ H fun x H1 => ∃ c, x = .bl c ∧ Q c H1
theorem Fl {op : CmpOp} {t : TE} (h : PC X op a b t) (h1 : behindInMarks op b = false := by first | exact uV _ (by decide) (by decide) | rfl) : PE X (.Compare a [op] [b] pos) t := fun pins s σ H Q I hw => wpAny_Compare1 (h pins s σ H Q I hw) h1
theorem gK {op : CmpOp} {t : TE} (h : PC X op a b t) (h1 : behindInMarks op b = false := by first | exact uV _ (by decide) (by decide) | rfl) : PT X (.Compare a [op] [b] pos) (tB t) := by
 intro pins s σ H Q I hw
 refine wpAny_isTrue_Compare1 (thn (h pins s σ H _ I hw) fun v s1 h1 => thn h1 fun u s2 h2 => thn h2 fun c s3 ⟨x, H1, I1, r1, q1⟩ => ?_) h1
 obtain ⟨d, rfl, q⟩ := q1
 cases r1
 exact wpAny_truthy_bool ⟨H1, I1, q⟩
theorem nG {e : Expr} {t : TE} (h : PE X e t) (he : ∀ whole, isTrue e X.env whole = (do let v ← whole; standAt e.pos; holding [v] (truthy v)) := by intro _; rfl) : PT X e (tB t) := by
 intro pins s σ H Q I hw
 refine isTrue_plain (thn (h pins s σ H _ I hw) fun v s1 ⟨x, H1, I1, r1, q1⟩ => ?_) (he _)
 obtain ⟨d, rfl, q⟩ := q1
 cases r1
 exact wpAny_truthy_bool ⟨H1, I1, q⟩
variable {tA tB' : TT} {rest : List Expr}
def G7 (t u : TT) : TT := fun σ H Q => t σ H fun c H1 => if c = true then u σ H1 Q else Q false H1
def tOr (t u : TT) : TT := fun σ H Q => t σ H fun c H1 => if c = true then Q true H1 else u σ H1 Q
def Hn (t : TT) : TT := fun σ H Q => t σ H fun c H1 => Q (!c) H1
theorem iJ (ha : PT X a tA) : PW X (.BoolOp .And [a] pos) tA := by
 intro wh pins s σ H Q I h
 refine isTrue_and (thn (ha pins s σ H Q I h) fun c s1 e => ?_)
 cases c with
 | true => exact isTrue_and_nil e
 | false => exact e
theorem jx (ha : PT X a tA) : PW X (.BoolOp .Or [a] pos) tA := by
 intro wh pins s σ H Q I h
 refine isTrue_or (thn (ha pins s σ H Q I h) fun c s1 e => ?_)
 cases c with
 | false => exact isTrue_or_nil e
 | true => exact e
theorem jz (ha : PT X a tA) (hb : PW X (.BoolOp .And (b :: rest) pos) tB') : PW X (.BoolOp .And (a :: b :: rest) pos) (G7 tA tB') := by
 intro wh pins s σ H Q I h
 refine isTrue_and (thn (ha pins s σ H _ I h) fun c s1 ⟨H1, I1, q1⟩ => ?_)
 cases c with
 | true => exact hb wh pins s1 σ H1 Q I1 q1
 | false => exact ⟨H1, I1, q1⟩
theorem lO (ha : PT X a tA) (hb : PW X (.BoolOp .Or (b :: rest) pos) tB') : PW X (.BoolOp .Or (a :: b :: rest) pos) (tOr tA tB') := by
 intro wh pins s σ H Q I h
 refine isTrue_or (thn (ha pins s σ H _ I h) fun c s1 ⟨H1, I1, q1⟩ => ?_)
 cases c with
 | true => exact ⟨H1, I1, q1⟩
 | false => exact hb wh pins s1 σ H1 Q I1 q1
theorem jr (ha : PT X a tA) : PT X (.UnaryOp .Not a pos) (Hn tA) := by
 intro pins s σ H Q I h
 exact isTrue_not (ha pins s σ H (fun c H1 => Q (!c) H1) I h)
def Gg (ta tb : TE) : TE := fun σ H Q => ta σ H fun x H1 => ∃ c, x = .bl c ∧ if c = true then tb σ H1 Q else Q (.bl false) H1
def Gb (ta : TE) : TE := fun σ H Q => ta σ H fun x H1 => ∃ c, x = .bl c ∧ Q (.bl (!c)) H1
theorem wO {op} {t : TE} (h : PE X a t) : PE X (.BoolOp op [a] pos) t := fun pins s σ H Q I hw => BoolOp_one (h pins s σ H Q I hw)
theorem v6 (ha : PE X a ta) (hb : PE X (.BoolOp .And (b :: rest) pos) tb) : PE X (.BoolOp .And (a :: b :: rest) pos) (Gg ta tb) := by
 intro pins s σ H Q I h
 refine BoolOp_and (thn (ha pins s σ H _ I h) fun v s1 ⟨x, H1, I1, r1, q1⟩ => ?_)
 obtain ⟨c, rfl, q1⟩ := q1
 cases r1
 refine wpAny_truthy_bool ?_
 cases c with
 | true => exact hb pins s1 σ H1 Q I1 q1
 | false => exact ⟨.bl false, H1, I1, rfl, q1⟩
theorem Ft (ha : PE X a ta) : PE X (.UnaryOp .Not a pos) (Gb ta) := by
 intro pins s σ H Q I h
 refine UnaryOp_ (thn (ha pins s σ H _ I h) fun v s1 ⟨x, H1, I1, r1, q1⟩ => ?_)
 obtain ⟨c, rfl, q1⟩ := q1
 cases r1
 exact not_of (wpAny_truthy_bool ⟨.bl (!c), H1, I1, rfl, q1⟩)
end
end L2
namespace L2
open PySem PySem.Spec PyProof.Rows
def SqL (K : PySem.W.Frag) (H : Hp) (a : Addr) (xs : List V) : Prop :=
 Rd H a (.lst xs) ∨
  ∃ (o : Obj) (its : Array Value) (n : Nat), K.lookup a = some o ∧ o.cls = .type "list" ∧ o.dict = none ∧ o.data = .seq its n ∧ its.size ≤ sizeLine ∧ Vals xs its.toList
def SqT (K : PySem.W.Frag) (H : Hp) (a : Addr) (xs : List V) : Prop :=
 Rd H a (.tup xs) ∨
  ∃ (o : Obj) (its : Array Value) (n : Nat), K.lookup a = some o ∧ o.cls = .type "tuple" ∧ o.data = .seq its n ∧ its.size ≤ sizeLine ∧ Vals xs its.toList
def Hg : Value → Option V
 | .none => some .non
 | .bool b => some (.bl b)
 | .int i _ => some (.int i)
 | .str x _ => some (.str x)
 | .bytes b _ => some (.byt b)
 | .float b _ => some (.flt b)
 | .ref a => some (.ref a)
 | .type n => some (.ty n)
 | _ => none
theorem RelV.abs {x : V} {u : Value} (r : RelV x u) : Hg u = some x := by
 cases x with
 | non => cases r; rfl
 | bl _ => cases r; rfl
 | int _ => obtain ⟨t, rfl⟩ := r; rfl
 | str _ => obtain ⟨t, rfl⟩ := r; rfl
 | byt _ => obtain ⟨t, rfl⟩ := r; rfl
 | flt _ => obtain ⟨t, rfl⟩ := r; rfl
 | ref _ => cases r; rfl
 | ty _ => cases r; rfl
theorem RelV.inj {x y : V} {u : Value} (r : RelV x u) (q : RelV y u) : x = y := Option.some.inj (r.abs.symm.trans q.abs)
theorem Vals.inj : ∀ {xs ys : List V} {us : List Value}, Vals xs us → Vals ys us → xs = ys
 | _, _, _, .nil, .nil => rfl
 | _, _, _, .cons r t, .cons r' t' => by rw [r.inj r', Vals.inj t t']
section
variable {X : Cx} {pins : List (Addr × Obj)} {σ : St} {H : Hp} {s : Shared} {a : Addr} {xs ys : List V}
theorem SqL.of {K : PySem.W.Frag} (h : H a = some (.lst xs)) : SqL K H a xs := .inl (.inl h)
theorem SqT.of {K : PySem.W.Frag} (h : H a = some (.tup xs)) : SqT K H a xs := .inl (.inl h)
theorem Inv.list (I : Inv X pins σ H s) (h : SqL X.K H a xs) : ∃ its : List Value, Vals xs its ∧ PlainL s.heap a its.toArray ∧ xs.length ≤ sizeLine := by
 rcases h with h | ⟨o, its, n, hk, hc, hd, hs, hz, r⟩
 ·obtain ⟨z, its, n, r, e⟩ := h.ok I.hok
  exact ⟨its, r, ⟨_, n, e, rfl, rfl, rfl⟩, z⟩
 ·refine ⟨its.toList, r, ⟨o, n, I.kIn a o hk, hc, hd, by simpa using hs⟩, ?_⟩
  have e := r.length
  simp only [Array.length_toList] at e
  omega
theorem Inv.tuple (I : Inv X pins σ H s) (h : SqT X.K H a xs) : ∃ its : List Value, Vals xs its ∧ IsTup s.heap a its.toArray ∧ xs.length ≤ sizeLine := by
 rcases h with h | ⟨o, its, n, hk, hc, hs, hz, r⟩
 ·obtain ⟨z, its, r, p⟩ := h.ok I.hok
  exact ⟨its, r, p, z⟩
 ·refine ⟨its.toList, r, ⟨o, I.kIn a o hk, hc, n, by simpa using hs⟩, ?_⟩
  have e := r.length
  simp only [Array.length_toList] at e
  omega
theorem Inv.list_inj (I : Inv X pins σ H s) (h : SqL X.K H a xs) (h' : SqL X.K H a ys) : xs = ys := by
 obtain ⟨its, r, ⟨o, n, e, _, _, d⟩, _⟩ := I.list h
 obtain ⟨its', r', ⟨o', n', e', _, _, d'⟩, _⟩ := I.list h'
 rw [e] at e'; cases e'
 rw [d] at d'
 injection d' with d1 _
 have : its = its' := by simpa using congrArg Array.toList d1
 subst this
 exact r.inj r'
end
abbrev Cx.wish (X : Cx) (E : Value → Shared → Prop) : Cx := { X with xe := E }
abbrev Cx.nox (X : Cx) : Cx := X.wish fun _ _ => False
theorem Cx.Ok.wish {X : Cx} (ok : X.Ok) (E : Value → Shared → Prop) : (X.wish E).Ok :=
 ⟨ok.mod, ok.kind, ok.glob, ok.blt, ok.above, ok.inj, ok.has, ok.cab, ok.hd, ok.frames, ok.stk, ok.exf, ok.bs, ok.bsz, ok.noex, ok.exfs, ok.funs, ok.frf⟩
theorem Cx.Ok.unwish {X : Cx} {E : Value → Shared → Prop} (ok : (X.wish E).Ok) : X.Ok :=
 ⟨ok.mod, ok.kind, ok.glob, ok.blt, ok.above, ok.inj, ok.has, ok.cab, ok.hd, ok.frames, ok.stk, ok.exf, ok.bs, ok.bsz, ok.noex, ok.exfs, ok.funs, ok.frf⟩
section
variable {X : Cx} {pins : List (Addr × Obj)} {σ : St} {H : Hp} {s : Shared} {E : Value → Shared → Prop}
theorem Inv.wish (I : Inv X pins σ H s) (E : Value → Shared → Prop) : Inv (X.wish E) pins σ H s := ⟨I.ok.wish E, I.os, I.bare, I.base, I.loc, I.cell, I.free, I.freeC, I.pin, I.hok, I.len⟩
theorem Inv.unwish (I : Inv (X.wish E) pins σ H s) : Inv X pins σ H s := ⟨I.ok.unwish, I.os, I.bare, I.base, I.loc, I.cell, I.free, I.freeC, I.pin, I.hok, I.len⟩
theorem SP.unwish {D : Ends} {f : Flow} {s' : Shared} (h : SP (X.wish E) pins D f s') : SP X pins D f s' := by
 cases f with
 | next => obtain ⟨σ', H', I, q⟩ := h; exact ⟨σ', H', I.unwish, q⟩
 | brk => obtain ⟨σ', H', I, q⟩ := h; exact ⟨σ', H', I.unwish, q⟩
 | cont => obtain ⟨σ', H', I, q⟩ := h; exact ⟨σ', H', I.unwish, q⟩
 | ret u => obtain ⟨v, σ', H', I, r, q⟩ := h; exact ⟨v, σ', H', I.unwish, r, q⟩
theorem PSs.nox {st : List Stmt} {t : TS} (h : PSs X.nox st t) : PSs X st t := fun pins s σ H D I hw =>
 wpAny_mono (h pins s σ H D (I.wish _) hw) (fun _ _ q => q.unwish) fun _ _ z => False.elim z
end
section
variable {X : Cx} {st : Stmt} {rest : List Stmt} {t u : TS} {e : Expr} {te : TE} {pos : Pos}
def Bo : TS := fun D σ H => D.nx σ H
def Hm (t u : TS) : TS := fun D σ H => t { D with nx := u D } σ H
theorem aN : PSs X [] Bo := fun _ _ σ H _ I h => wpAny_execs_nil ⟨σ, H, I, h⟩
theorem ak (h1 : PS X st t) (h2 : PSs X rest u) : PSs X (st :: rest) (Hm t u) := by
 intro pins s σ H D I h
 refine wpAny_execs_cons (thn (h1 pins s σ H { D with nx := u D } I h) fun f s1 q => ?_)
 cases f with
 | next =>
  obtain ⟨σ', H', I', q⟩ := q
  exact h2 pins s1 σ' H' D I' q
 | ret v => exact q
 | brk => exact q
 | cont => exact q
theorem aq (h1 : PS X st t) : PSs X [st] t := by
 intro pins s σ H D I h
 refine wpAny_execs_cons (thn (h1 pins s σ H D I h) fun f s1 q => ?_)
 cases f with
 | next => exact wpAny_execs_nil q
 | ret v => exact q
 | brk => exact q
 | cont => exact q
theorem Inv.quiet {pins : List (Addr × Obj)} {σ : St} {H : Hp} {s : Shared} (I : Inv X pins σ H s) : interactive X.env = false := by simp [interactive, I.ok.kind]
def Ga (te : TE) : TS := fun D σ H => te σ H fun _ H1 => D.nx σ H1
theorem aY (he : PE X e te) (hs : swapsWith e none pos.line X.env = pure false := by rfl) : PS X (.Expr e pos) (Ga te) := by
 intro pins s σ H D I h
 exact wpAny_Expr_any (thn (he pins s σ H _ I h) fun v s1 ⟨x, H1, I1, r1, q1⟩ => ⟨σ, H1, I1, q1⟩) I.quiet hs
def GZ (te : TE) : TS := fun D σ H => te σ H D.rt
theorem aD (he : PE X e te) : PS X (.Return (some e) pos) (GZ te) := by
 intro pins s σ H D I h
 exact wpAny_Return_some (thn (he pins s σ H _ I h) fun v s1 ⟨x, H1, I1, r1, q1⟩ => ⟨x, σ, H1, I1, r1, q1⟩)
def Hd (c : TT) (t u : TS) : TS := fun D σ H => c σ H fun b H1 => if b = true then t D σ H1 else u D σ H1
theorem aX {c : Expr} {a b : List Stmt} {tc : TT} (hc : PT X c tc) (ha : PSs X a t) (hb : PSs X b u) : PS X (.If c a b pos) (Hd tc t u) := by
 intro pins s σ H D I h
 refine wpAny_If (thn (hc pins s σ H _ I h) fun d s1 ⟨H1, I1, q1⟩ => ?_)
 cases d with
 | true => exact ha pins s1 σ H1 D I1 q1
 | false => exact hb pins s1 σ H1 D I1 q1
def Eh : TS := fun _ _ _ => False
theorem cG : PS X st Eh := fun _ _ _ _ _ _ h => h.elim
end
abbrev TG := V → St → Hp → (St → Hp → Prop) → Prop
abbrev TGs := List V → St → Hp → (St → Hp → Prop) → Prop
def PG (X : Cx) (target : Expr) (t : TG) : Prop :=
 ∀ (pins : List (Addr × Obj)) (s : Shared) (σ : St) (H : Hp) (v : V) (u : Value) (Q : St → Hp → Prop), Inv X pins σ H s → RelV v u → t v σ H Q →
  wpAny (model X.prog X.w) X.A (assign target X.env u) (fun _ s' => ∃ σ' H', Inv X pins σ' H' s' ∧ Q σ' H') X.xe s
def PGs (X : Cx) (ts : List Expr) (t : TGs) : Prop :=
 ∀ (pins : List (Addr × Obj)) (s : Shared) (σ : St) (H : Hp) (vs : List V) (us : List Value) (Q : St → Hp → Prop), Inv X pins σ H s → Vals vs us → t vs σ H Q →
  wpAny (model X.prog X.w) X.A (assignInOrder ((assignEach ts X.env).map (·.2)) us) (fun _ s' => ∃ σ' H', Inv X pins σ' H' s' ∧ Q σ' H') X.xe s
abbrev Fi := V → V → V → Hp → (Hp → Prop) → Prop
def Gm (X : Cx) (t : Fi) : Prop :=
 ∀ (pins : List (Addr × Obj)) (s : Shared) (σ : St) (H : Hp) (o i v : V) (ov iv u : Value) (Q : Hp → Prop), Inv X pins σ H s → RelV o ov → RelV i iv → RelV v u → t o i v H Q →
  wpAny (model X.prog X.w) X.A (setItem ov iv u) (fun _ s' => ∃ H', Inv X pins σ H' s' ∧ Q H') X.xe s
section
variable {X : Cx} {pos : Pos}
def qF (i : Nat) : TG := fun v σ H Q => Q (σ.set i (some v)) H
theorem aV {i : Nat} {x : Str} (hN : X.N.Nodup) (hi : X.N[i]? = some x) (hx : Loc X.env.scope x) (hf : X.fn x = true ∨ X.env.scope.names.lookup x = some .local := by first | exact .inl rfl | exact .inr rfl | assumption) : PG X (.Name x pos) (qF i) := by
 intro pins s σ H v u Q I r h
 exact wpAny_assign_Name (lL I hN hi hx r (fun s' I' => ⟨_, H, I', h⟩) hf)
def GK : TGs := fun vs σ H Q => vs = [] ∧ Q σ H
def Bu (t : TG) (u : TGs) : TGs := fun vs σ H Q => ∃ v r, vs = v :: r ∧ t v σ H fun σ' H' => u r σ' H' Q
theorem iu : PGs X [] GK := by
 intro pins s σ H vs us Q I r h
 obtain ⟨e, h⟩ := h
 subst e
 cases r
 exact assignInOrder_nil ⟨σ, H, I, h⟩
theorem bK {e : Expr} {es : List Expr} {t : TG} {u : TGs} (h1 : PG X e t) (h2 : PGs X es u)
  (hs : (assignEach (e :: es) X.env).map (·.2) = assign e X.env :: (assignEach es X.env).map (·.2) := by rfl) : PGs X (e :: es) (Bu t u) := by
 intro pins s σ H vs us Q I r h
 obtain ⟨v, vr, e1, h⟩ := h
 subst e1
 cases r with
 | cons r rr =>
  rw [hs]
  refine assignInOrder_cons (thn (h1 pins s σ H _ _ _ I r h) fun _ s1 ⟨σ1, H1, I1, q1⟩ => ?_)
  exact h2 pins s1 σ1 H1 _ _ Q I1 rr q1
def Gd (K : PySem.W.Frag) (n : Nat) (t : TGs) : TG := fun v σ H Q => ∃ a xs, v = .ref a ∧ SqT K H a xs ∧ xs.length = n ∧ t xs σ H Q
theorem lq {es : List Expr} {k : Nat} {t : TGs} {n : Nat} (hc : X.calm = true) (h : PGs X es t)
  (hn : (assignEach es X.env).length = n := by rfl) (hst : (assignEach es X.env).findIdx? (·.1) = none := by rfl) : PG X (.Tuple es k pos) (Gd X.K n t) := by
 intro pins s σ H v u Q I r hw
 obtain ⟨a, xs, e1, hq, hl, hw⟩ := hw
 subst e1
 cases r
 obtain ⟨its, rv, ht, hz⟩ := I.tuple hq
 refine assign_Tuple_tuple (I.ok.hd hc) ht (by simp [hn, ← hl, rv.length]) hst fun h' hx => ?_
 have I1 : Inv X pins σ H { s with heap := h' } := I.kept (t' := s.toks) fun b o e => hx b o (Nat.ne_of_lt (Heap.lt_size e)) e
 exact h pins _ σ H xs _ Q I1 (by simpa using rv) hw
def Hf (to ti : TE) (t : Fi) : TG := fun v σ H Q => to σ H fun o H1 => ti σ H1 fun i H2 => t o i v H2 fun H3 => Q σ H3
theorem Ez {o i : Expr} {to ti : TE} {t : Fi} (ho : PE X o to) (hi : PE X i ti) (hs : Gm X t)
  (ha : ∀ v, assign (.Subscript o i pos) X.env v = (do
   let ov ← holding [v] (eval o X.env)
   let iv ← holding [v, ov] (eval i X.env)
   standAt pos
   holding [v, ov, iv] (setItem ov iv v)
   release [v, ov, iv] []) := by intro _; rfl) : PG X (.Subscript o i pos) (Hf to ti t) := by
 intro pins s σ H v u Q I r h
 rw [ha]
 refine wpAny_bind (wpAny_holding (thn (ho pins s σ H _ I h) fun ov s1 ⟨x, H1, I1, r1, q1⟩ => ?_))
 refine wpAny_bind (wpAny_holding (thn (hi pins s1 σ H1 _ I1 q1) fun iv s2 ⟨y, H2, I2, r2, q2⟩ => ?_))
 refine wpAny_bind (wpAny_standAt (wpAny_bind (wpAny_holding (thn (hs pins s2 σ H2 x y v ov iv u _ I2 r1 r2 r q2) fun _ s3 ⟨H3, I3, q3⟩ => ?_))))
 exact wpAny_release ⟨σ, H3, I3, q3⟩
def Dg (te : TE) (g : TG) : TS := fun D σ H => te σ H fun x H1 => g x σ H1 D.nx
theorem zU {tg e : Expr} {te : TE} {g : TG} (he : PE X e te) (hg : PG X tg g) (hs : swapsWithSole [tg] e pos.line X.env = pure false := by rfl) (hw : swappedStores [tg] e X.env = pure none := by rfl)
  (h1 : (assignEach [tg] X.env).map (·.2) = [assign tg X.env] := by rfl) : PS X (.Assign [tg] e pos) (Dg te g) := by
 intro pins s σ H D I h
 refine wpAny_Assign_stores (thn (he pins s σ H _ I h) fun v s1 ⟨x, H1, I1, r1, q1⟩ => ?_) hs hw
 rw [h1]
 exact thn (hg pins s1 σ H1 x v _ I1 r1 q1) fun _ s2 q => q
theorem aF {i : Nat} {x : Str} {e : Expr} {te : TE} {pos' : Pos} (hN : X.N.Nodup) (hi : X.N[i]? = some x) (hx : Loc X.env.scope x) (he : PE X e te) (hs : swapsWith e (some (.Name x pos')) pos.line X.env = pure false := by rfl) (hf : X.fn x = true ∨ X.env.scope.names.lookup x = some .local := by first | exact .inl rfl | exact .inr rfl | assumption) :
  PS X (.Assign [.Name x pos'] e pos) (Dg te (qF i)) := by
 intro pins s σ H D I h
 refine wpAny_Assign_Name (thn (he pins s σ H _ I h) fun v s1 ⟨y, H1, I1, r1, q1⟩ => ?_) hs
 exact lL I1 hN hi hx r1 (fun s2 I2 => ⟨_, H1, I2, q1⟩) hf
end
section
variable {X : Cx} {pos : Pos}
def Ed (c : TT) (tb : TS) : TS := fun D σ H => ∃ W : Nat → St → Hp → Prop, (∃ m, W m σ H) ∧ ∀ m σ H, W m σ H →
 c σ H fun b H1 => if b = true then ∃ N : St → Hp → Prop, (∀ σ' H', N σ' H' → ∃ m', m' < m ∧ W m' σ' H') ∧ tb { D with nx := N, ct := N, bk := D.nx } σ H1 else D.nx σ H1
theorem jL {c : Expr} {body : List Stmt} {tc : TT} {tb : TS} (hp : PassesOwn (model X.prog X.w) X.A X.env X.xe) (hc : PT X c tc) (hb : PSs X body tb) : PS X (.While c body [] pos) (Ed tc tb) := by
 intro pins s σ H D I h
 obtain ⟨W, ⟨m0, w0⟩, turn⟩ := h
 refine wpAny_While (codeAny_whileLoop (fun n s' => ∃ σ' H', Inv X pins σ' H' s' ∧ W n σ' H') ?_ m0 ⟨σ, H, I, w0⟩)
 rintro n s1 ⟨σ1, H1, I1, w1⟩
 refine wpAny_passesOwn hp (thn (hc pins s1 σ1 H1 _ I1 (turn n σ1 H1 w1)) fun b s2 ⟨H2, I2, q2⟩ => ?_)
 cases b with
 | true =>
  obtain ⟨N, hN, q2⟩ := q2
  rw [if_pos rfl]
  refine wpAny_passesOwn hp (thn (hb pins s2 σ1 H2 _ I2 q2) fun f s3 q3 => ?_)
  cases f with
  | next =>
   obtain ⟨σ3, H3, I3, n3⟩ := q3
   obtain ⟨m', hm, w3⟩ := hN σ3 H3 n3
   exact ⟨m', hm, σ3, H3, I3, w3⟩
  | cont =>
   obtain ⟨σ3, H3, I3, n3⟩ := q3
   obtain ⟨m', hm, w3⟩ := hN σ3 H3 n3
   exact ⟨m', hm, σ3, H3, I3, w3⟩
  | brk => exact q3
  | ret v => exact q3
 | false =>
  rw [if_neg Bool.false_ne_true]
  exact wpAny_execs_nil ⟨σ1, H2, I2, q2⟩
end
structure It where
 go : Nat → Hp → Prop
 yld : Nat → Hp → V → Hp → Prop
 stop : Nat → Hp → Prop
def iD (X : Cx) (pins : List (Addr × Obj)) (H : Hp) (b : Addr) : Prop :=
 H b = none ∧ b ≠ X.env.locals ∧ b ∉ X.fs ∧ (b ∈ X.ex ∨ X.s₀.heap.objs.size ≤ b) ∧ (∀ x c, X.env.cells.lookup x = some c → c ≠ b) ∧ ∀ p ∈ X.pn ++ pins, p.1 ≠ b
theorem Inv.fpOk {X : Cx} {pins : List (Addr × Obj)} {σ : St} {H H' : Hp} {s : Shared} {b : Addr} (I : Inv X pins σ H s) (hb : s.heap.objs.size ≤ b) (hn : H' b = none) : iD X pins H' b := by
 refine ⟨hn, Nat.ne_of_gt (Nat.lt_of_lt_of_le I.lt hb), I.nofs hb, .inr (Nat.le_trans I.sz hb), fun x c e z => ?_, fun p hp z => ?_⟩
 ·obtain ⟨v, q⟩ := I.cell x c e
  exact absurd (Nat.lt_of_lt_of_le q.lt (by rw [z]; exact hb)) (Nat.lt_irrefl _)
 ·exact absurd (Nat.lt_of_lt_of_le (Heap.lt_size (I.pin p hp).1) (by rw [z]; exact hb)) (Nat.lt_irrefl _)
structure Turn (P : Program) (w : World) (K : PySem.W.Frag) (tg : Expr) (J : It) (fp : List Addr) (it : Addr) (tn : Nat → Heap → Prop) : Prop where
 mem : it ∈ fp
 obj : ∀ i h, tn i h → ∀ b ∈ fp, ∃ o, h.get? b = some o ∧ ∀ v, o.data ≠ .cell v
 keep : ∀ i h h', tn i h → (∀ b ∈ fp, ∀ o, h.get? b = some o → h'.get? b = some o) → tn i h'
 item : ∀ (X : Cx), X.prog = P → X.w = w → X.K = K → X.calm = true → ∀ (i : Nat) (pins : List (Addr × Obj)) (s : Shared) (σ : St) (H : Hp) (E : Value → Shared → Prop), Inv X pins σ H s → (∀ b ∈ fp, iD X pins H b) → tn i s.heap → J.go i H →
  wpAny (model P w) X.A (pyNext (.ref it)) (fun r s1 => ∃ u, r = some u ∧
   wpAny (model P w) X.A (letOwnedTupleGo tg (.ref it) u) (fun _ s2 => ∃ x H', Inv X pins σ H' s2 ∧ RelV x u ∧ J.yld i H x H' ∧ tn (i + 1) s2.heap ∧ ∀ b ∈ fp, H' b = none) E s1) E s
 done : ∀ (X : Cx), X.prog = P → X.w = w → X.K = K → X.calm = true → ∀ (i : Nat) (pins : List (Addr × Obj)) (s : Shared) (σ : St) (H : Hp) (E : Value → Shared → Prop), Inv X pins σ H s → (∀ b ∈ fp, iD X pins H b) → tn i s.heap → J.stop i H →
  wpAny (model P w) X.A (pyNext (.ref it)) (fun r s1 => r = none ∧ Inv X pins σ H s1) E s
 self : ∀ (A : Around) (i : Nat) (s : Shared) (Q : Value → Shared → Prop) (E : Value → Shared → Prop), tn i s.heap → Q (.ref it) s → wpAny (model P w) A (pyIter (.ref it)) Q E s
abbrev TI := St → Hp → (It → Hp → Prop) → Prop
def PIE (X : Cx) (pins : List (Addr × Obj)) (σ : St) (tg : Expr) (R : It → Hp → Prop) (itv : Value) (s2 : Shared) : Prop :=
 ∃ (it : Addr) (fp : List Addr) (tn : Nat → Heap → Prop) (J : It) (H' : Hp), itv = .ref it ∧ Inv X pins σ H' s2 ∧ Turn X.prog X.w X.K tg J fp it tn ∧ tn 0 s2.heap ∧ (∀ b ∈ fp, iD X pins H' b) ∧ R J H'
def PI (X : Cx) (tg iter : Expr) (wi : TI) : Prop :=
 ∀ (pins : List (Addr × Obj)) (s : Shared) (σ : St) (H : Hp) (R : It → Hp → Prop), Inv X pins σ H s → wi σ H R →
  wpAny (model X.prog X.w) X.A (eval iter X.env) (fun v s1 => wpAny (model X.prog X.w) X.A (pyIter v) (PIE X pins σ tg R) X.xe s1) X.xe s
theorem yF {M : Model} {A : Around} {E : Value → Shared → Prop} {s : Shared} {tg : Expr} {it : Addr} {u : Value} {o : Obj} {n : String} {vs : Array Value} {Q : Unit → Shared → Prop} (ho : s.heap.get? it = some o) (hc : o.cls = .type n) (hd : o.data = .fields vs)
    (hn : ["enumerate", "zip", "dict_itemiterator", "dict_reverseitemiterator", "odict_iterator", "itertools.zip_longest", "itertools.pairwise"].contains n = false) (hQ : Q () s) : wpAny M A (letOwnedTupleGo tg (.ref it) u) Q E s := by
  unfold letOwnedTupleGo
  cases tg <;> first
    | exact wpAny_pure hQ
    | (cases u <;> first
        | exact wpAny_pure hQ
        | (refine wpAny_bind (wpAny_load ho ?_)
           rw [hc, hd]
           show wpAny M A (if (["enumerate", "zip", "dict_itemiterator", "dict_reverseitemiterator", "odict_iterator", "itertools.zip_longest", "itertools.pairwise"].contains n && vs[0]? == some (rawInt _)) = true then _ else _) Q E s
           rw [if_neg (by intro h; rw [hn, Bool.false_and] at h; cases h)]
           exact wpAny_pure hQ))
def Itl (K : PySem.W.Frag) (a : Addr) : It :=
 ⟨fun i H => ∃ xs x, SqL K H a xs ∧ xs[i]? = some x, fun i H x H' => H' = H ∧ ∀ xs, SqL K H a xs → xs[i]? = some x, fun i H => ∃ xs, SqL K H a xs ∧ xs.length ≤ i⟩
def Itr (lo : Int) (n : Nat) : It := ⟨fun i _ => i < n, fun i H x H' => H' = H ∧ x = .int (lo + i), fun i _ => n ≤ i⟩
theorem zG {P : Program} {w : World} {K : PySem.W.Frag} {tg : Expr} (a it : Addr) : Turn P w K tg (Itl K a) [it] it (fun i h => h.IsListIter it a i) where
 mem := by simp
 obj := fun i h st b hb => by
  have e : b = it := by simpa using hb
  subst e
  obtain ⟨o, e, c, d⟩ := st
  exact ⟨o, e, fun v z => by rw [d] at z; cases z⟩
 keep := fun i h h' st k => st.at fun o e => k it (by simp) o e
 item := by
  intro X hP hw hK hc i pins s σ H E I hf st hg
  subst hP hw hK
  obtain ⟨xs, x, hq, hx⟩ := hg
  obtain ⟨its, rv, p, hz⟩ := I.list hq
  obtain ⟨u, hu, ru⟩ := rv.get hx
  obtain ⟨f0, f1, f2, f3, f4, f5⟩ := hf it (by simp)
  refine wpAny_pyNext_list_item st p.isList (x := u) (by simpa using hu) fun h' st' sb => ?_
  have I1 : Inv X pins σ H { s with heap := h' } := I.turned (t' := s.toks) (fun b o hb e => (sb.2 b hb).trans e) f0 f1 f3 f4 f5
  obtain ⟨o, e, c, d⟩ := id st'
  exact ⟨u, rfl, yF (s := { s with heap := h' }) e c d (by decide) ⟨x, H, I1, ru, ⟨rfl, fun ys hy => by rw [I.list_inj hy hq]; exact hx⟩, st', fun b hb => (hf b hb).1⟩⟩
 done := by
  intro X hP hw hK hc i pins s σ H E I hf st hg
  subst hP hw hK
  obtain ⟨xs, hq, hx⟩ := hg
  obtain ⟨its, rv, p, hz⟩ := I.list hq
  obtain ⟨f0, f1, f2, f3, f4, f5⟩ := hf it (by simp)
  have hl := rv.length
  exact wpAny_pyNext_list_end (I.ok.hd hc) st p.isList (by simp; omega) fun h' eb => ⟨rfl, I.turned (t' := s.toks) (fun b o hb e => eb b o hb e) f0 f1 f3 f4 f5⟩
 self := fun _ _ _ _ _ st h => wpAny_pyIter_listiter st h
theorem xO {P : Program} {w : World} {K : PySem.W.Frag} {tg : Expr} (it : Addr) (lo : Int) (n : Nat) : Turn P w K tg (Itr lo n) [it] it (fun i h => IsRangeIter h it (lo + (i : Nat) * 1) ((n : Int) - (i : Nat)) 1) where
 mem := by simp
 obj := fun i h st b hb => by
  have e : b = it := by simpa using hb
  subst e
  exact ⟨_, st, fun v z => by
   have z' : Data.fields _ = Data.cell v := z
   cases z'⟩
 keep := fun i h h' st k => k it (by simp) _ st
 item := by
  intro X hP hw hK hc i pins s σ H E I hf st hg
  subst hP hw hK
  obtain ⟨f0, f1, f2, f3, f4, f5⟩ := hf it (by simp)
  have W := Walks.range (prog := X.prog) (w := X.w) (I.ok.hd hc) it lo 1 n
  refine W.item i s _ _ hg st fun v h' tk hv st' kk => ?_
  obtain ⟨t, rfl⟩ := hv
  have I1 : Inv X pins σ H { s with heap := h', toks := tk } := I.turned (fun b o hb e => kk b o (by simpa using hb) e) f0 f1 f3 f4 f5
  refine ⟨_, rfl, yF (s := { s with heap := h', toks := tk }) (n := "range_iterator") st' rfl rfl (by decide) ⟨.int (lo + i), H, I1, ⟨t, ?_⟩, ⟨rfl, rfl⟩, st', fun b hb => (hf b hb).1⟩⟩
  rw [Int.mul_one]
 done := by
  intro X hP hw hK hc i pins s σ H E I hf st hg
  subst hP hw hK
  obtain ⟨f0, f1, f2, f3, f4, f5⟩ := hf it (by simp)
  exact wpAny_pyNext_range_end (I.ok.hd hc) st (by have : n ≤ i := hg; omega) fun h' eb => ⟨rfl, I.turned (t' := s.toks) (fun b o hb e => eb b o hb e) f0 f1 f3 f4 f5⟩
 self := fun _ _ _ _ _ st h => wpAny_pyIter_rangeiter st h
end L2
namespace L2
open PySem PySem.Spec PyProof.Rows
section
variable {X : Cx} {tg : Expr}
def FT (K : PySem.W.Frag) (tl : TE) : TI := fun σ H R => tl σ H fun x H1 => ∃ a, x = .ref a ∧ (∃ xs, SqL K H1 a xs) ∧ R (Itl K a) H1
theorem dH {l : Expr} {tl : TE} (hl : PE X l tl) : PI X tg l (FT X.K tl) := by
 intro pins s σ H R I h
 refine thn (hl pins s σ H _ I h) fun v s1 ⟨x, H1, I1, r1, q1⟩ => ?_
 obtain ⟨a, e, ⟨xs, hq⟩, q⟩ := q1
 subst e
 cases r1
 obtain ⟨its, rv, p, hz⟩ := I1.list hq
 refine wpAny_pyIter_list p.isList ?_
 refine ⟨s1.heap.objs.size, [s1.heap.objs.size], _, _, H1, rfl, I1.kept (t' := s1.toks) fun b o e => Heap.get?_push_of_some _ e, zG a _, ⟨_, Heap.get?_push_size _ rfl, rfl, rfl⟩, fun b hb => ?_, q⟩
 have e : b = s1.heap.objs.size := by simpa using hb
 subst e
 exact I1.fpOk (Nat.le_refl _) (I1.hok.fresh (Nat.le_refl _))
theorem uO {pins : List (Addr × Obj)} {σ : St} {H : Hp} {s : Shared} {R : It → Hp → Prop} {E : Value → Shared → Prop} {lo hi : Int} {t u v : Tok} {tk : Nat} (I : Inv X pins σ H s) (h1 : -(2 ^ 62) ≤ lo) (h2 : lo < 2 ^ 62) (h3 : -(2 ^ 62) ≤ hi) (h4 : hi < 2 ^ 62)
  (q : R (Itr lo (hi - lo).toNat) H) : wpAny (model X.prog X.w) X.A (pyIter (.ref s.heap.objs.size)) (PIE X pins σ tg R) E { s with heap := s.heap.push { cls := .type "range", data := .fields #[.int lo t, .int hi u, .int 1 v] }, toks := tk } := by
 refine wpAny_pyIter_range (IsRange.new ..) (small_one h1 h2 h3 h4) ?_
 have I1 : Inv X pins σ H { s with heap := s.heap.push { cls := .type "range", data := .fields #[.int lo t, .int hi u, .int 1 v] }, toks := tk } := I.kept fun b o e => Heap.get?_push_of_some _ e
 refine ⟨(s.heap.push { cls := .type "range", data := .fields #[.int lo t, .int hi u, .int 1 v] }).objs.size, [(s.heap.push { cls := .type "range", data := .fields #[.int lo t, .int hi u, .int 1 v] }).objs.size], _, _, H, rfl,
  I1.kept (t' := tk) fun b o e => Heap.get?_push_of_some _ e, xO _ lo (hi - lo).toNat, ?_, fun b hb => ?_, q⟩
 ·have e1 : lo + ((0 : Nat) : Int) * 1 = lo := by simp
  have e2 : (((hi - lo).toNat : Nat) : Int) - ((0 : Nat) : Int) = Builtin.Range.rangeSize lo hi 1 := by rw [rangeSize_one]; split <;> omega
  show IsRangeIter _ _ (lo + ((0 : Nat) : Int) * 1) ((((hi - lo).toNat : Nat) : Int) - ((0 : Nat) : Int)) 1
  rw [e1, e2]
  exact Heap.get?_push_size _ rfl
 ·have e : b = (s.heap.push { cls := .type "range", data := .fields #[.int lo t, .int hi u, .int 1 v] }).objs.size := by simpa using hb
  subst e
  exact I1.fpOk (Nat.le_refl _) (I1.hok.fresh (Nat.le_refl _))
def GJ (ta : TA) : TI := fun σ H R => ta σ H fun vs H1 => ∃ j : Int, vs = [.int j] ∧ -(2 ^ 62) ≤ j ∧ j < 2 ^ 62 ∧ R (Itr 0 j.toNat) H1
def Gi (ta : TA) : TI := fun σ H R => ta σ H fun vs H1 => ∃ i j : Int, vs = [.int i, .int j] ∧ (-(2 ^ 62) ≤ i ∧ i < 2 ^ 62 ∧ -(2 ^ 62) ≤ j ∧ j < 2 ^ 62) ∧ R (Itr i (j - i).toNat) H1
theorem fc {a : Expr} {ta : TA} {p pos : Pos} (hg : Gl X "range") (hm : X.mg "range" = none) (ha : PA X [a] ta) (hs : starEach [a] X.env = [(false, eval a X.env)] := by rfl) : PI X tg (.Call (.Name "range" p) [a] [] pos) (GJ ta) := by
 intro pins s σ H R I h
 refine Call_ (c7 I hg hm boot_range (PyProof.Rows.callWith_type1 (thn (ha pos pins s σ H _ I h) fun us s1 ⟨vs, H1, I1, r1, q1⟩ => ?_) hs rfl))
 obtain ⟨j, e, q1, q2, q⟩ := q1
 subst e
 cases r1 with
 | cons r rr =>
  cases rr
  obtain ⟨t, rfl⟩ := r
  exact call_range_1 (uO I1 (by omega) (by omega) q1 q2 (by simpa using q))
theorem yZ {a b : Expr} {ta : TA} {p pos : Pos} (hg : Gl X "range") (hm : X.mg "range" = none) (ha : PA X [a, b] ta) (hs : starEach [a, b] X.env = [(false, eval a X.env), (false, eval b X.env)] := by rfl) (hs2 : starEach [b] X.env = [(false, eval b X.env)] := by rfl) :
  PI X tg (.Call (.Name "range" p) [a, b] [] pos) (Gi ta) := by
 intro pins s σ H R I h
 refine Call_ (c7 I hg hm boot_range (PyProof.Rows.callWith_type1 (thn (ha pos pins s σ H _ I h) fun us s1 ⟨vs, H1, I1, r1, q1⟩ => ?_) (by rw [hs, hs2]) (by rw [hs2]; rfl)))
 obtain ⟨i, j, e, ⟨q1, q2, q3, q4⟩, q⟩ := q1
 subst e
 cases r1 with
 | cons r rr =>
  cases rr with
  | cons r' rr =>
   cases rr
   obtain ⟨t, rfl⟩ := r
   obtain ⟨t', rfl⟩ := r'
   exact call_range_2 (uO I1 q1 q2 q3 q4 q)
def Hb (wi : TI) (g : TG) (tb : TS) : TS := fun D σ H => wi σ H fun J H1 => ∃ W : Nat → Nat → St → Hp → Prop, (∃ m, W 0 m σ H1) ∧ ∀ i m σ H, W i m σ H →
 (J.stop i H ∧ D.nx σ H) ∨ (J.go i H ∧ ∃ N : St → Hp → Prop, (∀ σ' H', N σ' H' → ∃ m', m' < m ∧ W (i + 1) m' σ' H') ∧ ∀ x H', J.yld i H x H' → g x σ H' fun σ2 H2 => tb { D with nx := N, ct := N, bk := D.nx } σ2 H2)
def nT (fp : List Addr) (h : Heap) : List (Addr × Obj) := fp.filterMap fun b => (h.get? b).map fun o => (b, o)
theorem dF {fp : List Addr} {h : Heap} {b : Addr} {o : Obj} (hb : b ∈ fp) (e : h.get? b = some o) : (b, o) ∈ nT fp h := List.mem_filterMap.mpr ⟨b, hb, by rw [e]; rfl⟩
theorem yN {fp : List Addr} {h : Heap} {p : Addr × Obj} (hp : p ∈ nT fp h) : p.1 ∈ fp ∧ h.get? p.1 = some p.2 := by
 obtain ⟨b, hb, e⟩ := List.mem_filterMap.mp hp
 cases q : h.get? b with
 | none => rw [q] at e; cases e
 | some o =>
  rw [q] at e
  have e' : (b, o) = p := Option.some.inj e
  subst e'
  exact ⟨hb, q⟩
theorem Inv.pinned {pins : List (Addr × Obj)} {σ : St} {H : Hp} {s : Shared} {fp : List Addr} (I : Inv X pins σ H s) (hf : ∀ b ∈ fp, iD X pins H b) (ho : ∀ b ∈ fp, ∃ o, s.heap.get? b = some o ∧ ∀ v, o.data ≠ .cell v) : Inv X (pins ++ nT fp s.heap) σ H s :=
 I.pins_of fun p hp => (List.mem_append.mp hp).elim (fun z => I.pin p (List.mem_append_right _ z)) fun z => by
  obtain ⟨hb, e⟩ := yN z
  obtain ⟨f0, f1, f2, _⟩ := hf p.1 hb
  obtain ⟨o, e', d⟩ := ho p.1 hb
  rw [e] at e'; cases e'
  exact ⟨e, f0, f1, f2, d⟩
theorem Inv.unpinned {pins pl : List (Addr × Obj)} {σ : St} {H : Hp} {s : Shared} (I : Inv X (pins ++ pl) σ H s) : Inv X pins σ H s := I.pins_of fun p hp => I.pin p (List.mem_append_right _ (List.mem_append_left _ hp))
theorem bR {iter : Expr} {body : List Stmt} {wi : TI} {g : TG} {tb : TS} {pos : Pos} (hp : PassesOwn (model X.prog X.w) X.A X.env X.xe) (hc : X.calm = true) (hi : PI X tg iter wi) (hg : PG X tg g) (hb : PSs X body tb)
  (hs : ∀ x, foldedSetIterable iter X.env x = pure x := by intro _; rfl) : PS X (.For tg iter body [] pos) (Hb wi g tb) := by
 intro pins s σ H D I h
 refine wpAny_For (thn (hi pins s σ H _ I h) fun v s1 h1 => thn h1 fun itv s2 h2 => ?_) hs
 obtain ⟨it, fp, tn, J, H2, e, I2, T, st2, f2, W, ⟨m0, w0⟩, turn⟩ := h2
 subst e
 have stat : ∀ {H' : Hp}, (∀ b ∈ fp, H' b = none) → ∀ b ∈ fp, iD X pins H' b := fun hn b hb => ⟨hn b hb, (f2 b hb).2⟩
 refine codeAny_forLoop_any (fun n s' => ∃ i σ' H', Inv X pins σ' H' s' ∧ tn i s'.heap ∧ (∀ b ∈ fp, H' b = none) ∧ W i n σ' H') ?_ m0 ⟨0, σ, H2, I2, st2, fun b hb => (f2 b hb).1, w0⟩
 rintro n s3 ⟨i, σ3, H3, I3, st3, fr3, w3⟩
 rcases turn i n σ3 H3 w3 with ⟨stop, qn⟩ | ⟨go, N, hN, step⟩
 ·refine wpAny_passesOwn hp (thn (T.done X rfl rfl rfl hc i pins s3 σ3 H3 X.xe I3 (stat fr3) st3 stop) fun r s4 ⟨hr, I4⟩ => ?_)
  subst hr
  exact wpAny_execs_nil ⟨σ3, H3, I4, qn⟩
 ·refine wpAny_passesOwn hp (thn (T.item X rfl rfl rfl hc i pins s3 σ3 H3 X.xe I3 (stat fr3) st3 go) fun r s4 ⟨u, hr, h4⟩ => ?_)
  subst hr
  refine wpAny_passesOwn hp (thn h4 fun _ s5 ⟨x, H5, I5, r5, y5, st5, fr5⟩ => ?_)
  have I5' := I5.pinned (stat fr5) (T.obj _ _ st5)
  refine wpAny_passesOwn hp (thn (hg _ s5 σ3 H5 x u _ I5' r5 (step x H5 y5)) fun _ s6 ⟨σ6, H6, I6, q6⟩ => ?_)
  refine wpAny_passesOwn hp (thn (hb _ s6 σ6 H6 _ I6 q6) fun f s7 q7 => ?_)
  have again : ∀ {σ7 : St} {H7 : Hp}, Inv X (pins ++ nT fp s5.heap) σ7 H7 s7 → N σ7 H7 → ∃ m, m < n ∧ ∃ i σ' H', Inv X pins σ' H' s7 ∧ tn i s7.heap ∧ (∀ b ∈ fp, H' b = none) ∧ W i m σ' H' := fun {σ7 H7} I7 n7 => by
   obtain ⟨m', hm, w7⟩ := hN σ7 H7 n7
   refine ⟨m', hm, i + 1, σ7, H7, I7.unpinned, T.keep _ _ _ st5 fun b hb o e => (I7.pin (b, o) (List.mem_append_right _ (List.mem_append_right _ (dF hb e)))).1, fun b hb => ?_, w7⟩
   obtain ⟨o, e, d⟩ := T.obj _ _ st5 b hb
   exact (I7.pin (b, o) (List.mem_append_right _ (List.mem_append_right _ (dF hb e)))).2.1
  cases f with
  | next => obtain ⟨σ7, H7, I7, n7⟩ := q7; exact again I7 n7
  | cont => obtain ⟨σ7, H7, I7, n7⟩ := q7; exact again I7 n7
  | brk => obtain ⟨σ7, H7, I7, q7⟩ := q7; exact ⟨σ7, H7, I7.unpinned, q7⟩
  | ret v => obtain ⟨x7, σ7, H7, I7, r7, q7⟩ := q7; exact ⟨x7, σ7, H7, I7.unpinned, r7, q7⟩
end
theorem cZ {K : PySem.W.Frag} {a : Addr} {xs : List V} {g : TG} {tb : TS} {D : Ends} {σ : St} {H : Hp} (Pv : Nat → St → Hp → Prop) (h0 : Pv 0 σ H) (hl : ∀ i σ H, i ≤ xs.length → Pv i σ H → SqL K H a xs)
  (hs : ∀ i x σ H, xs[i]? = some x → Pv i σ H → g x σ H fun σ2 H2 => tb { D with nx := Pv (i + 1), ct := Pv (i + 1), bk := D.nx } σ2 H2) (hd : ∀ σ H, Pv xs.length σ H → D.nx σ H) :
  ∃ W : Nat → Nat → St → Hp → Prop, (∃ m, W 0 m σ H) ∧ ∀ i m σ H, W i m σ H →
   ((Itl K a).stop i H ∧ D.nx σ H) ∨ ((Itl K a).go i H ∧ ∃ N : St → Hp → Prop, (∀ σ' H', N σ' H' → ∃ m', m' < m ∧ W (i + 1) m' σ' H') ∧ ∀ x H', (Itl K a).yld i H x H' → g x σ H' fun σ2 H2 => tb { D with nx := N, ct := N, bk := D.nx } σ2 H2) := by
 refine ⟨fun i m σ H => m = xs.length - i ∧ i ≤ xs.length ∧ Pv i σ H, ⟨xs.length, by simp, Nat.zero_le _, h0⟩, ?_⟩
 rintro i m σ H ⟨rfl, hi, p⟩
 have q := hl i σ H hi p
 by_cases hlt : i < xs.length
 ·refine .inr ⟨⟨xs, xs[i], q, by simp [hlt]⟩, Pv (i + 1), fun σ' H' p' => ⟨xs.length - (i + 1), by omega, rfl, hlt, p'⟩, fun x H' y => ?_⟩
  obtain ⟨e, y⟩ := y
  subst e
  exact hs i x σ _ (y xs q) p
 ·have e : i = xs.length := by omega
  subst e
  exact .inl ⟨⟨xs, q, Nat.le_refl _⟩, hd σ H p⟩
theorem jZ {lo : Int} {n : Nat} {g : TG} {tb : TS} {D : Ends} {σ : St} {H : Hp} (Pv : Nat → St → Hp → Prop) (h0 : Pv 0 σ H)
  (hs : ∀ i σ H, i < n → Pv i σ H → g (.int (lo + i)) σ H fun σ2 H2 => tb { D with nx := Pv (i + 1), ct := Pv (i + 1), bk := D.nx } σ2 H2) (hd : ∀ σ H, Pv n σ H → D.nx σ H) :
  ∃ W : Nat → Nat → St → Hp → Prop, (∃ m, W 0 m σ H) ∧ ∀ i m σ H, W i m σ H →
   ((Itr lo n).stop i H ∧ D.nx σ H) ∨ ((Itr lo n).go i H ∧ ∃ N : St → Hp → Prop, (∀ σ' H', N σ' H' → ∃ m', m' < m ∧ W (i + 1) m' σ' H') ∧ ∀ x H', (Itr lo n).yld i H x H' → g x σ H' fun σ2 H2 => tb { D with nx := N, ct := N, bk := D.nx } σ2 H2) := by
 refine ⟨fun i m σ H => m = n - i ∧ i ≤ n ∧ Pv i σ H, ⟨n, by simp, Nat.zero_le _, h0⟩, ?_⟩
 rintro i m σ H ⟨rfl, hi, p⟩
 by_cases hlt : i < n
 ·refine .inr ⟨hlt, Pv (i + 1), fun σ' H' p' => ⟨n - (i + 1), by omega, rfl, hlt, p'⟩, fun x H' y => ?_⟩
  obtain ⟨e, y⟩ := y
  subst e y
  exact hs i σ _ hlt p
 ·have e : i = n := by omega
  subst e
  exact .inl ⟨Nat.le_refl _, hd σ H p⟩
end L2
namespace L2
open PySem PySem.Spec PyProof.Rows
abbrev R2 := V → V → Hp → VK → Prop
def OpR (X : Cx) (f : Value → Value → Sem Value) (r : R2) : Prop :=
 ∀ (pins : List (Addr × Obj)) (s : Shared) (σ : St) (H : Hp) (x y : V) (v u : Value) (Q : VK), Inv X pins σ H s → RelV x v → RelV y u → r x y H Q →
  wpAny (model X.prog X.w) X.A (f v u) (EP X pins σ Q) X.xe s
def UnR (X : Cx) (f : Value → Sem Value) (r : V → Hp → VK → Prop) : Prop :=
 ∀ (pins : List (Addr × Obj)) (s : Shared) (σ : St) (H : Hp) (x : V) (v : Value) (Q : VK), Inv X pins σ H s → RelV x v → r x H Q →
  wpAny (model X.prog X.w) X.A (f v) (EP X pins σ Q) X.xe s
def iU (X : Cx) (f : Value) (r : List V → Hp → VK → Prop) : Prop :=
 ∀ (pins : List (Addr × Obj)) (s : Shared) (σ : St) (H : Hp) (xs : List V) (us : List Value) (Q : VK), Inv X pins σ H s → Vals xs us → r xs H Q →
  wpAny (model X.prog X.w) X.A (call f us) (EP X pins σ Q) X.xe s
def tOp (r : R2) (ta tb : TE) : TE := fun σ H Q => ta σ H fun x H1 => tb σ H1 fun y H2 => r x y H2 Q
def tUn (r : V → Hp → VK → Prop) (ta : TE) : TE := fun σ H Q => ta σ H fun x H1 => r x H1 Q
def rI (C : Int → Int → Prop) (g : Int → Int → V) : R2 := fun x y H Q => ∃ i j, x = .int i ∧ y = .int j ∧ C i j ∧ Q (g i j) H
def rI0 (g : Int → Int → V) : R2 := fun x y H Q => ∃ i j, x = .int i ∧ y = .int j ∧ Q (g i j) H
def rU (g : Int → V) : V → Hp → VK → Prop := fun x H Q => ∃ i, x = .int i ∧ Q (g i) H
section
variable {X : Cx} {a b c : Expr} {ta tb tc : TE} {pos : Pos}
theorem FJ (ha : PE X a ta) (hb : PE X b tb) {pins : List (Addr × Obj)} {s : Shared} {σ : St} {H : Hp} {R : V → V → Hp → Prop} (I : Inv X pins σ H s)
  (h : ta σ H fun x H1 => tb σ H1 fun y H2 => R x y H2) {Q : Value → Shared → Prop} {f : Value → Value → Sem Value}
  (hf : ∀ v u s2 x y H2, Inv X pins σ H2 s2 → RelV x v → RelV y u → R x y H2 → wpAny (model X.prog X.w) X.A (f v u) Q X.xe s2) :
  wpAny (model X.prog X.w) X.A (eval a X.env) (fun v s₁ => wpAny (model X.prog X.w) X.A (eval b X.env) (fun u s₂ => wpAny (model X.prog X.w) X.A (f v u) Q X.xe s₂) X.xe s₁) X.xe s := by
 refine thn (ha pins s σ H _ I h) fun v s1 ⟨x, H1, I1, r1, q1⟩ => ?_
 refine thn (hb pins s1 σ H1 _ I1 q1) fun u s2 ⟨y, H2, I2, r2, q2⟩ => ?_
 exact hf v u s2 x y H2 I2 r1 r2 q2
theorem aB {op : Operator} {r : R2} (ho : OpR X (binaryOp op) r) (ha : PE X a ta) (hb : PE X b tb) : PE X (.BinOp a op b pos) (tOp r ta tb) := by
 intro pins s σ H Q I h
 exact wpAny_BinOp (FJ ha hb I h fun v u s2 x y H2 I2 rx ry q => ho pins s2 σ H2 x y v u Q I2 rx ry q)
theorem qU {op : UnaryOp} {r : V → Hp → VK → Prop} (ho : UnR X (unaryOp op) r) (ha : PE X a ta) : PE X (.UnaryOp op a pos) (tUn r ta) := by
 intro pins s σ H Q I h
 exact UnaryOp_ (thn (ha pins s σ H _ I h) fun v s1 ⟨x, H1, I1, r1, q1⟩ => ho pins s1 σ H1 x v Q I1 r1 q1)
theorem opI {f : Value → Value → Sem Value} {C : Int → Int → Prop} {g : Int → Int → Int}
  (rule : ∀ (i j : Int) (t u : Tok) (s : Shared) (Q : Value → Shared → Prop) (E : Value → Shared → Prop), C i j → Q (.int (g i j) s.toks) { s with toks := s.toks + 1 } → wpAny (model X.prog X.w) X.A (f (.int i t) (.int j u)) Q E s) :
  OpR X f (rI C fun i j => .int (g i j)) := by
 intro pins s σ H x y v u Q I rx ry h
 obtain ⟨i, j, rfl, rfl, hc, q⟩ := h
 obtain ⟨t, rfl⟩ := rx
 obtain ⟨t', rfl⟩ := ry
 exact rule i j t t' s _ _ hc ⟨.int (g i j), H, I.tok _, ⟨_, rfl⟩, q⟩
theorem Fv {f : Value → Value → Sem Value} {g : Int → Int → Int}
  (rule : ∀ (i j : Int) (t u : Tok) (s : Shared) (Q : Value → Shared → Prop) (E : Value → Shared → Prop), Q (.int (g i j) s.toks) { s with toks := s.toks + 1 } → wpAny (model X.prog X.w) X.A (f (.int i t) (.int j u)) Q E s) :
  OpR X f (rI0 fun i j => .int (g i j)) := by
 intro pins s σ H x y v u Q I rx ry h
 obtain ⟨i, j, rfl, rfl, q⟩ := h
 obtain ⟨t, rfl⟩ := rx
 obtain ⟨t', rfl⟩ := ry
 exact rule i j t t' s _ _ ⟨.int (g i j), H, I.tok _, ⟨_, rfl⟩, q⟩
theorem CK {f : Value → Value → Sem Value} {g : Int → Int → Bool}
  (rule : ∀ (i j : Int) (t u : Tok) (s : Shared) (Q : Value → Shared → Prop) (E : Value → Shared → Prop), Q (.bool (g i j)) s → wpAny (model X.prog X.w) X.A (f (.int i t) (.int j u)) Q E s) :
  OpR X f (rI0 fun i j => .bl (g i j)) := by
 intro pins s σ H x y v u Q I rx ry h
 obtain ⟨i, j, rfl, rfl, q⟩ := h
 obtain ⟨t, rfl⟩ := rx
 obtain ⟨t', rfl⟩ := ry
 exact rule i j t t' s _ _ ⟨.bl (g i j), H, I, rfl, q⟩
def GX (i j : Int) : Prop := 0 < j ∧ j < 1073741824
def Ha (i j : Int) : Prop := 0 ≤ j ∧ j ≤ 1000000 ∧ i.natAbs < 2 ^ 64
def Fb (i j : Int) : Prop := (-(2 ^ 64) < i ∧ i < 2 ^ 64) ∨ (-(2 ^ 64) < j ∧ j < 2 ^ 64)
theorem Fb.ok {i j : Int} (h : Fb i j) : IntMulOk i j := by
 rcases h with ⟨h1, h2⟩ | ⟨h1, h2⟩
 ·exact .of_left (intBits_le_64 h1 h2)
 ·exact .of_right (intBits_le_64 h1 h2)
theorem wI (k : Nat) : (0 : Int) ≤ 2 ^ k := by
 rw [two_pow_cast]
 exact Int.natCast_nonneg _
theorem aZ : OpR X (binaryOp .Add) (rI0 fun i j => .int (i + j)) := Fv fun _ _ _ _ _ _ _ q => add_int q
theorem bj : OpR X (binaryOp .Sub) (rI0 fun i j => .int (i - j)) := Fv fun _ _ _ _ _ _ _ q => sub_int q
theorem b7 : OpR X (binaryOp .Mult) (rI Fb fun i j => .int (i * j)) := opI fun _ _ _ _ _ _ _ hc q => mul_int q hc.ok
theorem dG : OpR X (binaryOp .FloorDiv) (rI GX fun i j => .int (i / j)) := opI fun i j _ _ _ _ _ hc q => by
 have h1 : (0 : Int) < j := hc.1
 have h2 : j < 1073741824 := hc.2
 exact floordiv_int (by omega) (by rw [Int.fdiv_eq_ediv_of_nonneg i (by omega)]; exact q) (.inl (PyProof.noPylong_small (by omega)))
theorem cR : OpR X (binaryOp .Mod) (rI (fun _ j => 0 < j) fun i j => .int (i % j)) := opI fun i j _ _ _ _ _ hc q => by
 have h1 : (0 : Int) < j := hc
 exact mod_int' (by omega) (by rw [Int.fmod_eq_emod_of_nonneg i (by omega)]; exact q)
theorem Bm : OpR X (binaryOp .Pow) (rI Ha fun i j => .int (i ^ j.toNat)) := opI fun _ _ _ _ _ _ _ hc q => pow_int_small hc.1 hc.2.1 hc.2.2 q
theorem DP : OpR X (binaryOp .RShift) (rI (fun _ j => 0 ≤ j) fun i j => .int (i / 2 ^ j.toNat)) := opI fun i j _ _ _ _ _ hc q =>
 rshift_int hc (by rw [Int.fdiv_eq_ediv_of_nonneg i (wI _)]; exact q)
theorem Eu : OpR X (binaryOp .BitAnd) (rI0 fun i j => .int (Builtin.bitAnd i j)) := Fv fun _ _ _ _ _ _ _ q => and_int q
theorem unI {f : Value → Sem Value} {g : Int → Int}
  (rule : ∀ (i : Int) (t : Tok) (s : Shared) (Q : Value → Shared → Prop) (E : Value → Shared → Prop), Q (.int (g i) s.toks) { s with toks := s.toks + 1 } → wpAny (model X.prog X.w) X.A (f (.int i t)) Q E s) :
  UnR X f (rU fun i => .int (g i)) := by
 intro pins s σ H x v Q I rx h
 obtain ⟨i, rfl, q⟩ := h
 obtain ⟨t, rfl⟩ := rx
 exact rule i t s _ _ ⟨.int (g i), H, I.tok _, ⟨_, rfl⟩, q⟩
theorem kE : UnR X (unaryOp .USub) (rU fun i => .int (-i)) := unI fun _ _ _ _ _ q => neg_int q
end
def Gq : V → V → Bool
 | .non, .non => true | .non, .int _ => true | .int _, .non => true | .non, .bl _ => true | .bl _, .non => true | .non, .str _ => true | .str _, .non => true
 | .int _, .int _ => true | .bl _, .bl _ => true | .str _, .str _ => true | .byt _, .byt _ => true
 | .int _, .str _ => true | .str _, .int _ => true | .bl _, .str _ => true | .str _, .bl _ => true
 | _, _ => false
def rEq : R2 := fun x y H Q => Gq x y = true ∧ Q (.bl (decide (x = y))) H
def rNe : R2 := fun x y H Q => Gq x y = true ∧ Q (.bl (!decide (x = y))) H
theorem yl {i j : Int} : decide (V.int i = V.int j) = (i == j) := by
 rw [Bool.eq_iff_iff]
 simp
theorem zX {i j : Bool} : decide (V.bl i = V.bl j) = (i == j) := by
 rw [Bool.eq_iff_iff]
 simp
theorem yC {i j : Str} : decide (V.str i = V.str j) = (i == j) := by
 rw [Bool.eq_iff_iff]
 simp
theorem yt {i j : Array UInt8} : decide (V.byt i = V.byt j) = (i.toList == j.toList) := by
 rw [Bool.eq_iff_iff]
 cases i
 cases j
 simp
section
variable {X : Cx} {a b c : Expr} {ta tb tc : TE} {pos : Pos}
theorem bw {pins : List (Addr × Obj)} {σ : St} {H : Hp} {s : Shared} {Q : VK} {k k' : Bool} (I : Inv X pins σ H s) (q : Q (.bl k) H) (e : k = k') : EP X pins σ Q (.bool k') s := by
 subst e
 exact ⟨.bl k, H, I, rfl, q⟩
theorem fO : OpR X (compareOp .Eq) rEq := by
 intro pins s σ H x y v u Q I rx ry h
 obtain ⟨hs, q⟩ := h
 cases x with
 | non =>
  cases rx
  cases y with
  | non => cases ry; exact PySem.EqNone.eq_none_none (bw I q (by simp))
  | bl j => cases ry; exact PySem.EqNone.eq_none_bool (bw I q (by simp))
  | int j => obtain ⟨t', rfl⟩ := ry; exact PySem.EqNone.eq_none_int (bw I q (by simp))
  | str j => obtain ⟨t', rfl⟩ := ry; exact PySem.EqNone.eq_none_str (bw I q (by simp))
  | _ => exact absurd (show false = true from hs) Bool.false_ne_true
 | bl i =>
  cases rx
  cases y with
  | non => cases ry; exact PySem.EqNone.eq_bool_none (bw I q (by simp))
  | bl j => cases ry; exact eq_bool (bw I q zX)
  | str j => obtain ⟨t', rfl⟩ := ry; exact PySem.EqMixed.eq_bool_str (bw I q (by simp))
  | _ => exact absurd (show false = true from hs) Bool.false_ne_true
 | int i =>
  obtain ⟨t, rfl⟩ := rx
  cases y with
  | non => cases ry; exact PySem.EqNone.eq_int_none (bw I q (by simp))
  | int j => obtain ⟨t', rfl⟩ := ry; exact eq_int (bw I q yl)
  | str j => obtain ⟨t', rfl⟩ := ry; exact PySem.EqMixed.eq_int_str (bw I q (by simp))
  | _ => exact absurd (show false = true from hs) Bool.false_ne_true
 | str i =>
  obtain ⟨t, rfl⟩ := rx
  cases y with
  | non => cases ry; exact PySem.EqNone.eq_str_none (bw I q (by simp))
  | bl j => cases ry; exact PySem.EqMixed.eq_str_bool (bw I q (by simp))
  | int j => obtain ⟨t', rfl⟩ := ry; exact PySem.EqMixed.eq_str_int (bw I q (by simp))
  | str j => obtain ⟨t', rfl⟩ := ry; exact eq_str (bw I q yC)
  | _ => exact absurd (show false = true from hs) Bool.false_ne_true
 | byt i =>
  obtain ⟨t, rfl⟩ := rx
  cases y with
  | byt j => obtain ⟨t', rfl⟩ := ry; exact PySem.W.eq_bytes (bw I q yt)
  | _ => exact absurd (show false = true from hs) Bool.false_ne_true
 | _ => cases y <;> exact absurd (show false = true from hs) Bool.false_ne_true
theorem yx : OpR X (compareOp .NotEq) rNe := by
 intro pins s σ H x y v u Q I rx ry h
 obtain ⟨hs, q⟩ := h
 cases x with
 | non =>
  cases rx
  cases y with
  | non => cases ry; exact PySem.EqNone.ne_none_none (bw I q (by simp))
  | bl j => cases ry; exact PySem.EqNone.ne_none_bool (bw I q (by simp))
  | int j => obtain ⟨t', rfl⟩ := ry; exact PySem.EqNone.ne_none_int (bw I q (by simp))
  | str j => obtain ⟨t', rfl⟩ := ry; exact PySem.EqNone.ne_none_str (bw I q (by simp))
  | _ => exact absurd (show false = true from hs) Bool.false_ne_true
 | bl i =>
  cases rx
  cases y with
  | non => cases ry; exact PySem.EqNone.ne_bool_none (bw I q (by simp))
  | bl j => cases ry; exact ne_bool (bw I q (congrArg not zX))
  | str j => obtain ⟨t', rfl⟩ := ry; exact PySem.EqMixed.ne_bool_str (bw I q (by simp))
  | _ => exact absurd (show false = true from hs) Bool.false_ne_true
 | int i =>
  obtain ⟨t, rfl⟩ := rx
  cases y with
  | non => cases ry; exact PySem.EqNone.ne_int_none (bw I q (by simp))
  | int j => obtain ⟨t', rfl⟩ := ry; exact ne_int (bw I q (congrArg not yl))
  | str j => obtain ⟨t', rfl⟩ := ry; exact PySem.EqMixed.ne_int_str (bw I q (by simp))
  | _ => exact absurd (show false = true from hs) Bool.false_ne_true
 | str i =>
  obtain ⟨t, rfl⟩ := rx
  cases y with
  | non => cases ry; exact PySem.EqNone.ne_str_none (bw I q (by simp))
  | bl j => cases ry; exact PySem.EqMixed.ne_str_bool (bw I q (by simp))
  | int j => obtain ⟨t', rfl⟩ := ry; exact PySem.EqMixed.ne_str_int (bw I q (by simp))
  | str j => obtain ⟨t', rfl⟩ := ry; exact ne_str (bw I q (congrArg not yC))
  | _ => exact absurd (show false = true from hs) Bool.false_ne_true
 | byt i =>
  obtain ⟨t, rfl⟩ := rx
  cases y with
  | byt j => obtain ⟨t', rfl⟩ := ry; exact PySem.W.ne_bytes (bw I q (congrArg not yt))
  | _ => exact absurd (show false = true from hs) Bool.false_ne_true
 | _ => cases y <;> exact absurd (show false = true from hs) Bool.false_ne_true
theorem j9 : OpR X (compareOp .Lt) (rI0 fun i j => .bl (decide (i < j))) := CK fun _ _ _ _ _ _ _ q => lt_int q
theorem gZ : OpR X (compareOp .LtE) (rI0 fun i j => .bl (decide (i ≤ j))) := CK fun _ _ _ _ _ _ _ q => le_int q
theorem ie : OpR X (compareOp .Gt) (rI0 fun i j => .bl (decide (j < i))) := CK fun _ _ _ _ _ _ _ q => gt_int q
theorem vR : OpR X (compareOp .GtE) (rI0 fun i j => .bl (decide (j ≤ i))) := CK fun _ _ _ _ _ _ _ q => ge_int q
theorem aO (b : Expr) {op : CmpOp} (h : op ≠ .In := by decide) (h2 : op ≠ .NotIn := by decide) : behindInMarks op b = false := by
 have e1 : (op == CmpOp.In) = false := by cases op <;> first | rfl | exact absurd rfl h
 have e2 : (op == CmpOp.NotIn) = false := by cases op <;> first | rfl | exact absurd rfl h2
 cases b <;> simp [behindInMarks, e1, e2]
theorem pO {op : CmpOp} {r : R2} (ho : OpR X (compareOp op) r) (ha : PE X a ta) (hb : PE X b tb) (hm : behindInMarks op b = false) : PE X (.Compare a [op] [b] pos) (tOp r ta tb) := by
 intro pins s σ H Q I h
 exact wpAny_Compare1 (FJ ha hb I h fun v u s2 x y H2 I2 rx ry q => ho pins s2 σ H2 x y v u Q I2 rx ry q) hm
def Bk (t : TE) : TT := fun σ H Q => t σ H fun x H' => ∃ k, x = .bl k ∧ Q k H'
theorem aM {op : CmpOp} {r : R2} (ho : OpR X (compareOp op) r) (ha : PE X a ta) (hb : PE X b tb) (hm : behindInMarks op b = false) : PT X (.Compare a [op] [b] pos) (Bk (tOp r ta tb)) := by
 intro pins s σ H Q I h
 refine wpAny_isTrue_Compare1 (thn (ha pins s σ H _ I h) fun v s1 ⟨x, H1, I1, r1, q1⟩ => thn (hb pins s1 σ H1 _ I1 q1) fun u s2 ⟨y, H2, I2, r2, q2⟩ =>
  thn (ho pins s2 σ H2 x y v u _ I2 r1 r2 q2) fun c s3 ⟨z, H3, I3, r3, k, e, q3⟩ => ?_) hm
 subst e
 cases r3
 exact wpAny_truthy_bool ⟨H3, I3, q3⟩
def EY (r r' : R2) (ta tb tc : TE) : TE := fun σ H Q => ta σ H fun x H1 => tb σ H1 fun y H2 => r x y H2 fun z H3 => ∃ k, z = .bl k ∧
 (if k = true then tc σ H3 fun w' H4 => r' y w' H4 Q else Q (.bl false) H3)
theorem uY {op op' : CmpOp} {r r' : R2} (ho : OpR X (compareOp op) r) (ho' : OpR X (compareOp op') r') (ha : PE X a ta) (hb : PE X b tb) (hc : PE X c tc)
  (hm : lastMarks [op, op'] [b, c] = false := by with_unfolding_all rfl) : PT X (.Compare a [op, op'] [b, c] pos) (Bk (EY r r' ta tb tc)) := by
 intro pins s σ H Q I h
 refine isTrue_chain (thn (ha pins s σ H _ I h) fun v s1 ⟨x, H1, I1, r1, q1⟩ => test_link (thn (hb pins s1 σ H1 _ I1 q1) fun u s2 ⟨y, H2, I2, r2, q2⟩ =>
  thn (ho pins s2 σ H2 x y v u _ I2 r1 r2 q2) fun d s3 ⟨z, H3, I3, r3, k, e, q3⟩ => ?_)) hm
 subst e
 cases r3
 refine wpAny_truthy_bool ?_
 cases k with
 | false =>
  obtain ⟨k', e', q'⟩ := q3
  cases e'
  exact ite_ff ⟨H3, I3, q'⟩
 | true =>
  refine ite_tt (test_last (thn (hc pins s3 σ H3 _ I3 q3) fun w' s4 ⟨z', H4, I4, r4, q4⟩ => thn (ho' pins s4 σ H4 y z' u w' _ I4 r2 r4 q4) fun d' s5 ⟨z2, H5, I5, r5, k2, e2, q5⟩ => ?_))
  subst e2
  cases r5
  exact wpAny_truthy_bool ⟨H5, I5, q5⟩
theorem pU : (sizeLine : Nat) < 2 ^ 63 := by rw [sizeLine_eq]; decide
theorem vals1 {x : V} {us : List Value} (r : Vals [x] us) : ∃ u, us = [u] ∧ RelV x u := by
 cases r with
 | cons r1 r2 => cases r2; exact ⟨_, rfl, r1⟩
theorem vals2 {x y : V} {us : List Value} (r : Vals [x, y] us) : ∃ u w', us = [u, w'] ∧ RelV x u ∧ RelV y w' := by
 cases r with
 | cons r1 r2 =>
  cases r2 with
  | cons r3 r4 => cases r4; exact ⟨_, _, rfl, r1, r3⟩
theorem yJ (hc : X.calm = true) : iU X (.builtin "max") (fun xs H Q => ∃ i j, xs = [.int i, .int j] ∧ Q (.int (if j > i then j else i)) H) := by
 intro pins s σ H xs us Q I r h
 obtain ⟨i, j, rfl, q⟩ := h
 obtain ⟨u, w', rfl, ⟨t, rfl⟩, ⟨t', rfl⟩⟩ := vals2 r
 refine max_two_ints (I.ok.hd hc) fun h' tk k => ⟨_, H, I.kept k, ?_, q⟩
 by_cases hj : j > i
 ·rw [if_pos hj, if_pos hj]; exact ⟨_, rfl⟩
 ·rw [if_neg hj, if_neg hj]; exact ⟨_, rfl⟩
theorem sr (hc : X.calm = true) : iU X (.builtin "min") (fun xs H Q => ∃ i j, xs = [.int i, .int j] ∧ Q (.int (if j < i then j else i)) H) := by
 intro pins s σ H xs us Q I r h
 obtain ⟨i, j, rfl, q⟩ := h
 obtain ⟨u, w', rfl, ⟨t, rfl⟩, ⟨t', rfl⟩⟩ := vals2 r
 refine min_two_ints (I.ok.hd hc) fun h' tk k => ⟨_, H, I.kept k, ?_, q⟩
 by_cases hj : j < i
 ·rw [if_pos hj, if_pos hj]; exact ⟨_, rfl⟩
 ·rw [if_neg hj, if_neg hj]; exact ⟨_, rfl⟩
end
end L2
namespace L2
open PySem PySem.Spec PyProof.Rows
structure ww (h : Heap) (x dx C : Addr) (mA : Str → Option Value) : Prop where
 obj : h.get? x = some (PySem.W.instObj C dx)
 ns : h.Ns1 dx mA
 ne : dx ≠ x
theorem yQ {h : Heap} {dx : Addr} {mA : Str → Option Value} (n : h.Ns1 dx mA) : ∃ od, h.get? dx = some od ∧ ∀ name, PySem.W.lookIn name od = some (mA name) := by
 obtain ⟨o, es, ep, ho, hd, hk, _, hm⟩ := n
 refine ⟨o, ho, fun name => ?_⟩
 have e := hm name
 unfold nsFind findBy at e
 rw [← Array.find?_toList] at e
 unfold PySem.W.lookIn
 rw [hd]
 dsimp only
 split
 ·rename_i y q
  rw [q] at e
  exact congrArg some e
 ·rename_i q
  rw [q] at e
  have a : es.toList.any (·.refKey) = false := by
   rw [List.any_eq_false]
   intro y hy
   obtain ⟨z, t, hkey⟩ := hk y (Array.mem_toList_iff.mp hy)
   simp [DictEntry.refKey, hkey]
  have a' : ¬ es.toList.any (·.refKey) = true := by rw [a]; exact Bool.false_ne_true
  rw [if_neg a']
  exact congrArg some e
theorem ww.look {h : Heap} {x dx C : Addr} {mA : Str → Option Value} (I : ww h x dx C mA) : ∃ od, PySem.W.InstAt h x (PySem.W.instObj C dx) C (some od) ∧ ∀ name, PySem.W.lookIn name od = some (mA name) :=
 let ⟨od, ho, hl⟩ := yQ I.ns
 ⟨od, ⟨I.obj, rfl, rfl, ho⟩, hl⟩
section
variable {prog : Program} {w : World} {A : Around} {E : Value → Shared → Prop} {s : Shared} {K : PySem.W.Frag} {x dx C f : Addr} {mA : Str → Option Value} {name : Str} {v : Value}
theorem CT {expr : Bool} {Q : Value → Shared → Prop} (X : K.In s.heap) (I : ww s.heap x dx C mA) (hg : PySem.W.plainGet K C name = true) (hh : PySem.W.hasDictIn K C = true)
  (ha : PySem.W.findIn K (.ref C) name = some none) (hv : mA name = some v) (hv' : PySem.W.handedIn v = true) (h : Q v { s with toks := s.toks + 1 }) :
  wpAny (model prog w) A (getAttr (.ref x) name expr) Q E s := by
 obtain ⟨od, J, hl⟩ := I.look
 exact PySem.W.get_value X J (PySem.W.plainGet_of hg).1 (PySem.W.findObj_own hh ha rfl (by rw [hl, hv])) hv' h
theorem Bv {pl : Sem Bool} {Q : Value × List Value → Shared → Prop} (X : K.In s.heap) (I : ww s.heap x dx C mA) (hg : PySem.W.plainGet K C name = true)
  (hf : PySem.W.findIn K (.ref C) name = some (some (.ref f))) (ht : PySem.W.isFn K (.ref f) = true) (hv : mA name = none) (h : Q (.ref f, [.ref x]) s) :
  wpAny (model prog w) A (getMethod (.ref x) name pl) Q E s := by
 obtain ⟨od, J, hl⟩ := I.look
 exact PySem.W.method_fn X J (PySem.W.plainGet_of hg).1 (PySem.W.plainGet_of hg).2 hf (beq_iff_eq.mp ht) (by show (PySem.W.lookIn name od).map (·.isSome) = some false; rw [hl, hv]; rfl) h
theorem Cu {ns : List Str} {Q : Unit → Shared → Prop} (X : K.In s.heap) (I : ww s.heap x dx C mA)
  (hs : PySem.W.findIn K (.ref C) "__setattr__" = some (some (.builtin "object.__setattr__"))) (hp : PySem.W.plainOver K C = true) (ht : PySem.W.takerIn K C name = some none) (hh : PySem.W.hasDictIn K C = true)
  (hw : PySem.Within mA ns) (hsz : ns.length ≤ sizeLine)
  (h : ∀ h', ww h' x dx C (fun y => if y = name then some v else mA y) → Heap.SameBut dx s.heap h' → Q () { s with heap := h', toks := s.toks + 2 }) :
  wpAny (model prog w) A (setAttr (.ref x) name v) Q E s := by
 obtain ⟨od, J, hl⟩ := I.look
 refine PySem.W.set_plain X J hs (PySem.W.osa_open (s := { s with toks := s.toks + 1 }) (r := none) X J hp ht fun b => ?_)
 obtain ⟨cd, hc, hd'⟩ := PySem.W.any_some hh
 have hx : s.heap.get? x = some ⟨.ref C, some dx, .plain, #[]⟩ := I.obj
 refine wpAny_bind (wpAny_pure (wpAny_bind (wpAny_bind (wpAny_loadPart hx (wpAny_bind (PySem.W.Looks.here (s := { s with toks := s.toks + 1 }) (PySem.W.looks_clsIn X hc) ?_))))))
 rw [hd']
 refine wpAny_pure (a := some dx) (wpAny_bind (wpAny_pure (wpAny_bind ?_)))
 refine wpAny_nsSet1 (s := { s with toks := s.toks + 1 }) I.ns fun h' hn2 hs2 => ?_
 obtain ⟨oD, esD, epD, hoD, hdD, hcD⟩ := hn2.count (PySem.Within.cons name v hw)
 refine wpAny_bind (wpAny_lookBehind hoD (by rw [hdD]; exact pastItsLine_dict (Nat.le_trans hcD (by rw [List.length_cons]; omega))) ?_)
 exact wpAny_pure (h _ ⟨(hs2.2 _ (Ne.symm I.ne)).trans I.obj, hn2, I.ne⟩ hs2)
theorem z8 {R : Result → Shared → Prop} {vs : List Value} {kw : List (Str × Value)} (X : K.In s.heap) (hm : PySem.W.makesIn K C = true)
  (hi : PySem.W.findIn K (.ref C) "__init__" = some (some (.ref f))) (hf : PySem.W.typeIn K (.ref f) = some (.type "function"))
  (h : codeAny (model prog w) (A.under (.builtin "type.__call__" ⟨.ref C :: vs, kw⟩)) (.call (.ref f) ⟨.ref (s.heap.objs.size + 1) :: vs, kw⟩) (PySem.W.InitBack (s.heap.objs.size + 1) R)
   { s with heap := (s.heap.push PySem.W.emptyDict).push (PySem.W.instObj C s.heap.objs.size) }) :
  codeAny (model prog w) A (.call (.ref C) ⟨vs, kw⟩) R s := by
 obtain ⟨hh, g, d, t, os⟩ := s
 exact PySem.W.make_core (PySem.W.makes_of X hm) (PySem.W.looks_findIn X hi) (fun self => PySem.W.bind_fn X self hf) (.inl rfl) h
end
def j4 (f : Str) (v : V) : List (Str × V) → List (Str × V)
 | [] => [(f, v)]
 | (g, x) :: r => if g = f then (g, v) :: r else (g, x) :: j4 f v r
theorem o4 (f g : Str) (v : V) : ∀ fs : List (Str × V), (j4 f v fs).lookup g = if g = f then some v else fs.lookup g
 | [] => by
  show List.lookup g [(f, v)] = _
  by_cases h : g = f
  ·have hb : (g == f) = true := beq_iff_eq.mpr h
   simp only [List.lookup, hb, if_pos h]
  ·have hb : (g == f) = false := beq_eq_false_iff_ne.mpr h
   simp only [List.lookup, hb, if_neg h]
 | (k, x) :: r => by
  have ih := o4 f g v r
  rw [show j4 f v ((k, x) :: r) = (if k = f then (k, v) :: r else (k, x) :: j4 f v r) from rfl]
  by_cases hk : k = f
  ·rw [if_pos hk]
   by_cases h : g = k
   ·have hb : (g == k) = true := beq_iff_eq.mpr h
    simp only [List.lookup, hb, if_pos (h.trans hk)]
   ·have hb : (g == k) = false := beq_eq_false_iff_ne.mpr h
    simp only [List.lookup, hb, if_neg (fun e : g = f => h (e.trans hk.symm))]
  ·rw [if_neg hk]
   by_cases h : g = k
   ·have hb : (g == k) = true := beq_iff_eq.mpr h
    simp only [List.lookup, hb, if_neg (fun e : g = f => hk (h.symm.trans e))]
   ·have hb : (g == k) = false := beq_eq_false_iff_ne.mpr h
    simp only [List.lookup, hb]
    exact ih
theorem m8 (f : Str) (v : V) : ∀ fs : List (Str × V), f ∈ (j4 f v fs).map (·.1) ∧ ∀ g, g ∈ fs.map (·.1) → g ∈ (j4 f v fs).map (·.1)
 | [] => ⟨by simp [j4], fun g h => by simp at h⟩
 | (k, x) :: r => by
  obtain ⟨i1, i2⟩ := m8 f v r
  rw [show j4 f v ((k, x) :: r) = (if k = f then (k, v) :: r else (k, x) :: j4 f v r) from rfl]
  by_cases hk : k = f
  ·rw [if_pos hk]
   subst hk
   exact ⟨by simp, fun g h => by simpa using h⟩
  ·rw [if_neg hk]
   refine ⟨?_, fun g h => ?_⟩
   ·rw [List.map_cons]
    exact List.mem_cons_of_mem _ i1
   ·rw [List.map_cons] at h ⊢
    rcases List.mem_cons.mp h with e | e
    ·exact List.mem_cons.mpr (.inl e)
    ·exact List.mem_cons_of_mem _ (i2 g e)
theorem oV (f : Str) (v : V) : ∀ fs : List (Str × V), (j4 f v fs).length ≤ fs.length + 1
 | [] => by simp [j4]
 | (k, x) :: r => by
  have ih := oV f v r
  rw [show j4 f v ((k, x) :: r) = (if k = f then (k, v) :: r else (k, x) :: j4 f v r) from rfl]
  by_cases hk : k = f
  ·rw [if_pos hk, List.length_cons, List.length_cons]; omega
  ·rw [if_neg hk, List.length_cons, List.length_cons]; omega
theorem rF.some_of {v : V} {o : Option Value} (r : rF (some v) o) : ∃ u, o = some u ∧ RelV v u := by
 cases o with
 | none => exact (show False from r).elim
 | some u => exact ⟨u, rfl, r⟩
theorem rF.none_of {o : Option Value} (r : rF none o) : o = none := by
 cases o with
 | none => rfl
 | some u => exact (show False from r).elim
theorem yH {v : V} {u : Value} (r : RelV v u) : PySem.W.handedIn u = true := by
 cases v with
 | non => cases (show u = Value.none from r); rfl
 | bl b => cases (show u = Value.bool b from r); rfl
 | int i => obtain ⟨t, e⟩ := (show ∃ t, u = Value.int i t from r); cases e; rfl
 | str x => obtain ⟨t, e⟩ := (show ∃ t, u = Value.str x t from r); cases e; rfl
 | byt b => obtain ⟨t, e⟩ := (show ∃ t, u = Value.bytes b t from r); cases e; rfl
 | flt b => obtain ⟨t, e⟩ := (show ∃ t, u = Value.float b t from r); cases e; rfl
 | ref a => cases (show u = Value.ref a from r); rfl
 | ty n => cases (show u = Value.type n from r); rfl
section
variable {P : Program} {w : World} {H H' : Hp} {h h' : Heap} {a C dx : Addr} {fs fs' : List (Str × V)}
theorem pM (hok : HOk P w H h) (e : H a = some (.ins C dx fs)) : ∃ mA, ww h a dx C mA ∧ (∀ f, rF (fs.lookup f) (mA f)) ∧ PySem.Within mA (fs.map (·.1)) ∧ fs.length ≤ 1000 ∧ H dx = some (.own a) := by
 obtain ⟨d, z, ne, ob, mA, n, r, q⟩ := (show bU P w H h a (.ins C dx fs) from hok a _ e)
 exact ⟨mA, ⟨ob, n, ne⟩, r, q, z, d⟩
end
structure Cls (K : PySem.W.Frag) (C : Addr) : Prop where
 pg : PySem.W.plainGet K C Str.empty = true
 hd : PySem.W.hasDictIn K C = true
 po : PySem.W.plainOver K C = true
 sa : PySem.W.findIn K (.ref C) "__setattr__" = some (some (.builtin "object.__setattr__"))
theorem Cls.get {K : PySem.W.Frag} {C : Addr} (c : Cls K C) (f : Str) : PySem.W.plainGet K C f = true := c.pg
def cX (K : PySem.W.Frag) (C : Addr) (f : Str) : Prop := PySem.W.findIn K (.ref C) f = some none
theorem cX.taker {K : PySem.W.Frag} {C : Addr} {f : Str} (n : cX K C f) : PySem.W.takerIn K C f = some none := by
 unfold PySem.W.takerIn
 rw [show PySem.W.findIn K (.ref C) f = some none from n]
 rfl
structure Meth (K : PySem.W.Frag) (C : Addr) (m : Str) (f : Addr) : Prop where
 at_ : PySem.W.findIn K (.ref C) m = some (some (.ref f))
 fn : PySem.W.isFn K (.ref f) = true
 kp : PySem.W.keepIn K (.ref f) = true
section
variable {X : Cx} {pins : List (Addr × Obj)} {σ : St} {H : Hp} {s : Shared} {a C dx : Addr} {fs : List (Str × V)} {f : Str} {v : V} {A : Around} {E : Value → Shared → Prop}
theorem wJ {b : Bool} {Q : Value → Shared → Prop} (I : Inv X pins σ H s) (e : H a = some (.ins C dx fs)) (c : Cls X.K C) (n : cX X.K C f) (l : fs.lookup f = some v)
  (h : ∀ u s', Inv X pins σ H s' → RelV v u → Q u s') : wpAny (model X.prog X.w) A (getAttr (.ref a) f b) Q E s := by
 obtain ⟨mA, O, r, _, _, _⟩ := pM I.hok e
 obtain ⟨u, hu, ru⟩ := rF.some_of (v := v) (o := mA f) (by rw [← l]; exact r f)
 exact CT I.kIn O (c.get f) c.hd n hu (yH ru) (h u _ (I.tok _) ru)
theorem qH {m : Str} {g : Addr} {pl : Sem Bool} {Q : Value × List Value → Shared → Prop} (I : Inv X pins σ H s) (e : H a = some (.ins C dx fs)) (c : Cls X.K C) (k : Meth X.K C m g) (l : fs.lookup m = none)
  (h : Q (.ref g, [.ref a]) s) : wpAny (model X.prog X.w) A (getMethod (.ref a) m pl) Q E s := by
 obtain ⟨mA, O, r, _, _, _⟩ := pM I.hok e
 have hn : mA m = none := rF.none_of (by rw [← l]; exact r m)
 exact Bv I.kIn O (c.get m) k.at_ k.fn hn h
theorem wR {y : V} {u : Value} {Q : Unit → Shared → Prop} (I : Inv X pins σ H s) (e : H a = some (.ins C dx fs)) (c : Cls X.K C) (n : cX X.K C f) (hl : fs.length < 1000) (ry : RelV y u)
  (h : ∀ s', Inv X pins σ (upd H a (.ins C dx (j4 f y fs))) s' → Q () s') : wpAny (model X.prog X.w) A (setAttr (.ref a) f u) Q E s := by
 obtain ⟨mA, O, r, wi, _, ho⟩ := pM I.hok e
 have hz : (fs.map (·.1)).length ≤ sizeLine := by rw [List.length_map, sizeLine_eq]; omega
 refine Cu I.kIn O c.sa c.po n.taker c.hd wi hz fun h' O' sb => h _ ?_
 have hd : ∃ o, h'.get? dx = some o := let ⟨o, _, _, e', _⟩ := O'.ns; ⟨o, e'⟩
 refine I.write (x := a) (e := dx) (by rw [e]; exact True.intro) (.inr ho) (fun b q hb z => (sb.2 b hb).trans z) hd ?_
 refine ⟨by rw [aC O.ne]; exact ho, ?_, O.ne, O'.obj, _, O'.ns, fun g => ?_, fun g hg => ?_⟩
 ·have := oV f y fs; omega
 ·show rF ((j4 f y fs).lookup g) (if g = f then some u else mA g)
  rw [o4]
  by_cases q : g = f
  ·rw [if_pos q, if_pos q]; exact ry
  ·rw [if_neg q, if_neg q]; exact r g
 ·by_cases q : g = f
  ·rw [q]; exact (m8 f y fs).1
  ·refine (m8 f y fs).2 g (wi g fun z => hg ?_)
   show (if g = f then some u else mA g) = none
   rw [if_neg q]; exact z
theorem Inv.made (I : Inv X pins σ H s) : Inv X pins σ (upd (upd H s.heap.objs.size (.own (s.heap.objs.size + 1))) (s.heap.objs.size + 1) (.ins C s.heap.objs.size []))
  { s with heap := (s.heap.push PySem.W.emptyDict).push (PySem.W.instObj C s.heap.objs.size) } := by
 have e1 : (s.heap.push PySem.W.emptyDict).get? s.heap.objs.size = some PySem.W.emptyDict := Heap.get?_push_size s.heap rfl
 have e2 : ((s.heap.push PySem.W.emptyDict).push (PySem.W.instObj C s.heap.objs.size)).get? (s.heap.objs.size + 1) = some (PySem.W.instObj C s.heap.objs.size) := by
  have := Heap.get?_push_size (s.heap.push PySem.W.emptyDict) (o := PySem.W.instObj C s.heap.objs.size) rfl
  rwa [Heap.size_push] at this
 have e3 : (s.heap.push PySem.W.emptyDict).Ns s.heap.objs.size (fun _ => none) := ⟨PySem.W.emptyDict, #[], _, e1, rfl, (fun e he => absurd he (by simp)), fun _ => rfl⟩
 have I1 := I.laid (a := s.heap.objs.size) (o := .own (s.heap.objs.size + 1)) (h' := s.heap.push PySem.W.emptyDict) (t' := s.toks) (fun b u q => Heap.get?_push_of_some _ q) (Nat.le_refl _) ⟨_, e1⟩
 refine I1.laid (a := s.heap.objs.size + 1) (o := .ins C s.heap.objs.size []) (t' := s.toks) (fun b u q => Heap.get?_push_of_some _ q) (Nat.le_of_eq (Heap.size_push _ _)) ?_
 have ne : s.heap.objs.size ≠ s.heap.objs.size + 1 := Nat.ne_of_lt (Nat.lt_succ_self _)
 refine ⟨by rw [aC ne, ao], Nat.zero_le _, ne, e2, fun _ => none, (Heap.Ns1.of_empty e3).at fun o q => Heap.get?_push_of_some _ q, fun _ => True.intro, fun y hy => absurd rfl hy⟩
theorem CV {prog : Program} {w : World} {env : Env} {e : Expr} {f : Str} {pos : Pos} {s : Shared} {Q : Value → Shared → Prop} (hb : attributeBase e f env (eval e env) = eval e env)
  (h : wpAny (model prog w) A (eval e env) (fun o s₁ => wpAny (model prog w) A (getAttr o f true) Q E s₁) E s) : wpAny (model prog w) A (eval (.Attribute e f pos) env) Q E s :=
 Attribute_any_ h (by rw [arm_eval_Attribute, hb])
end
def GR (K : PySem.W.Frag) (ta : TE) (f : Str) : TE := fun σ H Q => ta σ H fun x H1 => ∃ a C dx fs v, x = .ref a ∧ H1 a = some (.ins C dx fs) ∧ Cls K C ∧ cX K C f ∧ fs.lookup f = some v ∧ Q v H1
def Hc (K : PySem.W.Frag) (ta tv : TE) (f : Str) : TS := fun D σ H => tv σ H fun y H1 => ta σ H1 fun x H2 => ∃ a C dx fs, x = .ref a ∧ H2 a = some (.ins C dx fs) ∧ Cls K C ∧ cX K C f ∧ fs.length < 1000 ∧
 D.nx σ (upd H2 a (.ins C dx (j4 f y fs)))
section
variable {X : Cx} {o e value : Expr} {f : Str} {pos pos' tpos : Pos} {ta tv : TE}
theorem eO (he : PE X e ta) (hb : attributeBase e f X.env (eval e X.env) = eval e X.env) : PE X (.Attribute e f pos) (GR X.K ta f) := by
 intro pins s σ H Q I h
 refine CV hb (thn (he pins s σ H _ I h) fun u s1 ⟨x, H1, I1, rx, a, C, dx, fs, v, ex, ea, c, n, l, q⟩ => ?_)
 subst ex
 obtain rfl : u = Value.ref a := rx
 exact wJ I1 ea c n l fun u' s2 I2 ru => ⟨v, H1, I2, ru, q⟩
theorem Bj (ha : PE X o ta) (hv : PE X value tv) (hs : swapsWith value (some (.Attribute o f pos')) pos.line X.env = pure false) : PS X (.Assign [.Attribute o f pos'] value pos) (Hc X.K ta tv f) := by
 intro pins s σ H D I h
 refine plainObj_wpAny_Assign_Attribute (thn (hv pins s σ H _ I h) fun u s1 ⟨y, H1, I1, ry, q⟩ => thn (ha pins s1 σ H1 _ I1 q) fun ov s2 ⟨x, H2, I2, rx, a, C, dx, fs, ex, ea, c, n, l, q2⟩ => ?_) hs
 subst ex
 obtain rfl : ov = Value.ref a := rx
 exact wR I2 ea c n l ry fun s3 I3 => ⟨σ, _, I3, q2⟩
theorem Dv {pl : Sem Bool} {m : Str} {apos : Pos} {args : List Expr} {pins : List (Addr × Obj)} {s : Shared} {σ : St} {H : Hp} {Q : Value → Shared → Prop} {te : TE} (he : PE X e te) (I : Inv X pins σ H s)
  (h : te σ H fun x H1 => ∃ a C dx fs g, x = .ref a ∧ H1 a = some (.ins C dx fs) ∧ Cls X.K C ∧ Meth X.K C m g ∧ fs.lookup m = none ∧
   ∀ s1, Inv X pins σ H1 s1 → wpAny (model X.prog X.w) X.A (callWith pos (.ref g) [.ref a] (backTo pos (starEach args X.env)) (backToKw pos (keywordEach [] X.env))) Q X.xe s1)
  (ht : eval (.Call (.Attribute e m apos) args [] pos) X.env = (do
   let ov ← eval e X.env
   standAt apos.atName
   let (f, first) ← holding [ov] (getMethod ov m pl)
   callWith pos f first (backTo pos (starEach args X.env)) (backToKw pos (keywordEach [] X.env)))) :
  wpAny (model X.prog X.w) X.A (eval (.Call (.Attribute e m apos) args [] pos) X.env) Q X.xe s := by
 refine PySem.W.methodCall_KW (pl := pl) (thn (he pins s σ H _ I h) fun u s1 ⟨x, H1, I1, rx, a, C, dx, fs, g, ex, ea, c, k, l, q⟩ => ?_) ht
 subst ex
 obtain rfl : u = Value.ref a := rx
 exact qH I1 ea c k l (q s1 I1)
end
section
variable {X : Cx} {pins : List (Addr × Obj)} {σ : St} {H : Hp} {s : Shared} {A : Around} {E : Value → Shared → Prop} {Q : Value → Shared → Prop} {c : Value} {b : Bool}
inductive mX (K : PySem.W.Frag) (H : Hp) : V → Value → Prop where
 | non : mX K H .non (.type "NoneType")
 | bl (x : Bool) : mX K H (.bl x) (.type "bool")
 | int (i : Int) : mX K H (.int i) (.type "int")
 | str (x : Str) : mX K H (.str x) (.type "str")
 | flt (x : UInt64) : mX K H (.flt x) (.type "float")
 | lst {a : Addr} {xs : List V} (e : H a = some (.lst xs)) : mX K H (.ref a) (.type "list")
 | frz {a : Addr} {o : Obj} {xs : List V} (e : H a = some (.frz o (.lst xs))) : mX K H (.ref a) (.type "list")
 | tup {a : Addr} {xs : List V} (e : H a = some (.tup xs)) : mX K H (.ref a) (.type "tuple")
 | dK {a : Addr} {kvs : List (Key × V)} (e : H a = some (.dK kvs)) : mX K H (.ref a) (.type "dict")
 | dT {a : Addr} {kvs : List (List Key × V)} (e : H a = some (.dT kvs)) : mX K H (.ref a) (.type "dict")
 | ins {a C dx : Addr} {fs : List (Str × V)} (e : H a = some (.ins C dx fs)) (cl : Cls K C) (ha : PySem.W.findIn K (.ref C) "__class__" = some (some (.builtin "object.__class__")))
   (hn : PySem.W.specialIn K (.builtin "object.__class__") "__get__" = some (some (.builtin "getset_descriptor.__get__"))) (htk : PySem.W.takesIn K (.builtin "object.__class__") = some true)
   (hm : PySem.W.mroIn K C (.type "object") = some true) : mX K H (.ref a) (.ref C)
theorem zM {x : V} {u t : Value} (I : Inv X pins σ H s) (rx : RelV x u) (ty : mX X.K H x t) (e : PySem.W.kitOne X.K t c = some b) (h : ∀ tk, Q (.bool b) { s with toks := tk }) :
  wpAny (model X.prog X.w) A (call (.builtin "isinstance") [u, c]) Q E s := by
 cases ty with
 | non => cases (show u = Value.none from rx); exact PySem.W.kia_one PySem.W.kitx_none I.kIn True.intro e (fun z => nomatch z) h
 | bl y => cases (show u = Value.bool y from rx); exact PySem.W.kia_one PySem.W.kitx_bool I.kIn True.intro e (fun z => nomatch z) h
 | int i => obtain ⟨t, q⟩ := (show ∃ t, u = Value.int i t from rx); cases q; exact PySem.W.kia_one PySem.W.kitx_int I.kIn True.intro e (fun z => nomatch z) h
 | str y => obtain ⟨t, q⟩ := (show ∃ t, u = Value.str y t from rx); cases q; exact PySem.W.kia_one PySem.W.kitx_str I.kIn True.intro e (fun z => nomatch z) h
 | flt y => obtain ⟨t, q⟩ := (show ∃ t, u = Value.float y t from rx); cases q; exact PySem.W.kia_one PySem.W.kitx_float I.kIn True.intro e (fun z => nomatch z) h
 | @lst a xs ea =>
  cases (show u = Value.ref a from rx)
  obtain ⟨_, _, n, _, h1⟩ := (show bU X.prog X.w H s.heap a (.lst xs) from I.hok a _ ea)
  exact PySem.W.kia_one PySem.W.kitx_list I.kIn ⟨_, h1, rfl⟩ e (fun z => nomatch z) h
 | @frz a ob xs ea =>
  cases (show u = Value.ref a from rx)
  obtain ⟨_, _, _, n, _, h1⟩ := (show bU X.prog X.w H s.heap a (.frz ob (.lst xs)) from I.hok a _ ea)
  exact PySem.W.kia_one PySem.W.kitx_list I.kIn ⟨_, h1, rfl⟩ e (fun z => nomatch z) h
 | @tup a xs ea =>
  cases (show u = Value.ref a from rx)
  obtain ⟨_, _, _, p⟩ := (show bU X.prog X.w H s.heap a (.tup xs) from I.hok a _ ea)
  obtain ⟨o, h1, h2, _⟩ := p
  exact PySem.W.kia_one PySem.W.kitx_tuple I.kIn ⟨o, h1, h2⟩ e (fun z => nomatch z) h
 | @dK a kvs ea =>
  cases (show u = Value.ref a from rx)
  obtain ⟨_, _, vs, _, p⟩ := (show bU X.prog X.w H s.heap a (.dK kvs) from I.hok a _ ea)
  obtain ⟨o, es, ep, h1, h2, _⟩ := p
  exact PySem.W.kia_one PySem.W.kitx_dict I.kIn ⟨o, h1, h2.1⟩ e (fun z => nomatch z) h
 | @dT a kvs ea =>
  cases (show u = Value.ref a from rx)
  obtain ⟨_, _, xs, _, o, es, ep, h1, h2, _⟩ := (show bU X.prog X.w H s.heap a (.dT kvs) from I.hok a _ ea)
  exact PySem.W.kia_one PySem.W.kitx_dict I.kIn ⟨o, h1, h2.1⟩ e (fun z => nomatch z) h
 | @ins a C dx fs ea cl ha hn htk hm =>
  cases (show u = Value.ref a from rx)
  obtain ⟨mA, O, _⟩ := pM I.hok ea
  obtain ⟨od, J, _⟩ := O.look
  exact PySem.W.kia_one (PySem.W.kitx_own (cl.get _) cl.hd ha hn htk hm) I.kIn J e (fun z => nomatch z) h
end
end L2
namespace L2
open PySem PySem.Spec PyProof.Rows
structure cz (k : Nat) (A : Around) : Prop where
 hd : A.handled = none
 dp : A.depth + 3 * k + 5 < recursionLimit
 un : A.units + 16 * k + 200 < cLine
theorem cz.mono {j k : Nat} {A : Around} (r : cz k A) (h : j ≤ k) : cz j A := ⟨r.hd, by have := r.dp; omega, by have := r.un; omega⟩
theorem cz.deeper {k : Nat} {A : Around} (r : cz (k + 1) A) (env : Env) : cz k (A.deeper env) :=
 ⟨r.hd, by have := r.dp; show A.depth + 1 + 3 * k + 5 < _; omega, by have := r.un; show A.units + 3 + 16 * k + 200 < _; omega⟩
theorem xU {A : Around} {C : Addr} {us : List Value} {kw : List (Str × Value)} : (A.under (.builtin "type.__call__" ⟨.ref C :: us, kw⟩)).depth = A.depth + 1 := by
 first | rfl | simp [Around.under, Code.weight, Code.isCreation, Code.isGuard, Code.isCaller, Code.frames, Code.isFrame, guardIds]
theorem wC {A : Around} {C : Addr} {us : List Value} {kw : List (Str × Value)} : (A.under (.builtin "type.__call__" ⟨.ref C :: us, kw⟩)).units = A.units + 1 := by
 first | rfl | simp [Around.under, Code.cUnits, Code.frames, Code.isFrame]
theorem cz.make {k : Nat} {A : Around} (r : cz (k + 1) A) (C : Addr) (us : List Value) (kw : List (Str × Value)) : cz k (A.under (.builtin "type.__call__" ⟨.ref C :: us, kw⟩)) :=
 ⟨r.hd, by have := r.dp; rw [xU]; omega, by have := r.un; rw [wC]; omega⟩
theorem cz.depth {k : Nat} {A : Around} (r : cz k A) : A.depth < recursionLimit := by have := r.dp; omega
theorem cz.units {k : Nat} {A : Around} (r : cz k A) : A.units + 64 < cLine := by have := r.un; omega
def GF : TA := fun _ H Q => Q [] H
def Dj (ta : TE) (tr : TA) : TA := fun σ H Q => ta σ H fun x H1 => tr σ H1 fun xs H2 => Q (x :: xs) H2
section
variable {X : Cx} {e : Expr} {es : List Expr} {te : TE} {t : TA} {pos : Pos}
theorem aj : PA X [] GF := fun _ _ _ _ H Q I h => Calls.spliced_nil ⟨[], H, I, .nil, h⟩
theorem aa (ha : PE X e te) (hr : PA X es t) (hs : starEach (e :: es) X.env = (false, eval e X.env) :: starEach es X.env := by rfl) : PA X (e :: es) (Dj te t) := by
 intro pos pins s σ H Q I h
 rw [hs]
 show wpAny _ _ (spliced ((false, eval e X.env) :: backTo pos (starEach es X.env))) _ _ s
 refine Calls.spliced_cons (thn (ha pins s σ H _ I h) fun u s1 ⟨x, H1, I1, r1, q1⟩ => ?_)
 exact thn (hr pos pins s1 σ H1 _ I1 q1) fun us s2 ⟨xs, H2, I2, r2, q2⟩ => ⟨x :: xs, H2, I2, .cons r1 r2, q2⟩
def G3 (t : TA) : TE := fun σ H Q => t σ H fun xs H1 => xs.length ≤ sizeLine ∧ ∀ p, H1 p = none → Q (.ref p) (upd H1 p (.tup xs))
def Gz (t : TA) : TE := fun σ H Q => t σ H fun xs H1 => xs.length ≤ sizeLine ∧ ∀ p, H1 p = none → Q (.ref p) (upd H1 p (.lst xs))
theorem t7 {x1} (h : PA X es t) : PE X (.Tuple es x1 pos) (G3 t) := by
 intro pins s σ H Q I hq
 refine wpAny_Tuple_spliced (thn (h pos pins s σ H _ I hq) fun us s1 ⟨xs, H1, I1, r, z, q⟩ => ⟨by rw [← r.length]; exact z, ?_⟩)
 have hf : H1 s1.heap.objs.size = none := I1.hok.fresh (Nat.le_refl _)
 refine ⟨.ref s1.heap.objs.size, upd H1 s1.heap.objs.size (.tup xs), I1.laid (t' := s1.toks) (fun b u e => Heap.get?_push_of_some _ e) (Nat.le_refl _) ?_, rfl, q _ hf⟩
 exact ⟨z, us, r, ⟨_, Heap.get?_push_size _ rfl, rfl, _, rfl⟩⟩
theorem bZ (h : PA X es t) : PE X (.List es pos) (Gz t) := by
 intro pins s σ H Q I hq
 refine wpAny_List_spliced (thn (h pos pins s σ H _ I hq) fun us s1 ⟨xs, H1, I1, r, z, q⟩ => ⟨by rw [← r.length]; exact z, ?_⟩)
 have hf : H1 s1.heap.objs.size = none := I1.hok.fresh (Nat.le_refl _)
 refine ⟨.ref s1.heap.objs.size, upd H1 s1.heap.objs.size (.lst xs), I1.laid (t' := s1.toks) (fun b u e => Heap.get?_push_of_some _ e) (Nat.le_refl _) ?_, rfl, q _ hf⟩
 exact ⟨z, us, 0, r, Heap.get?_push_size _ rfl⟩
end
abbrev Sp := List V → Hp → VK → XK → Prop
abbrev CXT := List Env → Hp → Shared → XK → Value → Shared → Prop
structure rH (P : Program) (w : World) (K : PySem.W.Frag) (mg : Str → Option Value) (base : Heap) (A : Around) (outer : List Env) (s : Shared) (H : Hp) : Prop where
 frames : A.frames = some outer
 mod : Mod K mg base
 bs : ∀ b o, base.get? b = some o → s.heap.get? b = some o ∧ H b = none
 bsz : base.objs.size ≤ s.heap.objs.size
 funs : s.heap.FunFrames base outer
 frf : ∀ b ∈ frs outer, H b = none
 hok : HOk P w H s.heap
 bare : AllBare s.gens
def CE (outer : List Env) (P : Program) (w : World) (H : Hp) (s : Shared) (Q : VK) (u : Value) (s' : Shared) : Prop :=
 ∃ v H', s'.os = s.os ∧ AllBare s'.gens ∧ Un (frs outer) [] H H' s.heap s'.heap ∧ HOk P w H' s'.heap ∧ RelV v u ∧ Q v H'
def CR (CX : CXT) (outer : List Env) (P : Program) (w : World) (H : Hp) (s : Shared) (Q : VK) (E : XK) (r : Result) (s' : Shared) : Prop :=
 match r with
 | .ok (.ret u) => CE outer P w H s Q u s'
 | .ok _ => False
 | .error e => CX outer H s E e s'
structure aU (P : Program) (w : World) (K : PySem.W.Frag) (mg : Str → Option Value) (base : Heap) (CX : CXT) (k : Nat) (f : Addr) (fd : FuncData) (ps : List Str) (sp : Sp) : Prop where
 len : ∀ vs H Q E, sp vs H Q E → vs.length = ps.length
 run : ∀ (A : Around) (outer : List Env) (s : Shared) (H : Hp) (args : Args) (us : List Value) (vs : List V) (Q : VK) (E : XK), cz k A → rH P w K mg base A outer s H → BindsTo s fd args (ps.zip us) → Vals vs us → sp vs H Q E →
  codeAny (model P w) A (.call (.ref f) args) (CR CX outer P w H s Q E) s
theorem aU.mono {P : Program} {w : World} {K : PySem.W.Frag} {mg : Str → Option Value} {base : Heap} {CX : CXT} {j k : Nat} {f : Addr} {fd : FuncData} {ps : List Str} {sp : Sp} (F : aU P w K mg base CX j f fd ps sp) (h : j ≤ k) :
  aU P w K mg base CX k f fd ps sp := ⟨F.len, fun A outer s H args us vs Q E hr => F.run A outer s H args us vs Q E (hr.mono h)⟩
theorem rH.make {P : Program} {w : World} {K : PySem.W.Frag} {mg : Str → Option Value} {base : Heap} {A : Around} {outer : List Env} {s : Shared} {H : Hp} (e : rH P w K mg base A outer s H) (C : Addr) (us : List Value) (kw : List (Str × Value)) :
  rH P w K mg base (A.under (.builtin "type.__call__" ⟨.ref C :: us, kw⟩)) outer s H := ⟨by first | exact e.frames | (simpa [Around.under, Code.envs, Code.isFrame, pushEnvs] using e.frames), e.mod, e.bs, e.bsz, e.funs, e.frf, e.hok, e.bare⟩
section
variable {X : Cx} {pins : List (Addr × Obj)} {σ : St} {H : Hp} {s s' : Shared}
theorem Inv.env0 (I : Inv X pins σ H s) : rH X.prog X.w X.K X.mg X.base X.A X.stack s H :=
 ⟨I.ok.frames, I.ok.mod, I.bs, Nat.le_trans I.ok.bsz I.sz, I.stack, I.stkFree, I.hok, I.bare⟩
theorem Inv.after {Q : VK} {u : Value} (I : Inv X pins σ H s) (h : CE X.stack X.prog X.w H s Q u s') : EP X pins σ Q u s' := by
 obtain ⟨v, H', os, bare, un, hok, r, q⟩ := h
 obtain ⟨hh, g, d, t, os'⟩ := s'
 obtain rfl : os' = s.os := os
 exact ⟨v, H', I.call (h' := hh) (g' := g) (d' := d) (t' := t) (ch := []) un hok bare (fun b z => absurd z (by simp)), r, q⟩
end
def Dk (sp : Sp) (dvs : List V) (E : XK) (t : TA) : TE := fun σ H Q => t σ H fun vs H1 => sp (vs ++ dvs) H1 Q E
def Ge (C : Addr) (m : Str) (sp : Sp) (dvs : List V) (E : XK) (ta : TE) (t : TA) : TE := fun σ H Q => ta σ H fun x H1 => ∃ a dx fs, x = .ref a ∧ H1 a = some (.ins C dx fs) ∧ fs.lookup m = none ∧
 t σ H1 fun vs H2 => sp (x :: (vs ++ dvs)) H2 Q E
def GP (C : Addr) (sp : Sp) (dvs : List V) (E : XK) (t : TA) : TE := fun σ H Q => t σ H fun vs H1 => ∀ x dx, H1 x = none → H1 dx = none → dx ≠ x →
 sp (.ref x :: (vs ++ dvs)) (upd (upd H1 dx (.own x)) x (.ins C dx [])) (fun v H2 => v = .non ∧ Q (.ref x) H2) E
def Binds (K : PySem.W.Frag) (fd : FuncData) (ps : List Str) (ds : List Value) : Prop :=
 ∀ (s : Shared) (us : List Value), K.In s.heap → (us ++ ds).length = ps.length → BindsTo s fd ⟨us, []⟩ (ps.zip (us ++ ds))
theorem Binds.all {K : PySem.W.Frag} {fd : FuncData} {ps : List Str} (h : ∀ us : List Value, us.length = ps.length → bindArgs fd ⟨us, []⟩ = pure (ps.zip us)) : Binds K fd ps [] := fun s us _ hl => by
 rw [List.append_nil] at hl ⊢
 exact .of_eq (h us hl)
def gJ (CX : CXT) (X : Cx) (E : XK) : Prop := ∀ (pins : List (Addr × Obj)) (σ : St) (H : Hp) (s : Shared) (e : Value) (s' : Shared), Inv X pins σ H s → CX X.stack H s E e s' → X.xe e s'
section
variable {X : Cx} {CX : CXT} {k : Nat} {f C : Addr} {fd : FuncData} {ps : List Str} {sp : Sp} {dvs : List V} {ds : List Value} {E : XK} {x m : Str} {p pos apos : Pos} {e o : Expr} {es : List Expr} {ta : TE} {t : TA}
theorem zR {pins : List (Addr × Obj)} {σ : St} {H : Hp} {s : Shared} {Q : VK} {us : List Value} {vs : List V} (F : aU X.prog X.w X.K X.mg X.base CX k f fd ps sp) (hr : cz k X.A) (hb : Binds X.K fd ps ds) (hd : Vals dvs ds) (hx : gJ CX X E)
  (I : Inv X pins σ H s) (r : Vals vs us) (h : sp (vs ++ dvs) H Q E) : wpAny (model X.prog X.w) X.A (call (.ref f) us) (EP X pins σ Q) X.xe s := by
 have r2 : Vals (vs ++ dvs) (us ++ ds) := r.append hd
 have hl : (us ++ ds).length = ps.length := by rw [← r2.length]; exact F.len _ _ _ _ h
 refine wpAny_call (codeAny_mono (F.run X.A X.stack s H ⟨us, []⟩ (us ++ ds) (vs ++ dvs) Q E hr I.env0 (hb s us I.kIn hl) r2 h) fun r s' hq => ?_)
 cases r with
 | error e => exact hx pins σ H s e s' I hq
 | ok fl =>
  cases fl with
  | ret u => exact I.after hq
  | next => exact False.elim hq
  | brk => exact False.elim hq
  | cont => exact False.elim hq
theorem Cq (F : aU X.prog X.w X.K X.mg X.base CX k f fd ps sp) (hr : cz k X.A) (hg : Gl X x) (hm : X.mg x = some (.ref f)) (hk : PySem.W.keepIn X.K (.ref f) = true) (hb : Binds X.K fd ps ds) (hd : Vals dvs ds) (hx : gJ CX X E)
  (ha : PA X (e :: es) t) (hdb : (x == ("__debug__" : Str)) = false := by decide) (he : starEach (e :: es) X.env = (false, eval e X.env) :: starEach es X.env := by rfl) (hpl : (backTo pos (starEach es X.env)).any (·.1) = false := by rfl) :
  PE X (.Call (.Name x p) (e :: es) [] pos) (Dk sp dvs E t) := by
 intro pins s σ H Q I h
 refine wpAny_Call_Name_kw (lQ I hg hm ?_ hdb)
 refine PySem.W.callWith_K (h₀ := X.base) I.ok.mod.kin hk (thn (ha pos pins s σ H _ I h) fun us s1 ⟨vs, H1, I1, r, q⟩ => ⟨I1.kIn, ?_⟩) he hpl
 exact zR F hr hb hd hx I1 r q
theorem iT {pl : Sem Bool} (he : PE X o ta) (c : Cls X.K C) (hm : Meth X.K C m f) (F : aU X.prog X.w X.K X.mg X.base CX k f fd ps sp) (hr : cz k X.A) (hb : Binds X.K fd ps ds) (hd : Vals dvs ds) (hx : gJ CX X E) (ha : PA X (e :: es) t)
  (hst : starEach (e :: es) X.env = (false, eval e X.env) :: starEach es X.env := by rfl) (hpl : (backTo pos (starEach es X.env)).any (·.1) = false := by rfl)
  (ht : eval (.Call (.Attribute o m apos) (e :: es) [] pos) X.env = (do
   let ov ← eval o X.env
   standAt apos.atName
   let (f, first) ← holding [ov] (getMethod ov m pl)
   callWith pos f first (backTo pos (starEach (e :: es) X.env)) (backToKw pos (keywordEach [] X.env))) := by rfl) :
  PE X (.Call (.Attribute o m apos) (e :: es) [] pos) (Ge C m sp dvs E ta t) := by
 intro pins s σ H Q I h
 refine PySem.W.methodCall_KW (pl := pl) (thn (he pins s σ H _ I h) fun u s1 ⟨x, H1, I1, rx, a, dx, fs, ex, ea, l, q⟩ => ?_) ht
 subst ex
 obtain rfl : u = Value.ref a := rx
 refine qH I1 ea c hm l ?_
 refine PySem.W.callWith_K (first := [.ref a]) (h₀ := X.base) I.ok.mod.kin hm.kp (thn (ha pos pins s1 σ H1 _ I1 q) fun us s2 ⟨vs, H2, I2, r, q2⟩ => ⟨I2.kIn, ?_⟩) hst hpl
 exact zR (us := .ref a :: us) (vs := .ref a :: vs) F hr hb hd hx I2 (.cons rfl r) q2
structure Mk (K : PySem.W.Frag) (C f : Addr) : Prop where
 makes : PySem.W.makesIn K C = true
 init : PySem.W.findIn K (.ref C) "__init__" = some (some (.ref f))
 fn : PySem.W.isFn K (.ref f) = true
 kp : PySem.W.keepIn K (.ref C) = true
theorem Ax {pins : List (Addr × Obj)} {σ : St} {H : Hp} {s : Shared} {Q : VK} {us : List Value} {vs : List V} (M : Mk X.K C f) (F : aU X.prog X.w X.K X.mg X.base CX k f fd ps sp) (hr : cz (k + 1) X.A) (hb : Binds X.K fd ps ds) (hd : Vals dvs ds)
  (hx : gJ CX X E) (I : Inv X pins σ H s) (r : Vals vs us)
  (h : ∀ x dx, H x = none → H dx = none → dx ≠ x → sp (.ref x :: (vs ++ dvs)) (upd (upd H dx (.own x)) x (.ins C dx [])) (fun v H2 => v = .non ∧ Q (.ref x) H2) E) :
  wpAny (model X.prog X.w) X.A (call (.ref C) us) (EP X pins σ Q) X.xe s := by
 have hq := h (s.heap.objs.size + 1) s.heap.objs.size (I.hok.fresh (Nat.le_succ _)) (I.hok.fresh (Nat.le_refl _)) (Nat.ne_of_lt (Nat.lt_succ_self _))
 have I2 := Inv.made (C := C) I
 have r2 : Vals (V.ref (s.heap.objs.size + 1) :: (vs ++ dvs)) (Value.ref (s.heap.objs.size + 1) :: (us ++ ds)) := .cons rfl (r.append hd)
 have hl : (Value.ref (s.heap.objs.size + 1) :: us ++ ds).length = ps.length := by
  have e := r2.length
  rw [F.len _ _ _ _ hq] at e
  exact e.symm
 refine wpAny_call (z8 (f := f) I.kIn M.makes M.init (beq_iff_eq.mp M.fn) (codeAny_mono (F.run _ X.stack _ _ ⟨Value.ref (s.heap.objs.size + 1) :: us, []⟩ (Value.ref (s.heap.objs.size + 1) :: (us ++ ds)) _ _ E (hr.make C us [])
  (I2.env0.make C us []) (hb _ (Value.ref (s.heap.objs.size + 1) :: us) I2.kIn hl) r2 hq) fun r s' hq' => ?_))
 cases r with
 | error e => exact hx pins σ _ _ e s' I2 hq'
 | ok fl =>
  cases fl with
  | ret u =>
   obtain ⟨v, H', I3, rv, ev, q3⟩ := I2.after hq'
   subst ev
   exact ⟨rv, ⟨V.ref (s.heap.objs.size + 1), H', I3, rfl, q3⟩⟩
  | next => exact False.elim hq'
  | brk => exact False.elim hq'
  | cont => exact False.elim hq'
theorem tU (M : Mk X.K C f) (F : aU X.prog X.w X.K X.mg X.base CX k f fd ps sp) (hr : cz (k + 1) X.A) (hg : Gl X x) (hm : X.mg x = some (.ref C)) (hb : Binds X.K fd ps ds) (hd : Vals dvs ds) (hx : gJ CX X E)
  (ha : PA X (e :: es) t) (hdb : (x == ("__debug__" : Str)) = false := by decide) (he : starEach (e :: es) X.env = (false, eval e X.env) :: starEach es X.env := by rfl) (hpl : (backTo pos (starEach es X.env)).any (·.1) = false := by rfl) :
  PE X (.Call (.Name x p) (e :: es) [] pos) (GP C sp dvs E t) := by
 intro pins s σ H Q I h
 refine wpAny_Call_Name_kw (lQ I hg hm ?_ hdb)
 refine PySem.W.callWith_K (h₀ := X.base) I.ok.mod.kin M.kp (thn (ha pos pins s σ H _ I h) fun us s1 ⟨vs, H1, I1, r, q⟩ => ⟨I1.kIn, ?_⟩) he hpl
 exact Ax M F hr hb hd hx I1 r q
end
section
variable {X : Cx} {CX : CXT} {k : Nat} {f C : Addr} {fd : FuncData} {ps ks : List Str} {sp : Sp} {E : XK} {x m : Str} {p pos apos kpos : Pos} {e o : Expr} {es : List Expr} {kws : List Keyword} {te ta : TE} {t tk : TA} {nm : Option Str}
variable {g : List Value → List Value → List Value} {gV : List V → List V → List V}
end
structure aA (N P : List Str) (sc : Scope) : Prop where
 kind : sc.kind = .function
 co : sc.isCoroutine = false
 gen : sc.isGenerator = false
 nd : N.Nodup
 pre : N.take P.length = P
 par : ∀ x ∈ P, sc.names.lookup x = some .local ∨ sc.names.lookup x = some .cell
 nofree : ∀ y ∈ sc.names, y.2 ≠ .free
theorem tE {kindOf : Str → Option NameKind} {x : Str} : ∀ {binds : List (Str × Value)} {m : Str → Option Value}, (∀ v, (x, v) ∉ binds) → bindL kindOf binds m x = m x
 | [], _, _ => rfl
 | (n, v) :: r, m, h => by
  unfold bindL
  rw [tE fun w hw => h w (List.mem_cons_of_mem _ hw)]
  split
  ·have : x ≠ n := by rintro rfl; exact h v List.mem_cons_self
   simp [this]
  ·rfl
theorem sS {kindOf : Str → Option NameKind} {x : Str} : ∀ {binds : List (Str × Value)} {m : Str → Option Value}, (∀ v, (x, v) ∉ binds) → bindC kindOf binds m x = m x
 | [], _, _ => rfl
 | (n, v) :: r, m, h => by
  unfold bindC
  rw [sS fun w hw => h w (List.mem_cons_of_mem _ hw)]
  split
  ·rfl
  ·have : x ≠ n := by rintro rfl; exact h v List.mem_cons_self
   simp [this]
theorem sW {kindOf : Str → Option NameKind} {x : Str} {v : Value} : ∀ {P : List Str} {vs : List Value} {i : Nat} {m : Str → Option Value}, P.Nodup → P[i]? = some x → vs[i]? = some v → kindOf x = some .local →
  bindL kindOf (P.zip vs) m x = some v
 | [], _, _, _, _, h, _, _ => by simp at h
 | _ :: _, [], _, _, _, _, h, _ => by simp at h
 | p :: P, w :: vs, 0, m, nd, h1, h2, hk => by
  simp at h1 h2; subst h1; subst h2
  show bindL kindOf ((p, w) :: P.zip vs) m p = _
  unfold bindL
  rw [tE fun v hv => (List.nodup_cons.mp nd).1 (List.of_mem_zip hv).1, if_pos hk]
  simp
 | p :: P, w :: vs, i + 1, m, nd, h1, h2, hk => by
  show bindL kindOf ((p, w) :: P.zip vs) m x = _
  unfold bindL
  exact sW (i := i) (List.nodup_cons.mp nd).2 (by simpa using h1) (by simpa using h2) hk
theorem sI {kindOf : Str → Option NameKind} {x : Str} {v : Value} : ∀ {P : List Str} {vs : List Value} {i : Nat} {m : Str → Option Value}, P.Nodup → P[i]? = some x → vs[i]? = some v → kindOf x ≠ some .local →
  bindC kindOf (P.zip vs) m x = some v
 | [], _, _, _, _, h, _, _ => by simp at h
 | _ :: _, [], _, _, _, _, h, _ => by simp at h
 | p :: P, w :: vs, 0, m, nd, h1, h2, hk => by
  simp at h1 h2; subst h1; subst h2
  show bindC kindOf ((p, w) :: P.zip vs) m p = _
  unfold bindC
  rw [sS fun v hv => (List.nodup_cons.mp nd).1 (List.of_mem_zip hv).1, if_neg hk]
  simp
 | p :: P, w :: vs, i + 1, m, nd, h1, h2, hk => by
  show bindC kindOf ((p, w) :: P.zip vs) m x = _
  unfold bindC
  exact sI (i := i) (List.nodup_cons.mp nd).2 (by simpa using h1) (by simpa using h2) hk
def start (N : List Str) (vs : List V) : St := vs.map some ++ List.replicate (N.length - vs.length) none
def fG (CX : CXT) (P : Program) (w : World) (K : PySem.W.Frag) (mg : Str → Option Value) (base : Heap) (N : List Str) (qual : Str) (scope : Scope) (f : Addr) (cd : Value) (A : Around) (outer : List Env) (s : Shared) (H : Hp) (E : XK) : Cx where
 prog := P
 w := w
 K := K
 mg := mg
 base := base
 A := A.deeper (envOfC qual scope s.heap.objs.size f cd)
 N := N
 s₀ := s
 H₀ := H
 env := envOfC qual scope s.heap.objs.size f cd
 outer := outer
 stack := envOfC qual scope s.heap.objs.size f cd :: outer
 ex := []
 calm := true
 fn := fun _ => true
 pn := []
 xe := fun e s' => wpAny (model P w) (A.deeper (envOfC qual scope s.heap.objs.size f cd)) (leaving (envOfC qual scope s.heap.objs.size f cd) e) (fun _ s'' => CX outer H s E e s'') (fun e' s'' => CX outer H s E e' s'') s'
theorem uL {sc : Scope} {n : Nat} {x : Str} (h : sc.names.lookup x = some .cell) : ∃ c, (cellsFrom n sc.names []).lookup x = some c := by
 have q := PySem.W.cellsFrom_some sc.names n [] (.inl h)
 exact Option.isSome_iff_exists.mp q
theorem sV {CX : CXT} {P : Program} {w : World} {K : PySem.W.Frag} {mg : Str → Option Value} {base : Heap} {N ps : List Str} {qual : Str} {scope : Scope} {f : Addr} {cd : Value} {A : Around} {outer : List Env} {s s1 : Shared} {H : Hp} {E : XK} {us : List Value} {vs : List V}
  (S : aA N ps scope) (hd : A.handled = none) (e0 : rH P w K mg base A outer s H) (hl : vs.length = ps.length) (r : Vals vs us)
  (x : InCallC s s.heap.objs.size (bindL (envOfC qual scope s.heap.objs.size f cd).kindOf (ps.zip us) fun _ => none) (cellsFrom (s.heap.objs.size + 1) scope.names []) (bindC (envOfC qual scope s.heap.objs.size f cd).kindOf (ps.zip us) fun _ => none) s1) :
  Inv (fG CX P w K mg base N qual scope f cd A outer s H E) [] (start N vs) H s1 := by
 have hpl : ps.length ≤ N.length := by have := congrArg List.length S.pre; rw [List.length_take] at this; omega
 obtain ⟨h1, tk, rfl, hk⟩ := x.done
 have noA : ∀ b : Addr, b ∉ (fG CX P w K mg base N qual scope f cd A outer s H E).ex := fun b z => absurd (show b ∈ ([] : List Addr) from z) (by simp)
 refine ⟨⟨e0.mod, S.kind, rfl, rfl, Nat.le_refl _, fun y z c h1 h2 => ?_, fun y hy => ?_, fun y c _ h => ?_, fun _ => hd, Around.frames_deeper e0.frames, .inr ⟨rfl, rfl⟩, fun b z => absurd z (noA b), e0.bs, e0.bsz, fun b _ _ => noA b, fun b z => absurd z (noA b), e0.funs, e0.frf⟩,
  rfl, e0.bare, Un.kept hk, ⟨_, x.toInCall.ns, fun i y v h1 h2 h3 => ?_⟩, fun y c h => ⟨_, x.cell y c h⟩, e0.hok.fresh (Nat.le_refl _), fun y c h => ?_, fun p hp => absurd (show p ∈ ([] : List (Addr × Obj)) from hp) (by simp), e0.hok.kept hk, ?_⟩
 ·exact name_of_addr x.apart (PySem.mem_of_lookup h1) (PySem.mem_of_lookup h2)
 ·have hy : scope.names.lookup y = some .cell ∨ scope.names.lookup y = some .free := hy
  rcases hy with hy | hy
  ·exact uL hy
  ·exact absurd rfl (S.nofree _ (PySem.mem_of_lookup hy))
 ·exact Nat.le_of_lt (x.above y c (PySem.mem_of_lookup h))
 ·have hi : i < vs.length := by
   unfold start at h2
   by_cases hi : i < vs.length
   ·exact hi
   ·rw [List.getElem?_append_right (by simpa using hi)] at h2
    rw [List.getElem?_replicate] at h2
    split at h2 <;> cases h2
  have ha : vs[i]? = some v := by
   unfold start at h2
   rw [List.getElem?_append_left (by simpa using hi), List.getElem?_map] at h2
   cases e : vs[i]? with
   | none => rw [e] at h2; cases h2
   | some a => rw [e] at h2; cases h2; rfl
  obtain ⟨u, hu, rv⟩ := r.get ha
  have hp : ps[i]? = some y := by
   rw [← S.pre, List.getElem?_take_of_lt (by omega)]; exact h1
  have ndP : ps.Nodup := by rw [← S.pre]; exact S.nd.sublist (List.take_sublist _ _)
  refine ⟨u, rv, ?_⟩
  rcases S.par y (List.mem_of_getElem? hp) with k | k
  ·exact .inl ⟨k, sW ndP hp hu k⟩
  ·obtain ⟨c, e⟩ := uL (n := s.heap.objs.size + 1) k
   refine .inr ⟨.inl k, c, e, ?_⟩
   have q := x.cell y c e
   rw [sI ndP hp hu (by show scope.names.lookup y ≠ _; rw [k]; decide)] at q
   exact q
 ·exact e0.hok.fresh (Nat.le_of_lt (x.above y c (PySem.mem_of_lookup h)))
 ·unfold start
  show _ = N.length
  rw [List.length_append, List.length_map, List.length_replicate]
  omega
theorem Dy {CX : CXT} {P : Program} {w : World} {K : PySem.W.Frag} {mg : Str → Option Value} {base : Heap} {k : Nat} {f : Addr} {name qual : Str} {params : Arguments} {body : List Stmt} {scope : Scope} {dV kV doc pm cdv ct oc : Value} {an od : Option Addr}
  {osl : Array (Option Value)} {N ps : List Str} {sp : Sp} (lk : K.lookup f = some ⟨oc, od, .func (PySem.W.fnOf name qual params body scope dV kV doc pm an cdv ct), osl⟩) (hcd : PySem.W.codeIn K cdv qual = true) (S : aA N ps scope)
  (len : ∀ vs H Q E, sp vs H Q E → vs.length = ps.length)
  (hbody : ∀ (A : Around) (outer : List Env) (s : Shared) (H : Hp) (vs : List V) (Q : VK) (E : XK), cz k (A.deeper (envOfC qual scope s.heap.objs.size f cdv)) → sp vs H Q E →
   ∃ t, PSs (fG CX P w K mg base N qual scope f cdv A outer s H E) body t ∧ t { nx := fun _ H' => Q .non H', rt := Q } (start N vs) H) :
  aU P w K mg base CX (k + 1) f (PySem.W.fnOf name qual params body scope dV kV doc pm an cdv ct) ps sp := by
 refine ⟨len, fun A outer s H args us vs Q E hr e0 hb r hsp => ?_⟩
 have hl := len _ _ _ _ hsp
 have KX : K.In s.heap := e0.mod.kin.keeps fun b o e => (e0.bs b o e).1
 have lim : s.heap.NoLimit := e0.mod.nolimit.keeps fun b o e => (e0.bs b o e).1
 have hkind : ∀ y ∈ ps.zip us, scope.names.lookup y.1 = some .local ∨ (scope.names.lookup y.1 = some .cell ∧ ((cellsFrom (s.heap.objs.size + 1) scope.names []).lookup y.1).isSome = true) := fun ⟨n, v⟩ hy => by
  rcases S.par n (List.of_mem_zip hy).1 with q | q
  ·exact .inl q
  ·exact .inr ⟨q, PySem.W.cellsFrom_some _ _ _ (.inl q)⟩
 refine codeAny_call_function hr.depth (KX _ _ lk) rfl S.co S.gen rfl (PySem.W.codeRec_of KX hcd) (hb _ _ _ _ ?_)
 refine wpAny_newFunctionEnv_cells S.kind hkind fun env he s1 x => ?_
 subst he
 refine ⟨lim.keeps x.toInCall.keep, codeAny_func ?_⟩
 obtain ⟨t, ht, hq⟩ := hbody A outer s H vs Q E (hr.deeper _) hsp
 have I : Inv (fG CX P w K mg base N qual scope f cdv A outer s H E) [] (start N vs) H s1 := sV S hr.hd e0 hl r x
 refine wpAny_mono (ht [] s1 (start N vs) H _ I hq) (fun fl s' hs => ?_) fun e s' hs => hs
 have fin : ∀ {σ' : St} {H' : Hp} {v : V} {u : Value}, Inv (fG CX P w K mg base N qual scope f cdv A outer s H E) [] σ' H' s' → RelV v u → Q v H' → CE outer P w H s Q u s' :=
  fun {σ' H' v u} J rv q => ⟨v, H', J.os, J.bare, J.base, J.hok, rv, q⟩
 cases fl with
 | ret u =>
  obtain ⟨v, σ', H', J, rv, q⟩ := hs
  exact fin J rv q
 | next =>
  obtain ⟨σ', H', J, q⟩ := hs
  exact fin (v := V.non) (u := Value.none) J rfl q
 | brk =>
  obtain ⟨_, _, _, q⟩ := hs
  exact False.elim q
 | cont =>
  obtain ⟨_, _, _, q⟩ := hs
  exact False.elim q
end L2
namespace L2
open PySem PySem.Spec PyProof.Rows
section
variable {X : Cx} {x : Str} {p pos : Pos} {e : Expr} {es : List Expr} {t : TA} {id T : String} {r : List V → Hp → VK → Prop}
def tCB (r : List V → Hp → VK → Prop) (t : TA) : TE := fun σ H Q => t σ H fun vs H1 => r vs H1 Q
theorem aQ (hc : iU X (.builtin id) r) (hg : Gl X x) (hm : X.mg x = none) (hv : bootBuiltins x = some (.builtin id)) (ha : PA X (e :: es) t) (hn : x ≠ "__name__" := by decide) (hdb : (x == ("__debug__" : Str)) = false := by decide)
  (he : starEach (e :: es) X.env = (false, eval e X.env) :: starEach es X.env := by rfl) (hpl : (backTo pos (starEach es X.env)).any (·.1) = false := by rfl) : PE X (.Call (.Name x p) (e :: es) [] pos) (tCB r t) := by
 intro pins s σ H Q I h
 refine wpAny_Call_Name_kw (c7 I hg hm hv ?_ hn hdb)
 exact PyProof.Rows.callWith_builtin1 (thn (ha pos pins s σ H _ I h) fun us s1 ⟨vs, H1, I1, r1, q1⟩ => hc pins s1 σ H1 vs us Q I1 r1 q1) he hpl
theorem jX (hc : iU X (.type T) r) (hg : Gl X x) (hm : X.mg x = none) (hv : bootBuiltins x = some (.type T)) (ha : PA X (e :: es) t) (hn : x ≠ "__name__" := by decide) (hdb : (x == ("__debug__" : Str)) = false := by decide)
  (he : starEach (e :: es) X.env = (false, eval e X.env) :: starEach es X.env := by rfl) (hpl : (backTo pos (starEach es X.env)).any (·.1) = false := by rfl) : PE X (.Call (.Name x p) (e :: es) [] pos) (tCB r t) := by
 intro pins s σ H Q I h
 refine wpAny_Call_Name_kw (c7 I hg hm hv ?_ hn hdb)
 exact PyProof.Rows.callWith_type1 (thn (ha pos pins s σ H _ I h) fun us s1 ⟨vs, H1, I1, r1, q1⟩ => hc pins s1 σ H1 vs us Q I1 r1 q1) he hpl
end
end L2
namespace HT
open PySem PyProof.Rows
section
open PySem.SeqAt
open PySem.AutoSeq1 (wpAny_loadPart')
open PySem.MeetsSeq PySem.MeetsSeq2 PySem.MeetsSeq3
end
section
variable {prog : Program} {w : World} {A : Around} {E : Value → Shared → Prop} {s : Shared}
def sIx (n d : Nat) : Option Int → Nat
 | none => d
 | some v => if v < 0 then (v + (n : Int)).toNat else min v.toNat n
theorem u5 (n d : Nat) : sIx n d none = d := rfl
theorem pN (n d k : Nat) : sIx n d (some (k : Int)) = min k n := by
 show (if (k : Int) < 0 then ((k : Int) + (n : Int)).toNat else min (k : Int).toNat n) = min k n
 rw [if_neg (by omega), Int.toNat_natCast]
end
end HT
namespace L2
open PySem PySem.Spec PyProof.Rows
abbrev TO := St → Hp → (Option Int → Hp → Prop) → Prop
def PO (X : Cx) (e : Option Expr) (t : TO) : Prop :=
 ∀ (pins : List (Addr × Obj)) (s : Shared) (σ : St) (H : Hp) (Q : Option Int → Hp → Prop), Inv X pins σ H s → t σ H Q →
  wpAny (model X.prog X.w) X.A (evalPart e X.env) (fun u s' => ∃ o H', Inv X pins σ H' s' ∧ IsPart u o ∧ Q o H') X.xe s
def Cy : TO := fun _ H Q => Q none H
def Gw (t : TE) : TO := fun σ H Q => t σ H fun x H1 => ∃ i, x = .int i ∧ Q (some i) H1
theorem intsAre_of {ns : List Int} : ∀ {us : List Value}, Vals (ns.map V.int) us → IntsAre us ns := by
 induction ns with
 | nil => intro us r; rw [List.map_nil] at r; cases r; exact .nil
 | cons n ns ih =>
  intro us r
  rw [List.map_cons] at r
  cases r with
  | cons r1 r2 =>
   obtain ⟨t, e⟩ := r1
   subst e
   exact .cons n t (ih r2)
section
variable {X : Cx} {e : Expr} {te : TE} {lo hi : Option Expr} {tl th : TO} {pos p2 : Pos}
theorem jY : PO X none Cy := by
 intro pins s σ H Q I h
 rw [evalPart_none]
 exact wpAny_pure ⟨none, H, I, .none, h⟩
theorem gh (h : PE X e te) : PO X (some e) (Gw te) := by
 intro pins s σ H Q I hw
 rw [evalPart_some]
 refine thn (h pins s σ H _ I hw) fun u s1 ⟨x, H1, I1, r1, q1⟩ => ?_
 obtain ⟨i, rfl, q⟩ := q1
 obtain ⟨t, rfl⟩ := r1
 exact ⟨some i, H1, I1, .int i t, q⟩
def SlR (X : Cx) (r : V → Option Int → Option Int → Hp → VK → Prop) : Prop :=
 ∀ (pins : List (Addr × Obj)) (s : Shared) (σ : St) (H : Hp) (x : V) (v vl vu : Value) (lo hi : Option Int) (sl : Addr) (Q : VK), Inv X pins σ H s → RelV x v → s.heap.IsSliceOf sl vl vu .none → IsPart vl lo → IsPart vu hi → r x lo hi H Q →
  ∃ T id, typeLookup (.type T) "__getitem__" = pure (some (.builtin id)) ∧ s.TypeIs v T ∧ wpAny (model X.prog X.w) X.A (getItem v (.ref sl)) (EP X pins σ Q) X.xe s
def tSl (r : V → Option Int → Option Int → Hp → VK → Prop) (te : TE) (tl th : TO) : TE := fun σ H Q => te σ H fun x H1 => tl σ H1 fun l H2 => th σ H2 fun u H3 => r x l u H3 Q
theorem fK {r : V → Option Int → Option Int → Hp → VK → Prop} (hr : SlR X r) (he : PE X e te) (hl : PO X lo tl) (hu : PO X hi th) : PE X (.Subscript e (.Slice lo hi none p2) pos) (tSl r te tl th) := by
 intro pins s σ H Q I h
 refine Subscript_ (thn (he pins s σ H _ I h) fun v s1 ⟨x, H1, I1, r1, q1⟩ => ?_)
 refine wpAny_Slice (thn (hl pins s1 σ H1 _ I1 q1) fun vl s2 ⟨l, H2, I2, pl, q2⟩ => thn (hu pins s2 σ H2 _ I2 q2) fun vu s3 ⟨u, H3, I3, pu, q3⟩ => ?_)
 rw [evalPart_none]
 refine wpAny_pure ?_
 have I4 : Inv X pins σ H3 { s3 with heap := s3.heap.push { cls := .type "slice", data := .fields #[vl, vu, .none] } } := I3.kept (t' := s3.toks) fun b ob q => Heap.get?_push_of_some _ q
 obtain ⟨T, id, hT, ht, hg⟩ := hr pins { s3 with heap := s3.heap.push { cls := .type "slice", data := .fields #[vl, vu, .none] } } σ H3 x v vl vu l u s3.heap.objs.size Q I4 r1 (Heap.IsSliceOf.new ..) pl pu q3
 show wpAny (model X.prog X.w) X.A (subscriptTail e (.Slice lo hi none p2) v (.ref s3.heap.objs.size)) (EP X pins σ Q) X.xe { s3 with heap := s3.heap.push { cls := .type "slice", data := .fields #[vl, vu, .none] } }
 exact tail_any (ops := [.ref s3.heap.objs.size, v]) ht hT hg (by with_unfolding_all rfl)
def jn (xs : List V) (lo hi : Option Int) : List V := (xs.drop (HT.sIx xs.length 0 lo)).take (HT.sIx xs.length xs.length hi - HT.sIx xs.length 0 lo)
theorem vz (xs : List V) (lo hi : Option Int) : (jn xs lo hi).length ≤ xs.length := by
 unfold jn
 rw [List.length_take, List.length_drop]
 omega
end
end L2
namespace L2
open PySem PySem.Spec PyProof.Rows
def ixN (n : Nat) (i : Int) : Option Nat := if 0 ≤ i then (if i < n then some i.toNat else none) else if -(n : Int) ≤ i then some (i + n).toNat else none
def atI {α : Type} (xs : List α) (i : Int) : Option α := (ixN xs.length i).bind fun j => xs[j]?
theorem xX {n : Nat} {i : Int} {j : Nat} (h : ixN n i = some j) : seqIndex? i n = some j ∧ j < n ∧ -(n : Int) ≤ i ∧ i < n := by
 unfold ixN at h
 by_cases h0 : 0 ≤ i
 ·rw [if_pos h0] at h
  by_cases h1 : i < n
  ·rw [if_pos h1] at h
   have e : i.toNat = j := Option.some.inj h
   exact ⟨by rw [seqIndex_of h0 h1, e], by omega, by omega, h1⟩
  ·rw [if_neg h1] at h; cases h
 ·rw [if_neg h0] at h
  by_cases h1 : -(n : Int) ≤ i
  ·rw [if_pos h1] at h
   have e : (i + n).toNat = j := Option.some.inj h
   exact ⟨by rw [seqIndex_neg (by omega) h1, e], by omega, h1, by omega⟩
  ·rw [if_neg h1] at h; cases h
theorem tV {α : Type} {xs : List α} {i : Int} {v : α} (h : atI xs i = some v) : ∃ j, seqIndex? i xs.length = some j ∧ xs[j]? = some v ∧ j < xs.length ∧ -(xs.length : Int) ≤ i ∧ i < xs.length := by
 unfold atI at h
 cases e : ixN xs.length i with
 | none => rw [e] at h; cases h
 | some j =>
  rw [e] at h
  obtain ⟨h1, h2, h3, h4⟩ := xX e
  exact ⟨j, h1, h, h2, h3, h4⟩
theorem yd {α : Type} {xs : List α} {j : Nat} {v : α} (h : xs[j]? = some v) : atI xs (j : Int) = some v := by
 have hj : j < xs.length := (List.getElem?_eq_some_iff.mp h).1
 have e : ixN xs.length (j : Int) = some j := by
  unfold ixN
  rw [if_pos (by omega), if_pos (by omega)]; simp
 unfold atI; rw [e]; exact h
theorem mK {α : Type} (xs : List α) (v : α) : atI (xs ++ [v]) (-1) = some v := by
 have hl : (xs ++ [v]).length = xs.length + 1 := by simp
 have e : ixN (xs ++ [v]).length (-1) = some xs.length := by
  unfold ixN
  rw [hl, if_neg (by decide), if_pos (by omega)]
  congr 1
  omega
 unfold atI
 rw [e]
 show (xs ++ [v])[xs.length]? = some v
 simp
def CW (b : Expr) : Prop := ∀ o i, subscripted b false o i = operate [o, i] (getItem o i)
def IxR (X : Cx) (r : R2) : Prop :=
 ∀ (value slice : Expr) (pins : List (Addr × Obj)) (s : Shared) (σ : St) (H : Hp) (x y : V) (v u : Value) (Q : VK), Inv X pins σ H s → RelV x v → RelV y u → r x y H Q →
  subscripted slice false v u = operate [v, u] (getItem v u) → wpAny (model X.prog X.w) X.A (subscriptTail value slice v u) (EP X pins σ Q) X.xe s
def MtR (X : Cx) (id : String) (r : V → List V → Hp → VK → Prop) : Prop :=
 ∀ (pins : List (Addr × Obj)) (s : Shared) (σ : St) (H : Hp) (x : V) (xs : List V) (v : Value) (us : List Value) (Q : VK), Inv X pins σ H s → RelV x v → Vals xs us → r x xs H Q →
  wpAny (model X.prog X.w) X.A (call (.builtin id) (v :: us)) (EP X pins σ Q) X.xe s
section
variable {X : Cx} {a b : Expr} {ta tb : TE} {pos : Pos}
theorem IxR.or {r r' : R2} (h : IxR X r) (h' : IxR X r') : IxR X (fun x y H Q => r x y H Q ∨ r' x y H Q) := by
 intro value slice pins s σ H x y v u Q I rx ry q hs
 rcases q with q | q
 ·exact h value slice pins s σ H x y v u Q I rx ry q hs
 ·exact h' value slice pins s σ H x y v u Q I rx ry q hs
theorem bc {r : R2} (hr : IxR X r) (ha : PE X a ta) (hb : PE X b tb) (hs : CW b) : PE X (.Subscript a b pos) (tOp r ta tb) := by
 intro pins s σ H Q I h
 exact Subscript_ (FJ ha hb I h fun v u s2 x y H2 I2 rx ry q => hr a b pins s2 σ H2 x y v u Q I2 rx ry q (hs _ _))
def Gn (K : PySem.W.Frag) : R2 := fun x y H Q => ∃ p xs i v, x = .ref p ∧ y = .int i ∧ SqL K H p xs ∧ atI xs i = some v ∧ Q v H
def Ew (K : PySem.W.Frag) : R2 := fun x y H Q => ∃ p xs i v, x = .ref p ∧ y = .int i ∧ SqT K H p xs ∧ atI xs i = some v ∧ Q v H
def GD : R2 := fun x y H Q => ∃ z i c, x = .str z ∧ y = .int i ∧ z.length ≤ sizeLine ∧ atI z.cps.toList i = some c ∧ Q (.str ⟨#[c]⟩) H
theorem bL : IxR X (Gn X.K) := by
 intro value slice pins s σ H x y v u Q I rx ry h hs
 obtain ⟨p, xs, i, z, rfl, rfl, hq, he, q⟩ := h
 cases rx
 obtain ⟨t, rfl⟩ := ry
 obtain ⟨its, r, pl, hz⟩ := I.list hq
 obtain ⟨j, h1, h2, h3, h4, h5⟩ := tV he
 obtain ⟨w, ew, rw'⟩ := r.get h2
 have hl := r.length
 have hn := pU
 have fin : EP X pins σ Q w s := ⟨z, H, I, rw', q⟩
 by_cases h0 : 0 ≤ i
 ·have hj : i.toNat = j := by
   rw [seqIndex_of h0 h5] at h1
   exact Option.some.inj h1
  exact item_listR pl.isList h0 (by omega) (by rw [hj]; simpa using ew) fin hs
 ·have hj : (i + (its.toArray.size : Int)).toNat = j := by
   rw [seqIndex_neg (by omega) h4] at h1
   rw [List.size_toArray, ← hl]
   exact Option.some.inj h1
  exact subscriptTail_builtinR (x := w) pl.isList.typeIs slot_list_getitem.lookup
   (wpAny_getItem_list_neg (Q := fun r s' => r = w ∧ EP X pins σ Q r s') pl.isList (by omega) (by rw [List.size_toArray] <;> omega) (by omega) (by rw [hj]; simpa using ew) ⟨rfl, fin⟩) hs
theorem bB : IxR X (Ew X.K) := by
 intro value slice pins s σ H x y v u Q I rx ry h hs
 obtain ⟨p, xs, i, z, rfl, rfl, hq, he, q⟩ := h
 cases rx
 obtain ⟨t, rfl⟩ := ry
 obtain ⟨its, r, pl, hz⟩ := I.tuple hq
 obtain ⟨j, h1, h2, h3, h4, h5⟩ := tV he
 obtain ⟨w, ew, rw'⟩ := r.get h2
 have hl := r.length
 have hn := pU
 have fin : EP X pins σ Q w s := ⟨z, H, I, rw', q⟩
 exact subscriptTail_builtinR (x := w) pl.typeIs slot_tuple_getitem.lookup
  (getItem_tuple (j := j) (Q := fun r s' => r = w ∧ EP X pins σ Q r s') pl (by omega) (by omega) (by rw [List.size_toArray, ← hl]; exact h1) (by simpa using ew) ⟨rfl, fin⟩) hs
theorem Fo : IxR X GD := by
 intro value slice pins s σ H x y v u Q I rx ry h hs
 obtain ⟨z, i, c, rfl, rfl, hz, he, q⟩ := h
 obtain ⟨t, rfl⟩ := rx
 obtain ⟨t', rfl⟩ := ry
 obtain ⟨j, h1, h2, h3, h4, h5⟩ := tV he
 have hl : z.cps.toList.length = z.length := by simp [Str.length]
 rw [hl] at h1 h4 h5
 have hn := pU
 exact tail_any (typeIs_str s z t) slot_str_getitem.lookup (getItem_str (c := c) (by
  have e1 : decide (i < -(2 ^ 63 : Int)) = false := decide_eq_false (by omega)
  have e2 : decide (i ≥ 2 ^ 63) = false := decide_eq_false (by omega)
  rw [e1, e2, Bool.or_false]) (by rw [h1]; simpa using h2) ⟨.str ⟨#[c]⟩, H, I.tok _, ⟨_, rfl⟩, q⟩) hs
def rIx (K : PySem.W.Frag) : R2 := fun x y H Q => Gn K x y H Q ∨ Ew K x y H Q ∨ GD x y H Q
theorem Ex : IxR X (rIx X.K) := bL.or (bB.or Fo)
theorem wL (its : List Value) (n j : Nat) (u : Value) : Obj.mapSeq (·.setIfInBounds j u) { cls := .type "list", data := .seq its.toArray n } = { cls := .type "list", data := .seq (its.set j u).toArray n } := by
 simp [Obj.mapSeq]
theorem Inv.lst {pins : List (Addr × Obj)} {σ : St} {H : Hp} {s : Shared} {p : Addr} {xs : List V} (I : Inv X pins σ H s) (h : H p = some (.lst xs)) :
  ∃ (its : List Value) (n : Nat), Vals xs its ∧ s.heap.get? p = some { cls := .type "list", data := .seq its.toArray n } ∧ xs.length ≤ sizeLine := by
 obtain ⟨z, its, n, r, e⟩ := I.hok p _ h
 exact ⟨its, n, r, e, z⟩
theorem Inv.lstUpd {pins : List (Addr × Obj)} {σ : St} {H : Hp} {s : Shared} {p : Addr} {xs ys : List V} {its its' : List Value} {n n' : Nat} {f : Obj → Obj} (I : Inv X pins σ H s) (h : H p = some (.lst xs))
  (ho : s.heap.get? p = some { cls := .type "list", data := .seq its.toArray n }) (hf : f { cls := .type "list", data := .seq its.toArray n } = { cls := .type "list", data := .seq its'.toArray n' }) (r : Vals ys its') (hz : ys.length ≤ sizeLine) (t : Nat) :
  Inv X pins σ (upd H p (.lst ys)) { s with heap := s.heap.update p f, toks := t } := by
 have e : (s.heap.update p f).get? p = some { cls := .type "list", data := .seq its'.toArray n' } := by
  rw [Heap.get?_update_self f ho (by rw [hf] <;> rfl), hf]
 refine I.write (x := p) (e := p) (by rw [h]; trivial) (.inl rfl) (fun b u hb q => (Heap.get?_update_other _ _ (Ne.symm hb)).trans q) ⟨_, e⟩ ?_
 exact ⟨hz, its', n', r, e⟩
def Gv : V → V → V → Hp → (Hp → Prop) → Prop := fun o i v H Q => ∃ p xs k j, o = .ref p ∧ i = .int k ∧ H p = some (.lst xs) ∧ ixN xs.length k = some j ∧ Q (upd H p (.lst (xs.set j v)))
theorem set_list : Gm X Gv := by
 intro pins s σ H o i v ov iv u Q I ro ri rv h
 obtain ⟨p, xs, k, j, rfl, rfl, hp, hj, q⟩ := h
 cases ro
 obtain ⟨t, rfl⟩ := ri
 obtain ⟨its, n, r, ho, hz⟩ := I.lst hp
 obtain ⟨h1, h2, h3, h4⟩ := xX hj
 have hl := r.length
 have hn := pU
 have I' : Inv X pins σ (upd H p (.lst (xs.set j v))) { s with heap := s.heap.update p (Obj.mapSeq (·.setIfInBounds j u)) } :=
  I.lstUpd hp ho (wL its n j u) (r.set rv j) (by rw [List.length_set]; exact hz) s.toks
 by_cases h0 : 0 ≤ k
 ·have hk : k.toNat = j := by
   rw [seqIndex_of h0 h4] at h1
   exact Option.some.inj h1
  exact PySem.W.ki_setAt ho h0 (by omega) (by rw [List.size_toArray, ← hl]; exact h4) (by rw [hk]; exact ⟨_, I', q⟩)
 ·have hk : (k + (its.toArray.size : Int)).toNat = j := by
   rw [seqIndex_neg (by omega) h3] at h1
   rw [List.size_toArray, ← hl]
   exact Option.some.inj h1
  exact PySem.W.ki_setBack ho (by omega) (by rw [List.size_toArray, ← hl]; exact h3) (by omega) (by rw [hk]; exact ⟨_, I', q⟩)
theorem uB (lo hi : Option Int) (n : Nat) : (sliceBounds lo hi none n).1 = ((HT.sIx n 0 lo : Nat) : Int) ∧ (sliceBounds lo hi none n).2.1 = ((HT.sIx n n hi : Nat) : Int) ∧ (sliceBounds lo hi none n).2.2 = 1 := by
 refine ⟨?_, ?_, rfl⟩
 ·cases lo with
  | none => simp [sliceBounds, HT.sIx]
  | some i =>
   simp only [sliceBounds, HT.sIx, Option.getD_none, show (1 : Int) > 0 by decide, if_true]
   by_cases h : i < 0
   ·simp only [h, if_true] <;> omega
   ·simp only [h, if_false] <;> omega
 ·cases hi with
  | none => simp [sliceBounds, HT.sIx]
  | some i =>
   simp only [sliceBounds, HT.sIx, Option.getD_none, show (1 : Int) > 0 by decide, if_true]
   by_cases h : i < 0
   ·simp only [h, if_true] <;> omega
   ·simp only [h, if_false] <;> omega
theorem rJ (its : List Value) (lo hi : Option Int) : slicePick its.toArray lo hi none = ((its.drop (HT.sIx its.length 0 lo)).take (HT.sIx its.length its.length hi - HT.sIx its.length 0 lo)).toArray := by
 obtain ⟨h1, h2, h3⟩ := uB lo hi its.toArray.size
 unfold slicePick
 rw [h1, h2, h3]
 simp only [sliceRange_one, pick_run, List.size_toArray] <;> rfl
def Gj (K : PySem.W.Frag) : V → Option Int → Option Int → Hp → VK → Prop := fun x lo hi H Q => ∃ a xs, x = .ref a ∧ SqL K H a xs ∧ ∀ p, H p = none → Q (.ref p) (upd H p (.lst (jn xs lo hi)))
theorem ik : SlR X (Gj X.K) := by
 intro pins s σ H x v vl vu lo hi sl Q I rx hs pl pu h
 obtain ⟨a, xs, rfl, hx, q⟩ := h
 cases rx
 obtain ⟨its, r, ht, hz⟩ := I.list hx
 have hlen := r.length
 refine ⟨"list", _, slot_list_getitem.lookup, ht.isList.typeIs, ?_⟩
 refine wpAny_getItem_list_slice ht.isList hs pl pu .none (by simp) ?_ (by rw [List.size_toArray] <;> omega)
 rw [rJ, ← hlen]
 refine ⟨.ref s.heap.objs.size, _, I.laid (t' := s.toks) (o := .lst (jn xs lo hi)) (fun b ob q => Heap.get?_push_of_some _ q) (Nat.le_refl _) ?_, rfl, q _ (I.hok.fresh (Nat.le_refl _))⟩
 exact ⟨Nat.le_trans (vz xs lo hi) hz, _, 0, (r.drop (HT.sIx xs.length 0 lo)).take (HT.sIx xs.length xs.length hi - HT.sIx xs.length 0 lo), Heap.get?_push_size _ rfl⟩
theorem aL : iU X (.builtin "len") (fun xs H Q => ∃ p ys, xs = [.ref p] ∧ (SqL X.K H p ys ∨ SqT X.K H p ys) ∧ Q (.int ys.length) H) := by
 intro pins s σ H xs us Q I r h
 obtain ⟨p, ys, rfl, hq, q⟩ := h
 obtain ⟨u, rfl, rx⟩ := vals1 r
 cases rx
 have hn := pU
 rcases hq with hq | hq
 ·obtain ⟨its, r', pl, hz⟩ := I.list hq
  have hlen := r'.length
  exact Calls.call_len_list pl.isList (by simp only [List.size_toArray] <;> omega) ⟨.int ys.length, H, I.tok _, ⟨s.toks + 1, by rw [List.size_toArray, hlen]⟩, q⟩
 ·obtain ⟨its, r', pl, hz⟩ := I.tuple hq
  have hlen := r'.length
  exact len_tuple pl (by simp only [List.size_toArray] <;> omega) ⟨.int ys.length, H, I.tok _, ⟨s.toks + 1, by rw [List.size_toArray, hlen]⟩, q⟩
theorem mJ : iU X (.type "list") (fun xs H Q => ∃ p ys, xs = [.ref p] ∧ (SqL X.K H p ys ∨ SqT X.K H p ys) ∧ ∀ l, H l = none → Q (.ref l) (upd H l (.lst ys))) := by
 intro pins s σ H xs us Q I r h
 obtain ⟨p, ys, rfl, hq, q⟩ := h
 obtain ⟨u, rfl, rx⟩ := vals1 r
 cases rx
 have fin : ∀ (its : List Value), Vals ys its → ys.length ≤ sizeLine → ∀ (h' : Heap) (c' : Nat), (∀ b o', s.heap.get? b = some o' → h'.get? b = some o') →
   h'.get? s.heap.objs.size = some { cls := .type "list", dict := none, data := .seq its.toArray c', slots := #[] } → EP X pins σ Q (.ref s.heap.objs.size) { s with heap := h' } := fun its r' hz h' c' kp e =>
  ⟨.ref s.heap.objs.size, _, I.laid (t' := s.toks) kp (Nat.le_refl _) (show bU X.prog X.w _ h' _ (.lst ys) from ⟨hz, its, c', r', e⟩), rfl, q _ (I.hok.fresh (Nat.le_refl _))⟩
 rcases hq with hq | hq
 ·obtain ⟨its, r', pl, hz⟩ := I.list hq
  have hlen := r'.length
  obtain ⟨o, ho, hc, n, hd⟩ := pl.isList
  exact call_list_seq p (.inl rfl) ho hc hd (fun h' c' kp e => fin its r' hz h' c' kp e) (by simp only [List.size_toArray] <;> omega)
 ·obtain ⟨its, r', pl, hz⟩ := I.tuple hq
  have hlen := r'.length
  obtain ⟨o, ho, hc, n, hd⟩ := pl
  exact call_list_seq p (.inr rfl) ho hc hd (fun h' c' kp e => fin its r' hz h' c' kp e) (by simp only [List.size_toArray] <;> omega)
theorem j6 : iU X (.type "tuple") (fun xs H Q => ∃ p ys, xs = [.ref p] ∧ ((SqL X.K H p ys ∧ ∀ l, H l = none → Q (.ref l) (upd H l (.tup ys))) ∨ (SqT X.K H p ys ∧ Q (.ref p) H))) := by
 intro pins s σ H xs us Q I r h
 obtain ⟨p, ys, rfl, h⟩ := h
 obtain ⟨u, rfl, rx⟩ := vals1 r
 cases rx
 rcases h with ⟨hq, q⟩ | ⟨hq, q⟩
 ·obtain ⟨its, r', pl, hz⟩ := I.list hq
  have hlen := r'.length
  refine call_tuple_list pl.isList (fun h' kp => ?_) (by simp only [List.size_toArray] <;> omega)
  have I1 : Inv X pins σ H { s with heap := h' } := I.kept (t' := s.toks) kp
  have I2 : Inv X pins σ (upd H h'.objs.size (.tup ys)) { s with heap := h'.push { cls := .type "tuple", data := .seq its.toArray } } :=
   I1.laid (t' := s.toks) (fun b o e => Heap.get?_push_of_some _ e) (Nat.le_refl _) (show bU X.prog X.w _ _ _ (.tup ys) from ⟨hz, its, r', IsTup.new _ _⟩)
  exact ⟨.ref h'.objs.size, _, I2, rfl, q _ (I1.hok.fresh (Nat.le_refl _))⟩
 ·obtain ⟨its, r', pl, hz⟩ := I.tuple hq
  exact call_tuple_same pl ⟨.ref p, H, I, rfl, q⟩
def tyV (K : PySem.W.Frag) (T : String) (x : V) (H : Hp) : Prop := match x with
 | .str _ => T = "str"
 | .int _ => T = "int"
 | .ref p => (T = "list" ∧ ∃ xs, SqL K H p xs) ∨ (T = "tuple" ∧ ∃ o, K.lookup p = some o ∧ o.cls = .type "tuple" ∧ o.dict = none) ∨
   (T = "dict" ∧ ((∃ kvs, H p = some (.dK kvs)) ∨ ∃ kvs, H p = some (.dT kvs))) ∨ (T = "set" ∧ ∃ S n, H p = some (.set S n))
 | _ => False
theorem Af {pins : List (Addr × Obj)} {σ : St} {H : Hp} {s : Shared} {T : String} {x : V} {v : Value} (I : Inv X pins σ H s) (r : RelV x v) (ty : tyV X.K T x H) :
  s.TypeIs v T ∧ ∀ a, v = .ref a → ∃ ob, s.heap.get? a = some ob ∧ ob.dict = none := by
 cases x with
 | str z =>
  obtain ⟨t, rfl⟩ := r
  cases (show T = "str" from ty)
  exact ⟨typeIs_str s z t, fun _ e => nomatch e⟩
 | int i =>
  obtain ⟨t, rfl⟩ := r
  cases (show T = "int" from ty)
  exact ⟨typeIs_int s i t, fun _ e => nomatch e⟩
 | ref p =>
  cases r
  rcases ty with ⟨rfl, xs, hq⟩ | ⟨rfl, o, hk, hc, hd⟩ | ⟨rfl, hk⟩ | ⟨rfl, S, n, hk⟩
  ·obtain ⟨its, _, pl, _⟩ := I.list hq
   refine ⟨pl.isList.typeIs, fun a e => ?_⟩
   cases e
   obtain ⟨o, n, e, c, hd, _⟩ := pl
   exact ⟨o, e, hd⟩
  ·refine ⟨⟨o, I.kIn p o hk, hc⟩, fun a e => ?_⟩
   cases e
   exact ⟨o, I.kIn _ o hk, hd⟩
  ·have z : ∃ o, s.heap.get? p = some o ∧ o.ExactDict := by
    rcases hk with ⟨kvs, hk⟩ | ⟨kvs, hk⟩
    ·obtain ⟨_, _, _, _, o, _, _, e, ex, _⟩ := I.hok p _ hk
     exact ⟨o, e, ex⟩
    ·obtain ⟨_, _, _, _, o, _, _, e, ex, _⟩ := I.hok p _ hk
     exact ⟨o, e, ex⟩
   obtain ⟨o, e, ex⟩ := z
   refine ⟨⟨o, e, ex.1⟩, fun a e2 => ?_⟩
   cases e2
   exact ⟨o, e, ex.2.1⟩
  ·obtain ⟨o, _, _, _, e, ex, _⟩ := I.hok p _ hk
   refine ⟨⟨o, e, ex.1⟩, fun a e2 => ?_⟩
   cases e2
   exact ⟨o, e, ex.2.1⟩
 | _ => exact False.elim ty
def G6 (K : PySem.W.Frag) (T : String) (r : V → List V → Hp → VK → Prop) (to : TE) : TE := fun σ H Q => to σ H fun x H1 => tyV K T x H1 ∧ r x [] H1 Q
def tBM (K : PySem.W.Frag) (T : String) (r : V → List V → Hp → VK → Prop) (to : TE) (t : TA) : TE := fun σ H Q => to σ H fun x H1 => tyV K T x H1 ∧ t σ H1 fun xs H2 => r x xs H2 Q
variable {o e : Expr} {es : List Expr} {to : TE} {t : TA} {name : Str} {apos cpos : Pos} {T id : String} {r : V → List V → Hp → VK → Prop}
theorem Aj (pa : PlainAttrs T) (slot : Slot T name id) (hty : typeOf (.builtin id) = pure (.type "method_descriptor")) (hm : MtR X id r) (ho : PE X o to)
  (hbase : attributeBase o name X.env (eval o X.env) = eval o X.env := by rfl) (hline : (apos.endLine == cpos.line) = true := by rfl) : PE X (.Call (.Attribute o name apos) [] [] cpos) (G6 X.K T r to) := by
 intro pins s σ H Q I h
 refine wpAny_Call_method0_late hbase hline (thn (ho pins s σ H _ I h) fun v s1 ⟨x, H1, I1, r1, ty, q1⟩ => ?_)
 obtain ⟨h1, h2⟩ := Af I1 r1 ty
 exact ⟨T, id, pa, slot, hty, h1, h2, Calls.callWith_builtin rfl (PySem.evalArgs_none (hm pins s1 σ H1 x [] v [] Q I1 r1 .nil q1))⟩
theorem jE (pa : PlainAttrs T) (slot : Slot T name id) (hty : typeOf (.builtin id) = pure (.type "method_descriptor")) (hm : MtR X id r) (ho : PE X o to) (ha : PA X (e :: es) t)
  (hbase : attributeBase o name X.env (eval o X.env) = eval o X.env := by rfl)
  (hfew : ((backTo cpos (starEach (e :: es) X.env)).all (fun x => !x.1) && (backToKw cpos (keywordEach [] X.env)).all (fun x => x.1.isSome)
   && decide ((e :: es).length + ([] : List Keyword).length + (if ([] : List Keyword).isEmpty then 0 else 1) < 30)) = true := by rfl)
  (hline : (apos.endLine == cpos.line) = true := by rfl) (hs : starEach (e :: es) X.env = (false, eval e X.env) :: starEach es X.env := by rfl) (hplain : (backTo cpos (starEach es X.env)).any (·.1) = false := by rfl) :
  PE X (.Call (.Attribute o name apos) (e :: es) [] cpos) (tBM X.K T r to t) := by
 intro pins s σ H Q I h
 refine wpAny_Call_method_late hbase hfew hline rfl (thn (ho pins s σ H _ I h) fun v s1 ⟨x, H1, I1, r1, ty, q1⟩ => ?_)
 obtain ⟨h1, h2⟩ := Af I1 r1 ty
 refine ⟨T, id, pa, slot, hty, h1, h2, ?_⟩
 have hA := ha cpos pins s1 σ H1 _ I1 q1
 rw [hs] at hA ⊢
 refine Calls.callWith_builtin (by show (false || (backTo cpos (starEach es X.env)).any (·.1)) = false; rw [hplain] <;> rfl) (Calls.evalArgs_plain ?_)
 exact thn hA fun us s2 ⟨vs, H2, I2, r2, q2⟩ => hm pins s2 σ H2 x vs v us Q I2 r1 r2 q2
/- xs.append(e), list.index on a module's tuple .. are MtR facts of 06m -/
end
end L2
namespace L2
open PySem PySem.Spec PyProof.Rows
def MtM (X : Cx) (id : String) (r : V → List V → Hp → VK → Prop) : Prop :=
 ∀ (pins : List (Addr × Obj)) (s : Shared) (σ : St) (H : Hp) (x : V) (xs : List V) (v : Value) (us : List Value) (Q : VK), Inv X pins σ H s → RelV x v → Vals xs us → r x xs H Q →
  wpAny (model X.prog X.w) X.A (call (.builtin id) (v :: us)) (EP X pins σ Q) X.xe s
theorem Vals.one : ∀ {x : V} {us : List Value}, Vals [x] us → ∃ u, us = [u] ∧ RelV x u
 | _, _, .cons r .nil => ⟨_, rfl, r⟩
theorem Vals.zero : ∀ {us : List Value}, Vals [] us → us = []
 | _, .nil => rfl
theorem Vals.dropLast {xs : List V} {us : List Value} (h : Vals xs us) : Vals xs.dropLast us.dropLast := by
 induction h with
 | nil => exact .nil
 | cons r t ih =>
  cases t with
  | nil => exact .nil
  | cons q t' => exact .cons r ih
theorem Vals.reverse {xs : List V} {us : List Value} (h : Vals xs us) : Vals xs.reverse us.reverse := by
 induction h with
 | nil => exact .nil
 | cons r t ih => rw [List.reverse_cons, List.reverse_cons]; exact Vals.append ih (.cons r .nil)
theorem Vals.rep {xs : List V} {us : List Value} (h : Vals xs us) : ∀ k : Nat, Vals (List.replicate k xs).flatten (List.replicate k us).flatten
 | 0 => .nil
 | k + 1 => by
  rw [List.replicate_succ, List.replicate_succ, List.flatten_cons, List.flatten_cons]
  exact Vals.append h (Vals.rep h k)
theorem xQ {α : Type} (l : List α) : l.eraseIdx (l.length - 1) = l.dropLast := by
 induction l with
 | nil => rfl
 | cons a r ih =>
  cases r with
  | nil => rfl
  | cons b r =>
   have e : (a :: b :: r).length - 1 = ((b :: r).length - 1) + 1 := by
    have h1 : (a :: b :: r).length = r.length + 2 := rfl
    have h2 : (b :: r).length = r.length + 1 := rfl
    omega
   rw [e, List.eraseIdx_cons_succ, ih]
   all_goals rfl
theorem foldl_rep (its : List Value) : ∀ (k : Nat) (acc : List Value),
  List.foldl (fun x1 x2 => x1 ++ x2) acc.toArray (List.replicate k its.toArray) = (acc ++ (List.replicate k its).flatten).toArray
 | 0, acc => by simp
 | k + 1, acc => by
  have e : acc.toArray ++ its.toArray = (acc ++ its).toArray := by simp
  have e2 : (acc ++ its) ++ (List.replicate k its).flatten = acc ++ (List.replicate (k + 1) its).flatten := by
   rw [List.replicate_succ, List.flatten_cons, List.append_assoc]
  rw [← e2, ← foldl_rep its k (acc ++ its), ← e, List.replicate_succ, List.foldl_cons]
section
variable {X : Cx} {pins : List (Addr × Obj)} {σ : St} {H : Hp} {s : Shared} {l b : Addr} {xs ys zs : List V}
theorem Inv.lset {its its' : List Value} {n : Nat} {f : Array Value → Array Value} {t' : Nat} (I : Inv X pins σ H s) (hH : H l = some (.lst xs))
  (e : s.heap.get? l = some { cls := .type "list", data := .seq its.toArray n }) (hf : f its.toArray = its'.toArray) (hv : Vals ys its') (hz : ys.length ≤ sizeLine) :
  Inv X pins σ (upd H l (.lst ys)) { s with heap := s.heap.update l (Obj.mapSeq f), toks := t' } := by
 have q := PySem.IsL.update e f
 rw [hf] at q
 refine I.write (x := l) (e := l) (by rw [hH]; exact trivial) (.inl rfl) (fun b' u hb hu => (Heap.get?_update_other s.heap (Obj.mapSeq f) (Ne.symm hb)).trans hu) ⟨_, q⟩ ?_
 exact ⟨hz, its', _, hv, q⟩
theorem Inv.lnew {its : List Value} {t' : Nat} (I : Inv X pins σ H s) (hv : Vals ys its) (hz : ys.length ≤ sizeLine) :
  Inv X pins σ (upd H s.heap.objs.size (.lst ys)) { s with heap := s.heap.push { cls := .type "list", data := .seq its.toArray }, toks := t' } :=
 I.laid (fun _ _ q => Heap.get?_push_of_some _ q) (Nat.le_refl _) ⟨hz, its, 0, hv, Heap.get?_push_size _ rfl⟩
theorem Inv.fresh (I : Inv X pins σ H s) : H s.heap.objs.size = none := I.hok.fresh (Nat.le_refl _)
theorem Inv.lstM (I : Inv X pins σ H s) (hH : H l = some (.lst xs)) : xs.length ≤ sizeLine ∧ ∃ (its : List Value) (n : Nat), Vals xs its ∧ xs.length = its.length ∧ s.heap.get? l = some { cls := .type "list", data := .seq its.toArray n } := by
 obtain ⟨z, its, n, r, e⟩ := I.hok l _ hH
 exact ⟨z, its, n, r, r.length, e⟩
theorem uG {n : Nat} (h : n ≤ sizeLine) : Builtin.List.listTooLong n = false := by
 unfold Builtin.List.listTooLong
 exact decide_eq_false (by omega)
end
section
variable {X : Cx}
def Cp : V → List V → Hp → VK → Prop := fun x vs H Q => ∃ l xs y, x = .ref l ∧ vs = [y] ∧ H l = some (.lst xs) ∧ xs.length < sizeLine ∧ Q .non (upd H l (.lst (xs ++ [y])))
theorem bY : MtM X "list.append" Cp := by
 intro pins s σ H x vs v us Q I rx rv h
 obtain ⟨l, xs, y, rfl, rfl, hH, hz, q⟩ := h
 cases rx
 obtain ⟨u, rfl, ru⟩ := rv.one
 obtain ⟨z, its, n, r, hl, e⟩ := I.lstM hH
 refine call_meets F.slot_list_append ⟨_, e, rfl⟩ F.entry_list_append (F.args_list_append_2 _ _) (PySem.list_append l its.toArray n u (by rw [List.size_toArray]; omega)) ⟨e, ?_⟩
 refine ⟨.non, _, I.lset (its' := its ++ [u]) hH e (by simp) (r.append (.cons ru .nil)) ?_, rfl, q⟩
 rw [List.length_append, List.length_singleton]
 omega
def CG : V → List V → Hp → VK → Prop := fun x vs H Q => ∃ l b xs zs, x = .ref l ∧ vs = [.ref b] ∧ H l = some (.lst xs) ∧ H b = some (.lst zs) ∧ xs.length + zs.length ≤ sizeLine ∧ Q .non (upd H l (.lst (xs ++ zs)))
theorem yV : MtM X "list.extend" CG := by
 intro pins s σ H x vs v us Q I rx rv h
 obtain ⟨l, b, xs, zs, rfl, rfl, hH, hB, hz, q⟩ := h
 cases rx
 obtain ⟨u, rfl, ru⟩ := rv.one
 cases ru
 obtain ⟨z, its, n, r, hl, e⟩ := I.lstM hH
 obtain ⟨z2, its2, n2, r2, hl2, e2⟩ := I.lstM hB
 have hsz : its.toArray.size + its2.toArray.size ≤ sizeLine := by rw [List.size_toArray, List.size_toArray]; omega
 have hlong : ¬ (!its.toArray.isEmpty && Builtin.List.listTooLong (its.toArray.size + its2.toArray.size)) = true := by
  rw [uG hsz, Bool.and_false]
  exact Bool.false_ne_true
 refine call_meets F.slot_list_extend ⟨_, e, rfl⟩ F.entry_list_extend (F.args_list_extend_2 _ _)
  (AutoSeq1.list_extend_list_list_0 l its.toArray n b its2.toArray n2 hlong (by rw [List.size_toArray]; omega) (by omega)) ⟨e, e2, ?_⟩
 refine ⟨.non, _, I.lset (its' := its ++ its2) hH e (by simp) (r.append r2) ?_, rfl, q⟩
 rw [List.length_append]
 omega
def G8 : V → List V → Hp → VK → Prop := fun x vs H Q => ∃ l xs y, x = .ref l ∧ vs = [] ∧ H l = some (.lst xs) ∧ xs[xs.length - 1]? = some y ∧ Q y (upd H l (.lst xs.dropLast))
theorem Eb : MtM X "list.pop" G8 := by
 intro pins s σ H x vs v us Q I rx rv h
 obtain ⟨l, xs, y, rfl, rfl, hH, hy, q⟩ := h
 cases rx
 have hus := rv.zero
 subst hus
 obtain ⟨z, its, n, r, hl, e⟩ := I.lstM hH
 obtain ⟨u, hu, ru⟩ := r.get hy
 have hy' : its.toArray[its.toArray.size - 1]? = some u := by
  show its.toArray[its.length - 1]? = some u
  rw [← Array.getElem?_toList, ← hl]
  exact hu
 refine call_meets F.slot_list_pop ⟨_, e, rfl⟩ F.entry_list_pop (F.args_list_pop_1 _) (MeetsSeq.list_pop_last l its.toArray n u hy' (by rw [List.size_toArray]; omega)) ⟨e, ?_⟩
 refine ⟨y, _, I.lset (its' := its.dropLast) hH e ?_ r.dropLast ?_, ru, q⟩
 ·show its.toArray.eraseIdxIfInBounds (its.toArray.size - 1) = its.dropLast.toArray
  rw [List.size_toArray, List.eraseIdxIfInBounds_toArray, xQ]
 ·rw [List.length_dropLast]
  omega
def Ef : V → List V → Hp → VK → Prop := fun x vs H Q => ∃ l xs, x = .ref l ∧ vs = [] ∧ H l = some (.lst xs) ∧ Q .non (upd H l (.lst []))
theorem Ar : MtM X "list.clear" Ef := by
 intro pins s σ H x vs v us Q I rx rv h
 obtain ⟨l, xs, rfl, rfl, hH, q⟩ := h
 cases rx
 have hus := rv.zero
 subst hus
 obtain ⟨z, its, n, r, hl, e⟩ := I.lstM hH
 refine call_meets F.slot_list_clear ⟨_, e, rfl⟩ F.entry_list_clear (F.args_list_clear_1 _) (AutoSeq1.list_clear_list_0 l its.toArray n (by rw [List.size_toArray]; omega)) ⟨e, ?_⟩
 exact ⟨.non, _, I.lset (its' := []) (ys := []) hH e rfl .nil (Nat.zero_le _), rfl, q⟩
def Hj : R2 := fun x y H Q => ∃ l b xs zs, x = .ref l ∧ y = .ref b ∧ H l = some (.lst xs) ∧ H b = some (.lst zs) ∧ xs.length + zs.length ≤ sizeLine ∧ ∀ p, H p = none → Q (.ref p) (upd H p (.lst (xs ++ zs)))
theorem kW : OpR X (binaryOp .Add) Hj := by
 intro pins s σ H x y v u Q I rx ry h
 obtain ⟨l, b, xs, zs, rfl, rfl, hH, hB, hz, q⟩ := h
 cases rx
 cases ry
 obtain ⟨z, its, n, r, hl, e⟩ := I.lstM hH
 obtain ⟨z2, its2, n2, r2, hl2, e2⟩ := I.lstM hB
 refine PySem.P.add_list e e2 ?_ (by rw [List.size_toArray, List.size_toArray]; omega)
 have ea : its.toArray ++ its2.toArray = (its ++ its2).toArray := by simp
 rw [ea]
 exact ⟨.ref _, _, I.lnew (t' := s.toks) (r.append r2) (by rw [List.length_append]; omega), rfl, q _ I.fresh⟩
def FZ : R2 := fun x y H Q => ∃ l k xs, x = .ref l ∧ y = .int k ∧ H l = some (.lst xs) ∧ -(2 ^ 63) ≤ k ∧ k < 2 ^ 63 ∧ xs.length * k.toNat ≤ sizeLine ∧
 ∀ p, H p = none → Q (.ref p) (upd H p (.lst (List.replicate k.toNat xs).flatten))
theorem len_rep {α : Type} (xs : List α) (k : Nat) : (List.replicate k xs).flatten.length = k * xs.length := by
 induction k with
 | zero => simp
 | succ k ih => rw [List.replicate_succ, List.flatten_cons, List.length_append, ih, Nat.succ_mul, Nat.add_comm]
theorem qg : OpR X (binaryOp .Mult) FZ := by
 intro pins s σ H x y v u Q I rx ry h
 obtain ⟨l, k, xs, rfl, rfl, hH, h1, h2, hz, q⟩ := h
 cases rx
 obtain ⟨t, rfl⟩ := ry
 obtain ⟨z, its, n, r, hl, e⟩ := I.lstM hH
 have hlen : its.toArray.size * k.toNat ≤ sizeLine := by rw [List.size_toArray, ← hl]; exact hz
 have hcap : ¬ its.toArray.size * k.toNat > (2 ^ 63 - 1) / 8 := by
  have : (sizeLine : Nat) ≤ (2 ^ 63 - 1) / 8 := by decide
  omega
 have hfit : ¬ (!Builtin.List.listFitsIndex k) = true := by
  rw [fitsIndex_both h1 h2]
  exact Bool.false_ne_true
 have hlong : ¬ Builtin.List.listTooLong (its.toArray.size * k.toNat) = true := by
  rw [uG hlen]
  exact Bool.false_ne_true
 have hnew : List.foldl (fun x1 x2 => x1 ++ x2) #[] (List.replicate (if its.toArray.isEmpty = true then 0 else k.toNat) its.toArray) = (List.replicate k.toNat its).flatten.toArray := by
  have f0 : ∀ m : Nat, List.foldl (fun x1 x2 => x1 ++ x2) #[] (List.replicate m its.toArray) = (List.replicate m its).flatten.toArray := fun m => by
   have := foldl_rep its m []
   rw [List.nil_append] at this
   exact this
  rw [f0]
  cases its with
  | nil => simp
  | cons a r' => rw [if_neg (by simp)]
 refine wpAny_binaryOp_repeat_ref (T := "list") (U := "int") (by decide) ⟨_, e, rfl⟩ (fun s' => typeIs_int s' k t) noFill_list_mul F.fills_int_mul F.slot_int_rmul repeat_list F.slot_int_index.lookup
  (call_meets F.slot_int_rmul (typeIs_int s k t) F.entry_int_rmul (F.args_int_rmul_2 _ _) (int___rmul___int_list k t l its.toArray n)
   ⟨e, rfl, ⟨_, e, rfl⟩, call_meets F.slot_list_mul ⟨_, e, rfl⟩ F.entry_list_mul (F.args_list_mul_2 _ _) (AutoListH.list___mul___list_int_3 l its.toArray n k t hfit hcap hlong) ⟨e, ?_⟩⟩)
 rw [hnew]
 exact ⟨.ref _, _, I.lnew (t' := s.toks) (r.rep k.toNat) (by rw [len_rep, Nat.mul_comm]; exact hz), rfl, q _ I.fresh⟩
end
section
variable {prog : Program} {w : World} {A : Around} {E : Value → Shared → Prop} {s : Shared}
end
section
variable {X : Cx}
end
end L2
namespace Att
open PySem PySem.W PySem.Calls PyProof.Rows
theorem pI {P : Params} {h : Heap} : ∀ (ns : List Int) (vs : List Value), WellAll P h vs (ns.map WData.int) → IntsAre vs ns := by
 intro ns
 induction ns with
 | nil =>
  intro vs w
  rw [List.map_nil] at w
  cases w
  exact .nil
 | cons n ns ih =>
  intro vs w
  rw [List.map_cons] at w
  cases w with
  | cons a b =>
   cases a
   exact .cons _ _ (ih _ b)
theorem yX {l : OpenLaw} {n : Nat} (hn : l.most = some n) {P : Params} {h : Heap} {args : List WData} {vals : List Value}
  (hpre : l.row.toRowW.claim.pre args = true) (hwl : WellAll P h vals args) :
  ∃ a vs ns, vals = [Value.ref a] ∧ args = [WData.list (ns.map WData.int)] ∧ h.get? a = some { cls := .type "list", data := .seq vs.toArray } ∧ IntsAre vs ns ∧ ns.length ≤ n := by
 have hsh : WShape.hasAll [] args [.list .int] = true := (pre_splitW hpre).1
 have hc : l.pre.holds [] { args := args } = true := (pre_splitW hpre).2
 obtain ⟨d, r, rfl, h1, h2⟩ := hasAllW_cons hsh
 obtain rfl := hasAllW_nil h2
 obtain ⟨xs, rfl, h3⟩ := hasW_list h1
 obtain ⟨ns, rfl⟩ := items_int h3
 have hlen : ns.length ≤ n := by
  unfold OpenLaw.pre at hc
  have h4 : (WTm.not (.lt (.lit (.int (n : Int))) (.len (.arg 0)))).holds [] { args := [.list (ns.map .int)] } = true := by
   have h4 := (holds_andW hc).1
   rw [hn] at h4
   exact h4
  have h5 := condW_of h4 (w_not (w_lt w_lit (w_len_list (w_arg rfl))))
  rw [List.length_map] at h5
  refine Nat.le_of_not_lt fun q => ?_
  have q' : (n : Int) < ((ns.length : Nat) : Int) := by omega
  first
   | (rw [decide_eq_true q'] at h5; exact absurd h5 (by decide))
   | (simp at h5; omega)
 cases hwl with
 | cons w1 w2 =>
  cases w2
  cases w1 with
  | list ho hall => exact ⟨_, _, ns, rfl, rfl, ho, pI ns _ hall, hlen⟩
theorem zH (l : OpenLaw) (args : List WData) : l.row.toRowW.claim.post args (.bool true) args = true :=
 postW_of (r := l.row.toRowW) (X := (true == true))
  (show WShape.has [] (.bool true) .bool = true by first | rfl | decide | simp [WShape.has, WShape.arms, WShape.armsAll])
  (show (WTm.eq .res (.lit (.bool true))).value [] { args := args, res := some (.bool true), after := args } = some (.bool (true == true)) from w_eq_bool (w_res rfl) w_lit) rfl
theorem attach_call {l : OpenLaw} {n : Nat} {q : Program} {loose : List Str} {XP : (Str → Option Value) → Heap → Prop} {YP : World → Heap → Prop} {d : DefRec}
  (hn : l.most = some n) (hdf : d.params.defaults = [])
  (call : ∀ (w : World) (s₀ s₁ : Shared) (mg mb : Str → Option Value) (fa : Addr) (o : Obj) (pm cd doc : Value) (a : Addr) (vs : List Value) (ns : List Int),
   Ground q loose [] XP w s₀ mg mb s₁.heap → YP w s₁.heap →
   s₁.heap.get? fa = some o → o.data = .func (docDef d.name d.params d.body d.scope pm cd doc) → s₁.heap.CodeRec cd d.name → mg d.name = some (.ref fa) →
   s₁.heap.get? a = some { cls := .type "list", data := .seq vs.toArray } → IntsAre vs ns → ns.length ≤ n → s₁.gens = #[] →
   codeAny (model l.prog w) callerA (.call (.ref fa) ⟨[.ref a], []⟩) (fun r s' => r = .ok (.ret (.bool true)) ∧ OldK s₁.heap s'.heap ∧ s'.os = s₁.os ∧ AllBare s'.gens) s₁) :
  WalkO q loose XP YP l.row.toRowW d [] (fun f vs => PySem.call f vs) := by
 intro w s₀ s₁ mg mb G Y fa o pm cd doc dV kV ho hd hcd hD hmg hg args vals as hpre hlay hrd hwl hlo
 obtain rfl : dV = .none := Dflts.none hD hdf
 obtain rfl : kV = .none := Dflts.noKw hD
 obtain ⟨a, vs, ns, rfl, rfl, hobj, hints, hlen⟩ := yX hn hpre hwl
 refine enter_call (codeAny_mono (call w s₀ s₁ mg mb fa o pm cd doc a vs ns G Y ho (fd_plain hd) hcd hmg hobj hints hlen hg) fun r s' hq => ?_)
 obtain ⟨rfl, h2, h3, h4⟩ := hq
 exact ⟨.inl ⟨.bool true, .bool true, [], rfl, fun _ => rfl, .bool true, zH l _, fun _ => ⟨List.Pairwise.nil, fun _ hm => (nomatch hm)⟩⟩, h2, h3, h4⟩
section
variable {prog : Program} {w : World} {A : Around} {E : Value → Shared → Prop} {s : Shared} {K : Frag}
end
end Att
namespace L2
open PySem PySem.Spec PyProof.Rows
theorem tD : ∀ {vs : List Value} {ns : List Int}, IntsAre vs ns → Vals (ns.map V.int) vs
 | _, _, .nil => .nil
 | _, _, .cons n t h => .cons ⟨t, rfl⟩ (tD h)
end L2
namespace L2
open PySem PySem.Spec PyProof.Rows
end L2
/- THE LAST THEOREM (shape; LID, My.* are yours):
   My.Adr: a structure of the addresses that your layer names (classes, functions); My.Txt K t: a structure (Prop) of the equations over K;
   My.txt_mk : {K} {implicit addresses ..} (e1 : nsIn K mainGlobals "law" = some (some (.ref f))) (e2 : K.lookup f = some ⟨oc, od, .func (fnOf "law" "law" params body scope dV kV doc pm an cdv ct), sl⟩) (e3 : codeIn K cdv "law" = true) .. : ∃ t, My.Txt K t
set_option maxRecDepth 100000 in
set_option maxHeartbeats 0 in
theorem PySem.Challenge.cw_LID_holds : PySem.Challenge.rw_LID.Holds := by
 w_on; o_law; k_head; (case hw => w_witness2)
 k_fill
 refine L2.walk_of (l := PySem.Challenge.rw_LID) (n := 63) (k := 40) (x := "script") (CX := fun w => ..) (sp := fun _ => My.sp_law) rfl (by decide) rfl ⟨rfl, by decide, by decide⟩ (fun w h Y => PySem.W.kIn_of Y) ?F ?S ?C
 case F =>
  intro w mg fa h KX G hmg
  have T : ∃ t, My.Txt (L2.KOf KX) t := by
   dsimp only [L2.KOf]                          -- K must stand as «<heap const> w.params» for k_is
   refine' My.txt_mk ?e1 ?e2 ?e3 ..
   (case e1 => PySem.W.k_is)                    -- in the order: a name -> its address -> its object -> its parts
   (case e2 => PySem.W.k_is)
   ..
  obtain ⟨t, T⟩ := T
  have e0 := hmg.symm.trans (PySem.W.mg_of KX G T.law)
  cases e0                                       -- fa is the law's own address
  exact ⟨_, fun s u => .of_eq rfl, fun base kb nb => My.law_fn T kb nb⟩     -- if «.of_eq rfl» comes too early: refine' ⟨_, ?b, fun base kb nb => My.law_fn T kb nb⟩; exact fun s u => .of_eq rfl
 case S => exact fun w H a ns hl hO hS => ..
 case C => exact ..
(the tactic k_is has no namespace: write k_is) -/
namespace L2
open PySem PySem.Spec PyProof.Rows
def inClass (s : Stmt) (j : Nat) : Stmt := match s with
 | .ClassDef _ _ _ body _ _ _ _ _ _ _ => body.getD j (.Pass ⟨0, 0, 0, 0⟩)
 | _ => .Pass ⟨0, 0, 0, 0⟩
def defArgs (s : Stmt) : Arguments := match s with
 | .FunctionDef _ a _ _ _ _ _ _ _ _ => a
 | _ => { posonlyargs := [], args := [], vararg := none, kwonlyargs := [], kw_defaults := [], kwarg := none, defaults := [] }
def defBody (s : Stmt) : List Stmt := match s with
 | .FunctionDef _ _ b _ _ _ _ _ _ _ => b
 | _ => []
def defScope (s : Stmt) : Scope := match s with
 | .FunctionDef _ _ _ _ _ _ sc _ _ _ => sc
 | _ => { kind := .function, names := [], isGenerator := false, isCoroutine := false }
abbrev CX0 : CXT := fun _ _ _ _ _ _ => False
abbrev E0 : XK := fun _ _ _ => False
theorem aH {X : Cx} : gJ CX0 X E0 := fun _ _ _ _ _ _ _ h => h.elim
structure Fun (K : PySem.W.Frag) (x qual : Str) (st : Stmt) (f : Addr) (fd : FuncData) : Prop where
 ex : ∃ (oc : Value) (od : Option Addr) (kV doc pm : Value) (an : Option Addr) (cdv ct : Value) (osl : Array (Option Value)),
  fd = PySem.W.fnOf x qual (defArgs st) (defBody st) (defScope st) .none kV doc pm an cdv ct ∧ K.lookup f = some ⟨oc, od, .func fd, osl⟩ ∧ PySem.W.codeIn K cdv qual = true
 kp : PySem.W.keepIn K (.ref f) = true
section
variable {P : Program} {w : World} {K : PySem.W.Frag} {mg : Str → Option Value} {base : Heap}
theorem Fun.ok {x qual : Str} {st : Stmt} {f : Addr} {fd : FuncData} {N ps : List Str} {k : Nat} {sp : Sp} (F : Fun K x qual st f fd) (S : aA N ps (defScope st)) (len : ∀ vs H Q E, sp vs H Q E → vs.length = ps.length)
  (hbody : ∀ (cdv : Value) (A : Around) (outer : List Env) (s : Shared) (H : Hp) (vs : List V) (Q : VK) (E : XK), cz k (A.deeper (envOfC qual (defScope st) s.heap.objs.size f cdv)) → sp vs H Q E →
   ∃ t, PSs (fG CX0 P w K mg base N qual (defScope st) f cdv A outer s H E).nox (defBody st) t ∧ t { nx := fun _ H' => Q .non H', rt := Q } (start N vs) H) : aU P w K mg base CX0 (k + 1) f fd ps sp := by
 obtain ⟨oc, od, kV, doc, pm, an, cdv, ct, osl, rfl, lk, hcd⟩ := F.ex
 refine Dy lk hcd S len fun A outer s H vs Q E hr hsp => ?_
 obtain ⟨t, h, q⟩ := hbody cdv A outer s H vs Q E hr hsp
 exact ⟨t, h.nox, q⟩
theorem Fun.binds {x qual : Str} {st : Stmt} {f : Addr} {fd : FuncData} {ps : List Str} (F : Fun K x qual st f fd)
  (h : ∀ (kV doc pm : Value) (an : Option Addr) (cdv ct : Value) (us : List Value), us.length = ps.length → bindArgs (PySem.W.fnOf x qual (defArgs st) (defBody st) (defScope st) .none kV doc pm an cdv ct) ⟨us, []⟩ = pure (ps.zip us)) : Binds K fd ps [] := by
 obtain ⟨oc, od, kV, doc, pm, an, cdv, ct, osl, rfl, lk, hcd⟩ := F.ex
 exact .all (h kV doc pm an cdv ct)
theorem ug {x qual : Str} {st : Stmt} {f : Addr} {oc : Value} {od an : Option Addr} {osl : Array (Option Value)} {kV doc pm cdv ct : Value} (l : K.lookup f = some ⟨oc, od, .func (PySem.W.fnOf x qual (defArgs st) (defBody st) (defScope st) .none kV doc pm an cdv ct), osl⟩)
  (c : PySem.W.codeIn K cdv qual = true) (k : PySem.W.keepIn K (.ref f) = true) : Fun K x qual st f (PySem.W.fnOf x qual (defArgs st) (defBody st) (defScope st) .none kV doc pm an cdv ct) := ⟨⟨oc, od, kV, doc, pm, an, cdv, ct, osl, rfl, l, c⟩, k⟩
end
section
variable {X : Cx}
theorem pv (i : Nat) {x : Str} {pos : Pos} (hN : X.N[i]? = some x := by rfl) (hv : Vis X.env.scope x := by first | exact Or.inl rfl | exact Or.inr (Or.inl rfl) | exact Or.inr (Or.inr rfl)) (hd : (x == ("__debug__" : Str)) = false := by decide)
  (hcd : (x == ("__classdict__" : Str)) = false := by decide) : PE X (.Name x pos) (DQ i) := wF hN hv hd hcd
end
theorem cI {A B : Prop} (h : B) : if false = true then A else B := by
 rw [if_neg Bool.false_ne_true]
 exact h
theorem fu {A B : Prop} (h : A) : if true = true then A else B := by
 rw [if_pos rfl]
 exact h
theorem bI {c A B : Prop} [Decidable c] (h1 : c → A) (h2 : ¬ c → B) : if c then A else B := by
 by_cases h : c
 ·rw [if_pos h]
  exact h1 h
 ·rw [if_neg h]
  exact h2 h
theorem vh {c A B : Prop} [Decidable c] (hc : c) (h : B) : if (!decide c) = true then A else B := by
 rw [decide_eq_true hc]
 exact cI h
def aR (H H' : Hp) : Prop := ∀ b o, H b = some o → H' b = some o
theorem aR.refl (H : Hp) : aR H H := fun _ _ h => h
theorem aR.trans {H H1 H2 : Hp} (a : aR H H1) (b : aR H1 H2) : aR H H2 := fun c o h => b c o (a c o h)
theorem aR.free {H H' : Hp} (e : aR H H') {l : Addr} (h : H' l = Option.none) : H l = Option.none := by
 cases q : H l with
 | none => rfl
 | some o =>
  rw [e l o q] at h
  cases h
theorem aR.seq {K : PySem.W.Frag} {H H' : Hp} {a : Addr} {xs : List V} (e : aR H H') (h : SqL K H a xs) : SqL K H' a xs := by
 rcases h with (h | ⟨o, h⟩) | h
 ·exact .inl (.inl (e _ _ h))
 ·exact .inl (.inr ⟨o, e _ _ h⟩)
 ·exact .inr h
end L2
set_option maxHeartbeats 4000000
set_option Elab.async false
set_option linter.all false
set_option maxRecDepth 100000
set_option maxHeartbeats 4000000
namespace Tw
open PySem L2
theorem az {H : Hp} {p : Addr} (h : H p = none) (o : HO) : aR H (upd H p o) := fun b u q => by rw [aC (aJ q h)]; exact q
theorem bW {H H' : Hp} {p : Addr} (s : aR H H') (h : H p = none) (o : HO) : aR H (upd H' p o) := fun b u q => by rw [aC (aJ q h)]; exact s b u q
theorem small {n : Nat} (h : n ≤ 4097) : n < sizeLine := Nat.lt_of_le_of_lt h (by decide)
theorem bH : bootBuiltins "len" = some (.builtin "len") := by decide +kernel
theorem Ba : bootBuiltins "sum" = some (.builtin "sum") := by decide +kernel
theorem dJ : bootBuiltins "isinstance" = some (.builtin "isinstance") := by decide +kernel
theorem xM : bootBuiltins "min" = some (.builtin "min") := by decide +kernel
theorem Fe : bootBuiltins "max" = some (.builtin "max") := by decide +kernel
theorem Ea : bootBuiltins "int" = some (.type "int") := by decide +kernel
theorem Cv : bootBuiltins "bool" = some (.type "bool") := by decide +kernel
theorem uy : bootBuiltins "list" = some (.type "list") := by decide +kernel
theorem vC : bootBuiltins "tuple" = some (.type "tuple") := by decide +kernel
theorem jg : bootBuiltins "reversed" = some (.type "reversed") := by decide +kernel
theorem Fg : bootBuiltins "zip" = some (.type "zip") := by decide +kernel
theorem Cm (ns : List Int) (i j : Nat) : jn (ns.map V.int) (some (i : Int)) (some (j : Int)) = ((ns.drop i).take (j - i)).map V.int := by
 unfold jn
 rw [HT.pN, HT.pN, List.map_take, List.map_drop, List.length_map]
 rcases Nat.lt_or_ge ns.length i with h | h
 ·rw [Nat.min_eq_right (Nat.le_of_lt h), List.drop_of_length_le (by simp), List.drop_of_length_le (by simp; omega)]
  simp
 ·rw [Nat.min_eq_left h]
  rcases Nat.lt_or_ge ns.length j with q | q
  ·rw [Nat.min_eq_right (Nat.le_of_lt q), List.take_of_length_le (by simp), List.take_of_length_le (by simp; omega)]
  ·rw [Nat.min_eq_left q]
theorem tX (ns : List Int) (j : Nat) : jn (ns.map V.int) none (some (j : Int)) = (ns.take j).map V.int := by
 unfold jn
 rw [HT.pN, HT.u5, List.map_take, List.length_map, List.drop_zero, Nat.sub_zero]
 rcases Nat.lt_or_ge ns.length j with q | q
 ·rw [Nat.min_eq_right (Nat.le_of_lt q), List.take_of_length_le (by simp), List.take_of_length_le (by simp; omega)]
 ·rw [Nat.min_eq_left q]
theorem z7 (ns : List Int) (i : Nat) : jn (ns.map V.int) (some (i : Int)) none = (ns.drop i).map V.int := by
 unfold jn
 rw [HT.pN, HT.u5, List.map_drop, List.length_map]
 rcases Nat.lt_or_ge ns.length i with h | h
 ·rw [Nat.min_eq_right (Nat.le_of_lt h), List.drop_of_length_le (by simp), List.drop_of_length_le (by simp; omega)]
  simp
 ·rw [Nat.min_eq_left h, List.take_of_length_le (by simp)]
theorem int_at {ns : List Int} {i : Nat} {x : V} (h : (ns.map V.int)[i]? = some x) : ∃ c, ns[i]? = some c ∧ x = .int c := by
 rw [List.getElem?_map] at h
 cases e : ns[i]? with
 | none => rw [e] at h; cases h
 | some c => rw [e] at h; exact ⟨c, rfl, (Option.some.inj h).symm⟩
theorem jW {ns : List Int} {i : Nat} {c : Int} (h : ns[i]? = some c) : atI (ns.map V.int) (i : Int) = some (.int c) := yd (by rw [List.getElem?_map, h]; rfl)
structure Df (K : PySem.W.Frag) (mg : Str → Option Value) (x : Str) (st : Stmt) (ps : List Str) (f : Addr) (fd : FuncData) : Prop where
 F : Fun K x x st f fd
 b : Binds K fd ps []
 m : mg x = some (.ref f)
end Tw
set_option Elab.async false
set_option linter.all false
set_option maxRecDepth 100000
set_option maxHeartbeats 4000000
namespace Tw
def bit (b : Int) (k : Nat) : Int := b / 2 ^ k % 2
def bits (b : Int) (n : Nat) : List Int := (List.range n).map (bit b)
def ones (b : Int) (n : Nat) : Int := (bits b n).sum
theorem dN (b : Int) (n : Nat) : (bits b n).length = n := by simp [bits]
theorem yW (b : Int) (n : Nat) : bits b (n + 1) = bits b n ++ [bit b n] := by simp [bits, List.range_succ]
theorem m7 (b : Int) : ones b 0 = 0 := rfl
theorem dw (b : Int) (n : Nat) : ones b (n + 1) = ones b n + bit b n := by
 unfold ones; rw [yW]; simp
theorem qZ {b : Int} {n k : Nat} (h : k < n) : (bits b n)[k]? = some (bit b k) := by simp [bits, h]
theorem zz (b : Int) (k : Nat) : bit b k = 0 ∨ bit b k = 1 := by
 unfold bit
 omega
end Tw
set_option Elab.async false
set_option linter.all false
set_option maxRecDepth 100000
set_option maxHeartbeats 4000000
namespace Tw
def aP (ns : List Int) : Prop := ∀ b ∈ ns, b = 0 ∨ b = 1
theorem aP.tail {b : Int} {ns : List Int} (h : aP (b :: ns)) : aP ns := fun x hx => h x (.tail _ hx)
theorem aP.head {b : Int} {ns : List Int} (h : aP (b :: ns)) : b = 0 ∨ b = 1 := h b (.head _)
theorem aP.take {ns : List Int} (h : aP ns) (k : Nat) : aP (ns.take k) := fun x hx => h x (List.mem_of_mem_take hx)
theorem aP.drop {ns : List Int} (h : aP ns) (k : Nat) : aP (ns.drop k) := fun x hx => h x (List.mem_of_mem_drop hx)
def blk : List Int → Int
 | [] => 0
 | b :: r => 2 * blk r + b
theorem qi : ∀ {ns : List Int}, aP ns → 0 ≤ blk ns
 | [], _ => by simp [blk]
 | b :: r, h => by
  have := qi h.tail
  have := h.head
  simp only [blk]
  omega
theorem vN (b : Int) : bit b 0 = b % 2 := by simp [bit]
theorem rZ (b : Int) (k : Nat) : bit b (k + 1) = bit (b / 2) k := by
 unfold bit
 rw [Int.ediv_ediv_of_nonneg (by decide), ← Int.pow_succ']
theorem pK : ∀ {ns : List Int}, aP ns → ∀ k : Nat, bit (blk ns) k = (ns[k]?).getD 0
 | [], _, k => by simp [blk, bit]
 | b :: r, h, 0 => by
  have := h.head
  rw [vN]
  simp only [blk, List.getElem?_cons_zero, Option.getD_some]
  omega
 | b :: r, h, k + 1 => by
  have hb := h.head
  rw [rZ, List.getElem?_cons_succ]
  have e : blk (b :: r) / 2 = blk r := by simp only [blk]; omega
  rw [e]
  exact pK h.tail k
theorem jm {ns : List Int} (h : aP ns) : ∀ k : Nat, ones (blk ns) k = (ns.take k).sum
 | 0 => by simp [m7]
 | k + 1 => by
  rw [dw, jm h k, pK h]
  by_cases hk : k < ns.length
  ·rw [List.take_add_one, List.getElem?_eq_getElem hk]
   simp only [Option.toList_some, List.sum_append, List.sum_cons, List.sum_nil, Option.getD_some]
   omega
  ·rw [List.take_of_length_le (by omega), List.take_of_length_le (by omega), List.getElem?_eq_none (by omega)]
   simp
def many (n : Nat) : Nat := (n + 31) / 32
def bA (ns : List Int) (j : Nat) : Int := blk ((ns.drop (32 * j)).take 32)
def cW (ns : List Int) : List Int := (List.range (many ns.length)).map (bA ns)
theorem eX (ns : List Int) : (cW ns).length = many ns.length := by simp [cW]
theorem cV {ns : List Int} {j : Nat} (h : j < many ns.length) : (cW ns)[j]? = some (bA ns j) := by simp [cW, h]
theorem lV {ns : List Int} (h : aP ns) (j : Nat) : aP ((ns.drop (32 * j)).take 32) := (h.drop _).take _
theorem bit_at {ns : List Int} (h : aP ns) (j k : Nat) (hk : k < 32) : bit (bA ns j) k = (ns[32 * j + k]?).getD 0 := by
 unfold bA
 rw [pK (lV h j), List.getElem?_take_of_lt hk, List.getElem?_drop]
def net (b : Int) (k : Nat) : Int := 2 * ones b k - k
theorem Ae (b : Int) : net b 0 = 0 := by simp [net, m7]
theorem uN (b : Int) (k : Nat) : net b (k + 1) = net b k + 2 * bit b k - 1 := by
 unfold net
 rw [dw]
 omega
def nets (b : Int) (n : Nat) : List Int := (List.range n).map fun k => net b (k + 1)
theorem cT (b : Int) (n : Nat) : (nets b n).length = n := by simp [nets]
theorem zJ (b : Int) (n : Nat) : nets b (n + 1) = nets b n ++ [net b (n + 1)] := by simp [nets, List.range_succ]
theorem vG {b : Int} {n k : Nat} (h : k < n) : (nets b n)[k]? = some (net b (k + 1)) := by simp [nets, h]
theorem uK {b : Int} {n : Nat} {x : Int} : x ∈ nets b n ↔ ∃ k, 1 ≤ k ∧ k ≤ n ∧ x = net b k := by
 unfold nets
 rw [List.mem_map]
 constructor
 ·rintro ⟨k, hk, rfl⟩
  exact ⟨k + 1, by omega, by have := List.mem_range.mp hk; omega, rfl⟩
 ·rintro ⟨k, h1, h2, rfl⟩
  refine ⟨k - 1, List.mem_range.mpr (by omega), ?_⟩
  have e : k - 1 + 1 = k := by omega
  rw [e]
def ht (ns : List Int) (k : Nat) : Int := 2 * (ns.take k).sum - k
theorem eU (ns : List Int) : ht ns 0 = 0 := by simp [ht]
theorem cJ {ns : List Int} {k : Nat} {b : Int} (h : ns[k]? = some b) : ht ns (k + 1) = ht ns k + 2 * b - 1 := by
 unfold ht
 rw [List.take_add_one, h]
 simp only [Option.toList_some, List.sum_append, List.sum_cons, List.sum_nil]
 omega
theorem lK (ns : List Int) (a k : Nat) : (ns.take (a + k)).sum = (ns.take a).sum + ((ns.drop a).take k).sum := by
 rw [List.take_add, List.sum_append]
theorem lN {ns : List Int} (h : aP ns) (j k : Nat) (hk : k ≤ 32) : ht ns (32 * j + k) = ht ns (32 * j) + net (bA ns j) k := by
 unfold ht net bA
 rw [jm (lV h j), lK, List.take_take, Nat.min_eq_left hk]
 omega
theorem xm {ns : List Int} (h : aP ns) (j k : Nat) (hk : k ≤ 32) : ones (bA ns j) k = ((ns.drop (32 * j)).take k).sum := by
 unfold bA
 rw [jm (lV h j), List.take_take, Nat.min_eq_left hk]
theorem eZ {ns : List Int} (h : aP ns) (j k : Nat) (hk : k ≤ 32) : (ns.take (32 * j)).sum + ones (bA ns j) k = (ns.take (32 * j + k)).sum := by
 rw [xm h j k hk, lK]
def Due (b : Int) (st sp : Nat) (g : Int) (k : Nat) : Prop := st < k ∧ k ≤ sp ∧ net b k ≤ g
theorem zy (b : Int) (n : Nat) : bits b (n + 1) = b % 2 :: bits (b / 2) n := by
 unfold bits
 rw [List.range_succ_eq_map, List.map_cons, vN, List.map_map]
 congr 1
 refine List.map_congr_left fun k _ => ?_
 exact rZ b k
theorem vZ : ∀ (n : Nat) (b : Int), 0 ≤ b → b < 2 ^ n → blk (bits b n) = b
 | 0, b, h0, h1 => by
  have : b = 0 := by simp at h1; omega
  subst this
  rfl
 | n + 1, b, h0, h1 => by
  rw [Int.pow_succ] at h1
  rw [zy, blk, vZ n (b / 2) (by omega) (by omega)]
  omega
theorem vL (b : Int) (n : Nat) : aP (bits b n) := fun x hx => by
 obtain ⟨k, _, rfl⟩ := List.mem_map.mp hx
 exact zz b k
end Tw
set_option Elab.async false
set_option linter.all false
set_option maxRecDepth 100000
set_option maxHeartbeats 4000000
namespace L2
open PySem PySem.Spec PyProof.Rows
section
variable {X : Cx} {pins : List (Addr × Obj)} {σ : St} {H : Hp} {s : Shared} {h' : Heap}
theorem Inv.turn2 {e it p : Addr} {o : HO} {t' : Nat} (I : Inv X pins σ H s) (fe : iD X pins H e) (fi : iD X pins H it)
  (k : ∀ b u, b ≠ e → b ≠ it → s.heap.get? b = some u → h'.get? b = some u) (hp : s.heap.objs.size ≤ p)
  (new : bU X.prog X.w (upd H p o) h' p o) : Inv X pins σ (upd H p o) { s with heap := h', toks := t' } := by
 have hn := I.hok.fresh hp
 have ne : ∀ b u, H b = some u → b ≠ e := fun b u q z => by rw [z, fe.1] at q; cases q
 have ni : ∀ b u, H b = some u → b ≠ it := fun b u q z => by rw [z, fi.1] at q; cases q
 have up : ∀ b u, H b = some u → upd H p o b = some u := fun b u q => by rw [aC (aJ q hn)]; exact q
 have k' : ∀ b u, b ∉ [e, it] → s.heap.get? b = some u → h'.get? b = some u := fun b u hb q => k b u (fun z => hb (by simp [z])) (fun z => hb (by simp [z])) q
 refine I.step (g' := s.gens) (d' := s.drawn) (ch := [e, it]) (fun b hb => ?_) (fun b u _ _ hx q _ => k' b u hx q) (fun b u _ _ hx q _ => ⟨u.slots, k' b u hx q⟩)
  (fun b u _ q n => by rw [aC (Nat.ne_of_lt (Nat.lt_of_lt_of_le (Heap.lt_size q) hp))]; exact n) (fun b u hx q => ⟨u, k' b u hx q⟩)
  (fun b xs q => up _ _ q) (fun b ob u q => up _ _ q) (fun b ps q => ⟨#[], by rw [up _ _ q]; simp⟩) (fun m hm => ?_) (fun b u q => ?_) I.bare
 ·rcases List.mem_cons.mp hb with rfl | hb
  ·exact ⟨fe.2.2.2.1, fe.2.1, fe.2.2.2.2.1, fe.2.2.2.2.2⟩
  ·rw [List.mem_singleton.mp hb]
   exact ⟨fi.2.2.2.1, fi.2.1, fi.2.2.2.2.1, fi.2.2.2.2.2⟩
 ·obtain ⟨ob, es, ep, ho, r⟩ := hm
  exact ⟨ob, es, ep, k _ ob (Ne.symm fe.2.1) (Ne.symm fi.2.1) ho, r⟩
 ·by_cases hb : b = p
  ·subst hb
   rw [ao] at q
   cases q
   exact new
  ·rw [aC hb] at q
   refine (I.hok b u q).stay (fun c v hc r => k c v ?_ ?_ r) (fun c r => up _ _ r) fun c xs r => up _ _ r
   ·rcases hc with rfl | z
    ·exact ne _ _ q
    ·exact ne _ _ z
   ·rcases hc with rfl | z
    ·exact ni _ _ q
    ·exact ni _ _ z
end
def Ite (K : PySem.W.Frag) (a : Addr) : It :=
  ⟨fun i H => ∃ xs x, SqL K H a xs ∧ xs[i]? = some x, fun i H x H' => ∃ p y, H p = none ∧ x = .ref p ∧ H' = upd H p (.tup [.int (i : Int), y]) ∧ ∀ xs, SqL K H a xs → xs[i]? = some y,
   fun i H => ∃ xs, SqL K H a xs ∧ xs.length ≤ i⟩
theorem zB {P : Program} {w : World} {K : PySem.W.Frag} {elts : List Expr} {x1 : Nat} {tpos : Pos} (a e it : Addr) (hne : e ≠ it) :
  Turn P w K (.Tuple elts x1 tpos) (Ite K a) [e, it] e (fun i h => (∃ old, IsEnum h e it (i : Nat) old) ∧ h.IsListIter it a i) where
 mem := by simp
 obj := fun i h st b hb => by
  obtain ⟨⟨old, he⟩, o, ho, hc, hd⟩ := st
  rcases List.mem_cons.mp hb with rfl | hb
  ·exact ⟨_, he, fun v z => by cases z⟩
  ·rw [List.mem_singleton.mp hb]
   exact ⟨o, ho, fun v z => by rw [hd] at z; cases z⟩
 keep := fun i h h' st k => by
  obtain ⟨⟨old, he⟩, st⟩ := st
  exact ⟨⟨old, k e (by simp) _ he⟩, st.at fun o q => k it (by simp) o q⟩
 item := by
  intro X hP hw hK hc i pins s σ H E I hf st hg
  subst hP hw hK
  obtain ⟨xs, x, hq, hx⟩ := hg
  obtain ⟨its, rv, p, hz⟩ := I.list hq
  obtain ⟨u, hu, ru⟩ := rv.get hx
  obtain ⟨⟨old, he⟩, st⟩ := st
  refine wpAny_pyNext_enum_item he st p.isList (x := u) (by simpa using hu) hne fun h1 heo hit1 ht1 hz1 hk1 => ?_
  refine ⟨_, rfl, wpAny_letOwnedTupleGo_enum heo fun h2 he2 hs2 => ?_⟩
  have ee : e < s.heap.objs.size := Heap.lt_size he
  have g2 : h2.get? s.heap.objs.size = some { cls := .type "tuple", data := .seq #[.int (i : Int) s.toks, u] } := (hs2.2 _ (Nat.ne_of_gt ee)).trans ht1
  have kk : ∀ b o, b ≠ e → b ≠ it → s.heap.get? b = some o → h2.get? b = some o := fun b o h3 h4 q => (hs2.2 b h3).trans (hk1 b o h3 h4 q)
  have new : bU X.prog X.w (upd H s.heap.objs.size (.tup [.int (i : Int), x])) h2 s.heap.objs.size (.tup [.int (i : Int), x]) :=
   ⟨(by show 2 ≤ sizeLine; decide), [.int (i : Int) s.toks, u], .cons ⟨_, rfl⟩ (.cons ru .nil), _, g2, rfl, _, rfl⟩
  have I2 := I.turn2 (h' := h2) (t' := s.toks + 1) (hf e (by simp)) (hf it (by simp)) kk (Nat.le_refl _) new
  have hn : H s.heap.objs.size = none := I.hok.fresh (Nat.le_refl _)
  refine ⟨.ref s.heap.objs.size, _, I2, rfl, ⟨_, x, hn, rfl, rfl, fun ys hy => by rw [I.list_inj hy hq]; exact hx⟩, ⟨⟨u, by simpa using he2⟩, hit1.extBut hs2.extBut (Ne.symm hne)⟩, fun b hb => ?_⟩
  have hbn := (hf b hb).1
  have hbs : b ≠ s.heap.objs.size := by
   obtain ⟨o, hio, _⟩ := st
   rcases List.mem_cons.mp hb with rfl | hb
   ·exact Nat.ne_of_lt ee
   ·rw [List.mem_singleton.mp hb]
    exact Nat.ne_of_lt (Heap.lt_size hio)
  rw [aC hbs]
  exact hbn
 done := by
  intro X hP hw hK hc i pins s σ H E I hf st hg
  subst hP hw hK
  obtain ⟨xs, hq, hx⟩ := hg
  obtain ⟨its, rv, p, hz⟩ := I.list hq
  obtain ⟨f0, f1, f2, f3, f4, f5⟩ := hf it (by simp)
  obtain ⟨⟨old, he⟩, st⟩ := st
  have hl := rv.length
  exact wpAny_pyNext_enum_end (I.ok.hd hc) he st p.isList (by simp; omega) fun h' eb => ⟨rfl, I.turned (t' := s.toks) (fun b o hb q => eb b o hb q) f0 f1 f3 f4 f5⟩
 self := fun _ _ _ _ _ st h => by
  obtain ⟨⟨old, he⟩, _⟩ := st
  exact wpAny_pyIter_enum he h
section
variable {X : Cx}
def FW (K : PySem.W.Frag) (ta : TA) : TI := fun σ H R => ta σ H fun vs H1 => ∃ a xs, vs = [.ref a] ∧ SqL K H1 a xs ∧ R (Ite K a) H1
theorem tR {a : Expr} {ta : TA} {p pos : Pos} {elts : List Expr} {x1 : Nat} {tpos : Pos} (hg : Gl X "enumerate") (hm : X.mg "enumerate" = none) (ha : PA X [a] ta) (hs : starEach [a] X.env = [(false, eval a X.env)] := by rfl) :
  PI X (.Tuple elts x1 tpos) (.Call (.Name "enumerate" p) [a] [] pos) (FW X.K ta) := by
 intro pins s σ H R I h
 refine Call_ (c7 I hg hm boot_enumerate (PyProof.Rows.callWith_type1 (thn (ha pos pins s σ H _ I h) fun us s1 ⟨vs, H1, I1, r1, q1⟩ => ?_) hs rfl))
 obtain ⟨b, xs, e, hq, q⟩ := q1
 subst e
 obtain ⟨u, rfl, rx⟩ := vals1 r1
 cases rx
 obtain ⟨its, rv, pl, hz⟩ := I1.list hq
 refine call_enumerate_list pl.isList fun h' he hit hsz hk => ?_
 refine wpAny_pyIter_enum he ?_
 have I2 : Inv X pins σ H1 { s1 with heap := h' } := I1.kept (t' := s1.toks) hk
 have ne : s1.heap.objs.size + 1 ≠ s1.heap.objs.size := by omega
 refine ⟨s1.heap.objs.size + 1, [s1.heap.objs.size + 1, s1.heap.objs.size], _, Ite X.K b, H1, rfl, I2, zB b _ _ ne, ⟨⟨_, he⟩, hit⟩, fun c hc => ?_, q⟩
 have hle : s1.heap.objs.size ≤ c := by
  rcases List.mem_cons.mp hc with rfl | hc
  ·omega
  ·rw [List.mem_singleton.mp hc]
   omega
 exact I1.fpOk hle (I1.hok.fresh hle)
end
theorem u0 {K : PySem.W.Frag} {a : Addr} {xs : List V} {g : TG} {tb : TS} {D : Ends} {σ : St} {H : Hp} (Pv : Nat → St → Hp → Prop) (h0 : Pv 0 σ H) (hl : ∀ i σ H, i ≤ xs.length → Pv i σ H → SqL K H a xs)
  (hs : ∀ i x σ H p, xs[i]? = some x → Pv i σ H → H p = none → g (.ref p) σ (upd H p (.tup [.int (i : Int), x])) fun σ2 H2 => tb { D with nx := Pv (i + 1), ct := Pv (i + 1), bk := D.nx } σ2 H2) (hd : ∀ σ H, Pv xs.length σ H → D.nx σ H) :
  ∃ W : Nat → Nat → St → Hp → Prop, (∃ m, W 0 m σ H) ∧ ∀ i m σ H, W i m σ H →
   ((Ite K a).stop i H ∧ D.nx σ H) ∨ ((Ite K a).go i H ∧ ∃ N : St → Hp → Prop, (∀ σ' H', N σ' H' → ∃ m', m' < m ∧ W (i + 1) m' σ' H') ∧ ∀ x H', (Ite K a).yld i H x H' → g x σ H' fun σ2 H2 => tb { D with nx := N, ct := N, bk := D.nx } σ2 H2) := by
 refine ⟨fun i m σ H => m = xs.length - i ∧ i ≤ xs.length ∧ Pv i σ H, ⟨xs.length, by simp, Nat.zero_le _, h0⟩, ?_⟩
 rintro i m σ H ⟨rfl, hi, p⟩
 have q := hl i σ H hi p
 by_cases hlt : i < xs.length
 ·refine .inr ⟨⟨xs, xs[i], q, by simp [hlt]⟩, Pv (i + 1), fun σ' H' p' => ⟨xs.length - (i + 1), by omega, rfl, hlt, p'⟩, fun x H' y => ?_⟩
  obtain ⟨c, y, hn, e1, e2, hy⟩ := y
  subst e1 e2
  exact hs i y σ H c (hy xs q) p hn
 ·have e : i = xs.length := by omega
  subst e
  exact .inl ⟨⟨xs, q, Nat.le_refl _⟩, hd σ H p⟩
section
variable {X : Cx}
theorem vf (hc : X.calm = true) : iU X (.builtin "sum") (fun xs H Q => ∃ (p : Addr) (ns : List Int), xs = [.ref p] ∧ SqL X.K H p (ns.map V.int) ∧ Q (.int ns.sum) H) := by
 intro pins s σ H xs us Q I r h
 obtain ⟨p, ns, rfl, hq, q⟩ := h
 obtain ⟨u, rfl, rx⟩ := vals1 r
 cases rx
 obtain ⟨its, r', pl, hz⟩ := I.list hq
 have hi := intsAre_of r'
 obtain ⟨zs, e⟩ := hi.allInts.items
 refine sum_intListG (xs := zs) (I.ok.hd hc) (by rw [← e]; exact pl.isList) fun h' tk t' hk => ⟨.int ns.sum, H, I.kept (t' := tk) hk, ⟨t', ?_⟩, q⟩
 have e2 : numsOf (intItems zs).toList = ns := by rw [← e]; exact hi.numsOf
 rw [nums_intItems] at e2
 rw [← e2, preSum_eq, List.take_of_length_le (by simp)]
theorem vp : iU X (.builtin "isinstance") (fun xs H Q => ∃ x T t b, xs = [x, .ty T] ∧ mX X.K H x t ∧ PySem.W.kitOne X.K t (.type T) = some b ∧ Q (.bl b) H) := by
 intro pins s σ H xs us Q I r h
 obtain ⟨x, T, t, b, rfl, ty, e, q⟩ := h
 obtain ⟨u, v, rfl, rx, rv⟩ := vals2 r
 obtain rfl : v = Value.type T := rv
 exact zM I rx ty e fun tk => ⟨.bl b, H, I.tok tk, rfl, q⟩
end
end L2
set_option Elab.async false
set_option linter.all false
set_option maxRecDepth 100000
set_option maxHeartbeats 4000000
namespace L2
open PySem PySem.Spec PyProof.Rows
def bh (X : Cx) (N : List Str) (scope : Scope) (cl : List (Str × Addr)) (C : Addr) (s : Shared) (H : Hp) (fp : List Addr) : Cx :=
 { X with N := N, s₀ := s, H₀ := H, env := compEnvC scope cl C X.env, outer := X.stack, ex := fp, fn := fun _ => false, pn := [], xe := fun _ _ => False }
structure cP (X : Cx) (x : Str) (caps : List (Str × Nat)) (scope : Scope) (cl : List (Str × Addr)) : Prop where
 kind : scope.kind = .function
 nocell : ∀ y ∈ scope.names, y.2 ≠ .cell
 names : ∀ y ∈ scope.names, y.2 = .local → scope.names.lookup y.1 = some .local
 hx : scope.names.lookup x = some .local
 clos : closureFor scope X.env = pure cl
 cls : ∀ y c, cl.lookup y = some c → X.env.cells.lookup y = some c
 has : ∀ y, ((relabel scope X.env).names.lookup y = some .cell ∨ (relabel scope X.env).names.lookup y = some .free) → ∃ c, cl.lookup y = some c
 nd : (x :: caps.map (·.1)).Nodup
 cap : ∀ y j, (y, j) ∈ caps → X.N[j]? = some y ∧ (X.env.scope.names.lookup y = some .cell ∨ X.env.scope.names.lookup y = some .free) ∧
  ((relabel scope X.env).names.lookup y = some .cell ∨ (relabel scope X.env).names.lookup y = some .free)
def eV (caps : List (Str × Nat)) (σ : St) : St := caps.map fun p => (σ[p.2]?).getD none
section
variable {X : Cx} {pins : List (Addr × Obj)} {σ : St} {H : Hp} {s : Shared}
theorem oK (caps : List (Str × Nat)) (σ : St) : (eV caps σ).length = caps.length := by simp [eV]
theorem Inv.comp {x : Str} {caps : List (Str × Nat)} {scope : Scope} {cl : List (Str × Addr)} {fp : List Addr} {h' : Heap} {tk : Nat} {m : Str → Option Value} {D C : Addr} (I : Inv X pins σ H s) (K0 : cP X x caps scope cl) (hf : ∀ b ∈ fp, iD X pins H b)
  (hfs : ∀ b ∈ fp, b < s.heap.objs.size) (hD : s.heap.objs.size ≤ D) (hC : s.heap.objs.size ≤ C) (hDC : D ≠ C) (hk : ∀ b o, s.heap.get? b = some o → h'.get? b = some o) (hn : h'.Ns C m) (hL : h'.get? D = some { cls := .type "list", data := .seq #[] }) :
  Inv (bh X (x :: caps.map (·.1)) scope cl C s H fp) [] (none :: eV caps σ) (upd H D (.lst [])) { s with heap := h', toks := tk } := by
 have hnD := I.hok.fresh hD
 have hnC := I.hok.fresh hC
 have lkc : ∀ y c, (bh X (x :: caps.map (·.1)) scope cl C s H fp).env.cells.lookup y = some c → X.env.cells.lookup y = some c := fun y c e => K0.cls y c e
 have clt : ∀ y c, X.env.cells.lookup y = some c → c < s.heap.objs.size := fun y c e => by
  obtain ⟨v, q⟩ := I.cell y c e
  exact q.lt
 have up : ∀ b u, H b = some u → upd H D (.lst []) b = some u := fun b u q => by rw [aC (aJ q hnD)]; exact q
 have ok : (bh X (x :: caps.map (·.1)) scope cl C s H fp).Ok := by
  refine ⟨I.ok.mod, K0.kind, I.ok.glob, I.ok.blt, hC, fun y z c h1 h2 => I.ok.inj y z c (lkc y c h1) (lkc z c h2), fun y hy => K0.has y hy, fun y c h => absurd (show false = true from h) Bool.false_ne_true, I.ok.hd, I.ok.frames, .inl rfl, fun b hb => ?_, I.bs, Nat.le_trans I.ok.bsz I.sz, fun b o e hb => ?_, fun b hb hz => ?_, I.stack, I.stkFree⟩
  ·obtain ⟨f0, f1, f2, f3, f4, f5⟩ := hf b hb
   exact ⟨Nat.ne_of_lt (Nat.lt_of_lt_of_le (hfs b hb) hC), fun y c e => f4 y c (lkc y c e)⟩
  ·obtain ⟨f0, f1, f2, f3, f4, f5⟩ := hf b hb
   rcases f3 with z | z
   ·exact I.ok.noex b o e z
   ·exact absurd (Nat.lt_of_lt_of_le (Nat.lt_of_lt_of_le (Heap.lt_size e) I.ok.bsz) z) (Nat.lt_irrefl _)
  ·obtain ⟨f0, f1, f2, f3, f4, f5⟩ := hf b hb
   rcases List.mem_cons.mp (I.stkSub b hz) with z | z
   ·exact f1 z
   ·exact f2 z
 refine ⟨ok, rfl, I.bare, ?_, ⟨m, hn, fun i y v e1 e2 e3 => ?_⟩, fun y c e => ?_, ?_, fun y c e => ?_, fun p hp => absurd (show p ∈ ([] : List (Addr × Obj)) from hp) (by simp), ?_, ?_⟩
 ·exact Un.laid hk hD hnD
 ·cases i with
  | zero => cases e2
  | succ i =>
   have e1' : (caps.map (·.1))[i]? = some y := e1
   have e2' : (eV caps σ)[i]? = some (some v) := e2
   rw [List.getElem?_map] at e1'
   unfold eV at e2'
   rw [List.getElem?_map] at e2'
   cases ec : caps[i]? with
   | none => rw [ec] at e1'; cases e1'
   | some p =>
    rw [ec] at e1' e2'
    obtain ⟨y', j⟩ := p
    have ey : y' = y := Option.some.inj e1'
    subst ey
    have ev : (σ[j]?).getD none = some v := Option.some.inj e2'
    have ev' : σ[j]? = some (some v) := by
     cases q : σ[j]? with
     | none => rw [q] at ev; cases ev
     | some w => rw [q] at ev; exact congrArg some ev
    obtain ⟨c1, c2, c3⟩ := K0.cap y' j (List.mem_of_getElem? ec)
    obtain ⟨m0, hn0, hl⟩ := I.loc
    obtain ⟨u, r, l⟩ := hl j y' v c1 ev' (by rcases c2 with z | z; exact .inr (.inl z); exact .inr (.inr z))
    refine ⟨u, r, .inr ⟨c3, ?_⟩⟩
    rcases l with ⟨k, _⟩ | ⟨k, c, ec, z⟩
    ·have k' : X.env.scope.names.lookup y' = some .local := k
     rcases c2 with z | z
     ·rw [z] at k'; cases k'
     ·rw [z] at k'; cases k'
    ·obtain ⟨c', hc'⟩ := K0.has y' c3
     have e4 := K0.cls y' c' hc'
     rw [ec] at e4
     cases e4
     obtain ⟨o, ho, hd⟩ := z
     exact ⟨c, hc', o, hk _ _ ho, hd⟩
 ·obtain ⟨v, o, ho, hd⟩ := I.cell y c (lkc y c e)
  exact ⟨v, o, hk _ _ ho, hd⟩
 ·show upd H D (.lst []) C = none
  rw [aC (Ne.symm hDC)]
  exact hnC
 ·have hlt := clt y c (lkc y c e)
  rw [aC (Nat.ne_of_lt (Nat.lt_of_lt_of_le hlt hD))]
  exact I.freeC y c (lkc y c e)
 ·exact I.hok.laid hk hD ⟨Nat.zero_le _, [], _, .nil, hL⟩
 ·show (none :: eV caps σ).length = (x :: caps.map (·.1)).length
  simp [oK]
theorem Inv.comped {N : List Str} {scope : Scope} {cl : List (Str × Addr)} {fp : List Addr} {C : Addr} {s' : Shared} {σ' : St} {H' : Hp} (I : Inv X pins σ H s) (hf : ∀ b ∈ fp, iD X pins H b)
  (J : Inv (bh X N scope cl C s H fp) [] σ' H' s') : Inv X pins σ H' s' := by
 refine I.call' (ch := fp) (J.os.trans rfl) J.base J.hok J.bare fun b hb => ?_
 obtain ⟨f0, f1, f2, f3, f4, f5⟩ := hf b hb
 exact ⟨f3, f1, f4, f5⟩
def uf (J : It) (cap : St) (tt : TT) (te : TE) (Qf : Addr → Hp → Prop) (H : Hp) : Prop :=
 ∀ D, H D = none → ∃ W : Nat → Nat → List V → Hp → Prop, (∃ m, W 0 m [] (upd H D (.lst []))) ∧ ∀ i m ys H1, W i m ys H1 →
  (J.stop i H1 ∧ Qf D H1) ∨ (J.go i H1 ∧ ∀ v H2, J.yld i H1 v H2 → tt (some v :: cap) H2 fun b H3 => if b = true then
   te (some v :: cap) H3 fun y H4 => H4 D = some (.lst ys) ∧ ys.length < sizeLine ∧ ∃ m', m' < m ∧ W (i + 1) m' (ys ++ [y]) (upd H4 D (.lst (ys ++ [y]))) else ∃ m', m' < m ∧ W (i + 1) m' ys H3)
def PTs (X : Cx) (ifs : List Expr) (tt : TT) : Prop :=
 ∀ (pins : List (Addr × Obj)) (s : Shared) (σ : St) (H : Hp) (Q : Bool → Hp → Prop), Inv X pins σ H s → tt σ H Q →
  wpAny (model X.prog X.w) X.A (forIn ifs true fun c r => if r = true then do let ok ← isTrue c X.env (eval c X.env); pure (ForInStep.yield ok) else pure (ForInStep.yield r)) (TP X pins σ Q) X.xe s
def Av : TT := fun _ H Q => Q true H
theorem mL : PTs X [] Av := fun _ _ _ H _ I h => wpAny_tests_nil ⟨H, I, h⟩
theorem rY {x : Str} {px pos : Pos} {caps : List (Str × Nat)} {scope : Scope} {cl : List (Str × Addr)} {elt iter : Expr} {ifs : List Expr} {J : It} {fp : List Addr} {it : Addr} {tn : Nat → Heap → Prop} {tt : TT} {te : TE} {Qf : Addr → Hp → Prop}
  {RR : Value → Addr → Result → Shared → Prop} {E : Value → Shared → Prop} (I : Inv X pins σ H s) (hc : X.calm = true) (K0 : cP X x caps scope cl) (T : Turn X.prog X.w X.K (.Name x px) J fp it tn) (st : tn 0 s.heap) (hf : ∀ b ∈ fp, iD X pins H b)
  (ht : ∀ C s1 H1 fp1, PTs (bh X (x :: caps.map (·.1)) scope cl C s1 H1 fp1) ifs tt) (he : ∀ C s1 H1 fp1, PE (bh X (x :: caps.map (·.1)) scope cl C s1 H1 fp1) elt te) (rd : uf J (eV caps σ) tt te Qf H)
  (hRR : ∀ D C s' H' m, Inv X pins σ H' s' → s'.heap.Ns C m → iD X pins H' C → Qf D H' → RR (.ref D) C (.ok .next) s') :
  wpAny (model X.prog X.w) X.A (newList []) (fun acc s3 => wpAny (model X.prog X.w) X.A (newFunctionEnv scope X.env.globals cl [] X.env.qual none .none (some X.env)) (fun cenv s4 =>
   codeAny (model X.prog X.w) X.A (.compStart (.ListComp elt [⟨.Name x px, iter, ifs, 0⟩] scope pos) 0 (.ref it) acc { cenv with scope := relabel scope X.env }) (RR acc cenv.locals) s4) E s3) E s := by
 have hfs : ∀ b ∈ fp, b < s.heap.objs.size := fun b hb => by
  obtain ⟨o, e, _⟩ := T.obj _ _ st b hb
  exact Heap.lt_size e
 refine wpAny_newObj_type (wpAny_newFunctionEnv K0.nocell (by intro y hy; simp at hy) (fun h1 hn1 hb1 => ?_) K0.kind)
 dsimp only at hn1 hb1 ⊢
 obtain ⟨D, eD⟩ : ∃ D : Nat, D = s.heap.objs.size := ⟨_, rfl⟩
 obtain ⟨H2, eH2⟩ : ∃ g, g = s.heap.push { cls := .type "list", dict := none, data := .seq ([] : List Value).toArray } := ⟨_, rfl⟩
 rw [← eH2] at hn1 hb1 ⊢
 rw [← eD]
 have hC : H2.objs.size = D + 1 := by rw [eH2, Heap.size_push, eD]
 have hle : s.heap.objs.size ≤ H2.objs.size := by rw [hC, eD]; exact Nat.le_succ _
 have hDC : D ≠ H2.objs.size := by rw [hC]; exact Nat.ne_of_lt (Nat.lt_succ_self _)
 have hk : ∀ b o, s.heap.get? b = some o → h1.get? b = some o := fun b o e => by
  refine hb1.extBut b o (Nat.ne_of_lt (Nat.lt_of_lt_of_le (Heap.lt_size e) hle)) (Heap.get?_push_of_some _ ?_)
  rw [eH2]
  exact Heap.get?_push_of_some _ e
 have hL : h1.get? D = some { cls := .type "list", data := .seq #[] } := by
  refine hb1.extBut D _ (by omega) (Heap.get?_push_of_some _ ?_)
  rw [eH2, eD]
  exact Heap.get?_push_size _ rfl
 have st1 : tn 0 h1 := T.keep _ _ _ st fun b _ o e => hk b o e
 obtain ⟨W, ⟨m0, w0⟩, turn⟩ := rd D (I.hok.fresh (by omega))
 have loop : codeAny (model X.prog X.w) X.A (.compLoop (.ListComp elt [⟨.Name x px, iter, ifs, 0⟩] scope pos) 0 (.ref it) (.ref D) (compEnvC scope cl H2.objs.size X.env)) (RR (.ref D) H2.objs.size) { s with heap := h1, toks := s.toks + ([] : List (Str × Value)).length } := by
  refine codeAny_compLoop_tests (fun n s' => ∃ i ys sl H', Inv (bh X (x :: caps.map (·.1)) scope cl H2.objs.size s H fp) [] (sl :: eV caps σ) H' s' ∧ tn i s'.heap ∧ (∀ b ∈ fp, H' b = none) ∧ W i n ys H') ?_ m0
   ⟨0, [], none, _, I.comp K0 hf hfs (by omega) (by omega) hDC hk hn1 hL, st1, fun b hb => ?_, w0⟩
  ·rintro n s3 ⟨i, ys, sl, H3, I3, st3, fr3, w3⟩
   have fpc : ∀ {H' : Hp} {pi : List (Addr × Obj)}, (∀ b ∈ fp, H' b = none) → (∀ p ∈ pi, p.1 ∉ fp) → ∀ b ∈ fp, iD (bh X (x :: caps.map (·.1)) scope cl H2.objs.size s H fp) pi H' b := fun {H' pi} hn hp b hb => by
    obtain ⟨f0, f1, f2, f3, f4, f5⟩ := hf b hb
    refine ⟨hn b hb, ?_, fun z => ?_, .inl hb, fun y c e => f4 y c (K0.cls y c e), fun p hpp z => ?_⟩
    ·exact Nat.ne_of_lt (Nat.lt_of_lt_of_le (hfs b hb) hle)
    ·rcases List.mem_cons.mp (I.stkSub b z) with q | q
     ·exact f1 q
     ·exact f2 q
    ·exact hp p (by simpa [bh] using hpp) (by rw [z]; exact hb)
   have clear : ∀ {α : Type} {t : Sem α} {Q : α → Shared → Prop} {E' : Value → Shared → Prop} {s : Shared}, wpAny (model X.prog X.w) X.A t Q (fun _ _ => False) s → wpAny (model X.prog X.w) X.A t Q E' s := fun h => wpAny_mono h (fun _ _ z => z) fun _ _ z => z.elim
   rcases turn i n ys H3 w3 with ⟨stop, qf⟩ | ⟨go, step⟩
   ·refine thn (T.done (bh X (x :: caps.map (·.1)) scope cl H2.objs.size s H fp) rfl rfl rfl hc i [] s3 _ H3 _ I3 (fpc fr3 (by simp)) st3 stop) fun r s4 ⟨hr, I4⟩ => ?_
    subst hr
    obtain ⟨m4, hn4, _⟩ := id I4.loc
    refine hRR D _ s4 H3 m4 (I.comped hf I4) hn4 ?_ qf
    have gC : s.heap.objs.size ≤ H2.objs.size := by omega
    exact I.fpOk gC I4.free
   ·refine clear (thn (T.item (bh X (x :: caps.map (·.1)) scope cl H2.objs.size s H fp) rfl rfl rfl hc i [] s3 _ H3 (fun _ _ => False) I3 (fpc fr3 (by simp)) st3 go) fun r s4 ⟨u, hr, h4⟩ => ?_)
    subst hr
    refine clear (show wpAny (model X.prog X.w) X.A (pure () >>= fun _ => assign (.Name x px) (compEnvC scope cl H2.objs.size X.env) u) _ _ s4 from wpAny_bind (thn (h4 : wpAny (model X.prog X.w) X.A (pure ()) _ _ s4) fun _ s5 ⟨v, H5, I5, r5, y5, st5, fr5⟩ => ?_))
    have I5' := I5.pinned (fpc fr5 (by simp)) (T.obj _ _ st5)
    have hg : PG (bh X (x :: caps.map (·.1)) scope cl H2.objs.size s H fp) (.Name x px) (qF 0) := aV (i := 0) K0.nd rfl (Or.inl (lookup_relabel_local K0.hx)) (Or.inr (lookup_relabel_local K0.hx))
    refine thn (hg _ s5 (sl :: eV caps σ) H5 v u (fun σ2 H2 => σ2 = some v :: eV caps σ ∧ H2 = H5) I5' r5 (show _ ∧ _ from ⟨rfl, rfl⟩)) fun _ s6 ⟨σ6, H6, I6, e6, e7⟩ => ?_
    subst e6 e7
    have q6 := step v _ y5
    have again : ∀ {H7 : Hp} {s7 : Shared} {sl : Option V} {zs : List V} {m' : Nat}, Inv (bh X (x :: caps.map (·.1)) scope cl H2.objs.size s H fp) ([] ++ nT fp s5.heap) (sl :: eV caps σ) H7 s7 → m' < n → W (i + 1) m' zs H7 →
      ∃ m, m < n ∧ ∃ i ys sl H', Inv (bh X (x :: caps.map (·.1)) scope cl H2.objs.size s H fp) [] (sl :: eV caps σ) H' s7 ∧ tn i s7.heap ∧ (∀ b ∈ fp, H' b = none) ∧ W i m ys H' := fun {H7 s7 sl zs m'} I7 hm w7 => by
     refine ⟨m', hm, i + 1, zs, sl, H7, I7.unpinned, T.keep _ _ _ st5 fun b hb o e => (I7.pin (b, o) (List.mem_append_right _ (List.mem_append_right _ (dF hb e)))).1, fun b hb => ?_, w7⟩
     obtain ⟨o, e, d⟩ := T.obj _ _ st5 b hb
     exact (I7.pin (b, o) (List.mem_append_right _ (List.mem_append_right _ (dF hb e)))).2.1
    refine clear (thn (ht H2.objs.size s H fp _ s6 _ H6 _ I6 q6) fun ok s7 ⟨H7, I7, q7⟩ => ?_)
    cases ok with
    | false =>
     obtain ⟨m', hm, w7⟩ := (show ∃ m', m' < n ∧ W (i + 1) m' ys H7 from q7)
     exact again I7 hm w7
    | true =>
     refine clear (thn (he H2.objs.size s H fp _ s7 _ H7 _ I7 q7) fun xv s8 ⟨y, H8, I8, r8, hD8, hz8, m', hm, w8⟩ => ?_)
     refine clear (thn (bY _ s8 _ H8 (.ref D) [y] (.ref D) [xv] (fun _ H9 => H9 = upd H8 D (.lst (ys ++ [y]))) I8 rfl (.cons r8 .nil) ⟨D, ys, y, rfl, rfl, hD8, hz8, rfl⟩) fun _ s9 ⟨_, H9, I9, _, e9⟩ => ?_)
     subst e9
     exact again I9 hm w8
  ·rw [aC (by rw [eD]; exact Nat.ne_of_lt (hfs b hb))]
   exact (hf b hb).1
 exact codeAny_compStart_list loop (T.self _ 0 _ _ _ st1 loop)
def Di (wi : TI) (caps : List (Str × Nat)) (tt : TT) (te : TE) : TE := fun σ H Q => wi σ H fun J H1 => uf J (eV caps σ) tt te (fun D H' => Q (.ref D) H') H1
theorem ut {x : Str} {px pos : Pos} {caps : List (Str × Nat)} {scope : Scope} {cl : List (Str × Addr)} {elt iter : Expr} {ifs : List Expr} {wi : TI} {tt : TT} {te : TE} (hc : X.calm = true) (K0 : cP X x caps scope cl) (hi : PI X (.Name x px) iter wi)
  (ht : ∀ C s1 H1 fp1, PTs (bh X (x :: caps.map (·.1)) scope cl C s1 H1 fp1) ifs tt) (he : ∀ C s1 H1 fp1, PE (bh X (x :: caps.map (·.1)) scope cl C s1 H1 fp1) elt te) (hs : ∀ x, foldedSetIterable iter X.env x = pure x := by intro _; rfl) :
  PE X (.ListComp elt [⟨.Name x px, iter, ifs, 0⟩] scope pos) (Di wi caps tt te) := by
 intro pins s σ H Q I h
 rw [eval_ListComp]
 refine wpAny_comprehension_free (use := none) rfl hs K0.clos K0.kind K0.names (thn (hi pins s σ H _ I h) fun v s1 h1 => thn h1 fun itv s2 h2 => ?_)
 obtain ⟨it, fp, tn, J, H2, e, I2, T, st2, f2, rd⟩ := h2
 subst e
 refine rY (RR := fun acc C => compPost (model X.prog X.w) X.A X.xe none (EP X pins σ Q) acc C) I2 hc K0 T st2 f2 ht he rd ?_
 intro D C s' H' m I' hn fC q
 exact ⟨m, hn, fun h'' hs'' => ⟨.ref D, H', I'.turned (h' := h'') (t' := s'.toks) (fun b o hb e => hs''.extBut b o hb e) fC.1 fC.2.1 fC.2.2.2.1 fC.2.2.2.2.1 fC.2.2.2.2.2, rfl, q⟩⟩
theorem qP {i : Nat} {y x : Str} {px py pos spos : Pos} {caps : List (Str × Nat)} {scope : Scope} {cl : List (Str × Addr)} {elt iter : Expr} {ifs : List Expr} {wi : TI} {tt : TT} {te : TE} (hN : X.N.Nodup) (hiN : X.N[i]? = some y) (hy : X.env.scope.names.lookup y = some .local) (hc : X.calm = true)
  (K0 : cP X x caps scope cl) (hi : PI X (.Name x px) iter wi)
  (ht : ∀ C s1 H1 fp1, PTs (bh X (x :: caps.map (·.1)) scope cl C s1 H1 fp1) ifs tt) (he : ∀ C s1 H1 fp1, PE (bh X (x :: caps.map (·.1)) scope cl C s1 H1 fp1) elt te)
  (hsw : swapsWith (.ListComp elt [⟨.Name x px, iter, ifs, 0⟩] scope pos) (some (.Name y py)) spos.line X.env = pure true := by rfl) (hs : ∀ x, foldedSetIterable iter X.env x = pure x := by intro _; rfl) :
  PS X (.Assign [.Name y py] (.ListComp elt [⟨.Name x px, iter, ifs, 0⟩] scope pos) spos) (Dg (Di wi caps tt te) (qF i)) := by
 intro pins s σ H D0 I h
 rw [exec_Assign_Name_used _ _ _ _ hsw]
 refine wpAny_bind (wpAny_standAt (wpAny_bind ?_))
 show wpAny _ X.A (do let _ ← comprehension (.ListComp elt [⟨.Name x px, iter, ifs, 0⟩] scope pos) scope X.env _ (newList []) false (eval iter X.env) (some (assign (.Name y py) X.env))) _ _ s
 refine wpAny_bind (wpAny_mono (wpAny_comprehension_free (use := some (assign (.Name y py) X.env)) (Q := fun _ s' => SP X pins D0 .next s') rfl hs K0.clos K0.kind K0.names
  (thn (hi pins s σ H _ I h) fun v s1 h1 => thn h1 fun itv s2 h2 => ?_)) (fun _ s' hq => wpAny_pure (wpAny_pure hq)) fun _ _ e => e)
 obtain ⟨it, fp, tn, J, H2, e, I2, T, st2, f2, rd⟩ := h2
 subst e
 refine rY (RR := fun acc C => compPost (model X.prog X.w) X.A X.xe (some (assign (.Name y py) X.env)) (fun _ s' => SP X pins D0 .next s') acc C) I2 hc K0 T st2 f2 ht he rd ?_
 intro D C s' H' m I' hn fC q
 show wpAny _ X.A (assign (.Name y py) X.env (.ref D)) _ _ _
 refine wpAny_assign_Name (nj (v := .ref D) I' hN hiN (.inl hy) rfl (fun s'' I'' ch => ⟨m, ?_, fun h'' hs'' => ?_⟩) (.inr hy))
 ·obtain ⟨a, sb, ha⟩ := ch
  refine hn.sameBut sb fun z => ?_
  rcases ha with ha | ha
  ·exact fC.2.1 (z.trans ha)
  ·exact fC.2.2.2.2.1 _ a ha z.symm
 ·exact ⟨_, H', I''.turned (h' := h'') (t' := s''.toks) (fun b o hb e => hs''.extBut b o hb e) fC.1 fC.2.1 fC.2.2.2.1 fC.2.2.2.2.1 fC.2.2.2.2.2, q⟩
end
theorem lW {scope : Scope} {env : Env} {y : Str} {k : NameKind} (h : (relabel scope env).names.lookup y = some k) : ∃ k0, (y, k0) ∈ scope.names ∧ (k = k0 ∨ (k0 = .free ∧ k = .cell)) := by
 have h := PySem.mem_of_lookup h
 obtain ⟨⟨n, k0⟩, hm, e⟩ := List.mem_map.mp (show (y, k) ∈ scope.names.map _ from h)
 by_cases c : (k0 == NameKind.free && env.scope.kind == .function && env.kindOf n == some .cell) = true
 ·have e' : (n, NameKind.cell) = (y, k) := by rw [← e]; exact (if_pos c).symm
  have c1 : k0 = .free := by
   simp only [Bool.and_eq_true] at c
   exact eq_of_beq c.1.1
  cases e'
  exact ⟨_, hm, .inr ⟨c1, rfl⟩⟩
 ·have e' : (n, k0) = (y, k) := by rw [← e]; exact (if_neg c).symm
  cases e'
  exact ⟨_, hm, .inl rfl⟩
section
variable {X : Cx} {x : Str} {scope : Scope}
theorem cP.zero (hfree : ∀ y ∈ scope.names, y.2 ≠ .free := by decide) (nocell : ∀ y ∈ scope.names, y.2 ≠ .cell := by decide) (kind : scope.kind = .function := by rfl) (names : ∀ y ∈ scope.names, y.2 = .local → scope.names.lookup y.1 = some .local := by decide)
  (hx : scope.names.lookup x = some .local := by rfl) : cP X x [] scope [] := by
 refine ⟨kind, nocell, names, hx, closureFor_none hfree, fun y c e => (by cases e), fun y hy => ?_, by simp, fun y j h => nomatch h⟩
 rcases hy with hy | hy
 all_goals
  obtain ⟨k0, hm, e⟩ := lW hy
  rcases e with e | ⟨e, _⟩
  ·subst e
   first | exact absurd rfl (nocell _ hm) | exact absurd rfl (hfree _ hm)
  ·subst e
   exact absurd rfl (hfree _ hm)
theorem cP.one {y : Str} {j : Nat} {c : Addr} (hN : X.N[j]? = some y) (hX : X.env.scope.names.lookup y = some .cell ∨ X.env.scope.names.lookup y = some .free) (ec : X.env.cells.lookup y = some c) (clos : closureFor scope X.env = pure [(y, c)])
  (hr : (relabel scope X.env).names.lookup y = some .cell ∨ (relabel scope X.env).names.lookup y = some .free)
  (hfree : ∀ z ∈ scope.names, z.2 = .free → z.1 = y := by decide) (nocell : ∀ y ∈ scope.names, y.2 ≠ .cell := by decide) (kind : scope.kind = .function := by rfl) (names : ∀ y ∈ scope.names, y.2 = .local → scope.names.lookup y.1 = some .local := by decide)
  (hx : scope.names.lookup x = some .local := by rfl) (nd : [x, y].Nodup := by decide) : cP X x [(y, j)] scope [(y, c)] := by
 have look : ([(y, c)] : List (Str × Addr)).lookup y = some c := by simp
 refine ⟨kind, nocell, names, hx, clos, fun z d e => ?_, fun z hz => ?_, nd, fun z i h => ?_⟩
 ·have := PySem.mem_of_lookup e
  cases List.mem_singleton.mp this
  exact ec
 ·have hz' : z = y := by
   rcases hz with hz | hz
   all_goals
    obtain ⟨k0, hm, e⟩ := lW hz
    rcases e with e | ⟨e, _⟩
    ·subst e
     first | exact absurd rfl (nocell _ hm) | exact hfree _ hm rfl
    ·subst e
     exact hfree _ hm rfl
  subst hz'
  exact ⟨c, look⟩
 ·cases List.mem_singleton.mp h
  exact ⟨hN, hX, hr⟩
end
end L2
set_option Elab.async false
set_option linter.all false
set_option maxRecDepth 100000
set_option maxHeartbeats 4000000
namespace L2
open PySem PySem.Spec PyProof.Rows
section
variable {prog : Program} {w : World} {A : Around} {R : Result → Shared → Prop} {I S : Addr} {fp wr : List Addr} {n : Nat} {P : Nat → Value → Prop} {St : Nat → Heap → Prop} {kw : List (Str × Value)}
theorem zr (W : Walks prog w A.in1 I fp wr n P St) (bt : Nat → Nat → Bool) (cmp : CmpOf prog w A.in1 .Lt P bt) (hSf : S ∉ fp) :
  ∀ (k j : Nat) (s : Shared) (x : Value) (c : Nat), j + 1 + k = n → St (j + 1) s.heap → P (argBest bt j) x → s.heap.get? S = some { cls := .type "list", data := .seq #[x, x] c } →
   (∀ v g t, P (argBest bt (n - 1)) v → (∀ b o, b ∉ wr → b ≠ S → s.heap.get? b = some o → g.get? b = some o) → R (.ok (.ret v)) { s with heap := g, toks := t }) →
   codeAny (model prog w) A (.builtin "min.loop" ⟨[.ref I, .none, .ref S], kw⟩) R s := by
 have hSw : S ∉ wr := fun z => hSf (W.sub _ z)
 have nm : (toString "min" ++ toString ".loop" : String) = "min.loop" := by decide
 intro k
 induction k with
 | zero =>
  intro j s x c hj st px hS fin
  have hn : j + 1 = n := hj
  refine codeAny_builtin PySem.F.entry_min_loop ?_
  rw [Around.under_plainId PySem.F.plain_min_loop _]
  show wpAny _ A.in1 (seqItems? (.ref S) >>= _) _ _ s
  refine wpAny_bind (wpAny_seqItems hS rfl ?_)
  show wpAny _ A.in1 (tryCatch (pyNext (.ref I)) _ >>= _) _ _ s
  refine wpAny_bind (wpAny_tryCatch (W.done s _ _ (hn ▸ st) fun g t kk => ?_))
  have hS1 := kk S _ hSw hS
  show wpAny _ A.in1 (updateSeq S (fun _ => #[]) >>= _) _ _ _
  refine wpAny_bind (wpAny_updateSeq hS1 rfl (wpAny_bind (wpAny_letGo (wpAny_pure ?_))))
  exact fin x _ t (by rw [← hn]; exact px) fun b o b1 b2 q => (Heap.get?_update_other _ _ (Ne.symm b2)).trans (kk b o b1 q)
 | succ k ih =>
  intro j s x c hj st px hS fin
  have lt : j + 1 < n := by omega
  refine codeAny_builtin PySem.F.entry_min_loop ?_
  rw [Around.under_plainId PySem.F.plain_min_loop _]
  show wpAny _ A.in1 (seqItems? (.ref S) >>= _) _ _ s
  refine wpAny_bind (wpAny_seqItems hS rfl ?_)
  show wpAny _ A.in1 (tryCatch (pyNext (.ref I)) _ >>= _) _ _ s
  refine wpAny_bind (wpAny_tryCatch (W.item (j + 1) s _ _ lt st fun v g t pv st1 kk => ?_))
  have hS1 := kk S _ hSw hS
  show wpAny _ A.in1 (tryCatch (holding [v, v] (richCompare .Lt v x >>= _)) _ >>= _) _ _ _
  refine wpAny_bind (wpAny_tryCatch (wpAny_holding (wpAny_bind (cmp (j + 1) (argBest bt j) v x _ _ _ pv px ?_))))
  refine wpAny_bind (wpAny_holding (wpAny_truthy_bool (wpAny_bind (wpAny_letGo (wpAny_pure ?_)))))
  cases hb : bt (j + 1) (argBest bt j) with
  | true =>
   simp only [if_true]
   refine wpAny_bind (wpAny_updateSeq hS1 rfl (wpAny_bind (wpAny_letGo ?_)))
   rw [nm]
   refine wpAny_pure ⟨plainId_quiet PySem.F.plain_min_loop _, ih (j + 1) _ v _ (by omega) (W.frame _ _ _ st1 fun b bf o q => ?_) (by simp only [argBest, hb, if_true]; exact pv) (Heap.get?_update_self _ hS1 rfl) fun y g2 t2 py k2 => ?_⟩
   ·exact (Heap.get?_update_other _ _ (fun z : S = b => hSf (by rw [z]; exact bf))).trans q
   ·exact fin y g2 t2 py fun b o b1 b2 q => k2 b o b1 b2 ((Heap.get?_update_other _ _ (Ne.symm b2)).trans (kk b o b1 q))
  | false =>
   simp only [Bool.false_eq_true, if_false]
   refine wpAny_bind (wpAny_letGo ?_)
   rw [nm]
   refine wpAny_pure ⟨plainId_quiet PySem.F.plain_min_loop _, ih (j + 1) _ x c (by omega) st1 (by simp only [argBest, hb, Bool.false_eq_true, if_false]; exact px) hS1 fun y g2 t2 py k2 => ?_⟩
   exact fin y g2 t2 py fun b o b1 b2 q => k2 b o b1 b2 (kk b o b1 q)
theorem wz (W : Walks prog w A.in1 I fp wr n P St) (bt : Nat → Nat → Bool) (cmp : CmpOf prog w A.in1 .Lt P bt) (hSf : S ∉ fp) (hn : 0 < n) {s : Shared} {c : Nat} (st : St 0 s.heap)
  (hS : s.heap.get? S = some { cls := .type "list", data := .seq #[] c })
  (fin : ∀ v g t, P (argBest bt (n - 1)) v → (∀ b o, b ∉ wr → b ≠ S → s.heap.get? b = some o → g.get? b = some o) → R (.ok (.ret v)) { s with heap := g, toks := t }) :
  codeAny (model prog w) A (.builtin "min.loop" ⟨[.ref I, .none, .ref S], kw⟩) R s := by
 have hSw : S ∉ wr := fun z => hSf (W.sub _ z)
 have nm : (toString "min" ++ toString ".loop" : String) = "min.loop" := by decide
 refine codeAny_builtin PySem.F.entry_min_loop ?_
 rw [Around.under_plainId PySem.F.plain_min_loop _]
 show wpAny _ A.in1 (seqItems? (.ref S) >>= _) _ _ s
 refine wpAny_bind (wpAny_seqItems hS rfl ?_)
 show wpAny _ A.in1 (tryCatch (pyNext (.ref I)) _ >>= _) _ _ s
 refine wpAny_bind (wpAny_tryCatch (W.item 0 s _ _ hn st fun v g t pv st1 kk => ?_))
 have hS1 := kk S _ hSw hS
 show wpAny _ A.in1 (updateSeq S (fun _ => #[v, v]) >>= _) _ _ _
 refine wpAny_bind (wpAny_updateSeq hS1 rfl ?_)
 rw [nm]
 refine wpAny_pure ⟨plainId_quiet PySem.F.plain_min_loop _, zr W bt cmp hSf (n - 1) 0 _ v _ (by omega) (W.frame _ _ _ st1 fun b bf o q => ?_) pv (Heap.get?_update_self _ hS1 rfl) fun y g2 t2 py k2 => ?_⟩
 ·exact (Heap.get?_update_other _ _ (fun z : S = b => hSf (by rw [z]; exact bf))).trans q
 ·exact fin y g2 t2 py fun b o b1 b2 q => k2 b o b1 b2 ((Heap.get?_update_other _ _ (Ne.symm b2)).trans (kk b o b1 q))
end
theorem yR (a v : Value) : argsOk "min" ⟨[a], [(Str.ofString "default", v)]⟩ := by unfold argsOk; kernel_rfl
section
variable {prog : Program} {w : World} {A : Around} {E : Value → Shared → Prop} {s : Shared} {l : Addr} {zs : Array (Int × Tok)}
theorem nU {d : Value} {Q : Value → Shared → Prop} (hh : A.handled = none) (hl : s.heap.IsList l (intItems zs)) (hne : 0 < zs.size)
  (h : ∀ v g t, (intItems zs)[argBest (fun i j => decide (numAt zs i < numAt zs j)) (zs.size - 1)]? = some v → (∀ b o, s.heap.get? b = some o → g.get? b = some o) → Q v { s with heap := g, toks := t }) :
  wpAny (model prog w) A (call (.builtin "min") [.ref l] [(Str.ofString "default", d)]) Q E s := by
 have nm : (toString "min" ++ toString ".loop" : String) = "min.loop" := by decide
 refine PyProof.Rows.kmk_tree PySem.F.kind_min PySem.F.plain_min PySem.F.entry_min (yR _ _) ?_
 refine wpAny_bind (wpAny_of_eq (show Builtin.Builtins.bindParams "min" ["key", "default"] 0 ⟨[], [(Str.ofString "default", d)]⟩ = pure [none, some d] from rfl) ?_)
 refine wpAny_bind (wpAny_pure (wpAny_bind (iter_intList hl fun s2 e st hfp hlI => ?_)))
 subst e
 refine wpAny_bind (wpAny_newObj_type ?_)
 rw [nm]
 have hz : (intItems zs).size = zs.size := by simp [intItems]
 refine wpAny_pure ⟨plainId_quiet PySem.F.plain_min_loop _, wz (Walks.list (A := A.in1) hh _ l hlI (intItems zs)) _ (CmpOf.ints_lt (numAt zs) (fun _ _ => intItems_at)) (fun z => Nat.lt_irrefl _ (hfp _ z)) (by rw [hz]; exact hne)
  ⟨⟨_, Heap.get?_push_of_some _ (Heap.get?_push_size _ rfl), rfl, rfl⟩, (hl.push _).push _⟩ (Heap.get?_push_size _ rfl) fun v g t hv k => ?_⟩
 refine h v g t (by rw [hz] at hv; exact hv) fun b o q => k b o ?_ ?_ (Heap.get?_push_of_some _ (Heap.get?_push_of_some _ q))
 ·exact fun z => absurd (Heap.lt_size q) (by rw [List.mem_singleton.mp z]; exact Nat.lt_irrefl _)
 ·refine Nat.ne_of_lt (Nat.lt_of_lt_of_le (Heap.lt_size q) ?_)
  rw [Heap.size_push]
  exact Nat.le_succ _
end
def zY (M : Int) (ns : List Int) : Prop := M ∈ ns ∧ ∀ a ∈ ns, M ≤ a
theorem zP {ns : List Int} {its : List Value} {zs : Array (Int × Tok)} (hi : IntsAre its ns) (e : its.toArray = intItems zs) (hne : 0 < ns.length) : 0 < zs.size ∧ zY (numAt zs (argBest (fun i j => decide (numAt zs i < numAt zs j)) (zs.size - 1))) ns := by
 have hns : ns = zs.toList.map (·.1) := by rw [← hi.numsOf, ← nums_intItems, ← e]
 have hsz : 0 < zs.size := by
  have h3 := hne
  rw [hns, List.length_map, Array.length_toList] at h3
  exact h3
 obtain ⟨h1, h2⟩ := argBest_lt (numAt zs) (zs.size - 1)
 refine ⟨hsz, ?_, fun a ha => ?_⟩
 ·rw [hns, numAt_eq]
  exact getD_mem (by rw [List.length_map, Array.length_toList]; omega)
 ·rw [hns] at ha
  obtain ⟨j, hj, rfl⟩ := mem_getD ha
  rw [List.length_map, Array.length_toList] at hj
  rw [← numAt_eq]
  exact h2 j (by omega)
section
variable {X : Cx}
def Gu (K : PySem.W.Frag) (ta : TA) (td : TE) : TE := fun σ H Q => ta σ H fun vs H1 => td σ H1 fun _ H2 => ∃ (p : Addr) (ns : List Int), vs = [.ref p] ∧ SqL K H2 p (ns.map V.int) ∧ 0 < ns.length ∧ ∀ M, zY M ns → Q (.int M) H2
theorem Ce {a d : Expr} {ta : TA} {td : TE} {p pos kpos : Pos} (hc : X.calm = true) (hg : Gl X "min") (hm : X.mg "min" = none) (ha : PA X [a] ta) (hd : PE X d td)
  (hv : bootBuiltins "min" = some (.builtin "min"))
  (he : backTo pos (starEach [a] X.env) = (false, eval a X.env) :: backTo pos (starEach [] X.env) := by rfl) (hpl : (backTo pos (starEach [a] X.env)).any (·.1) = false := by rfl)
  (hks : (backToKw pos (keywordEach [⟨some (Str.ofString "default"), d, kpos⟩] X.env)).filterMap (·.1) = [Str.ofString "default"] := by rfl)
  (hall : (backToKw pos (keywordEach [⟨some (Str.ofString "default"), d, kpos⟩] X.env)).all (·.1.isSome) = true := by rfl)
  (hkw : (backToKw pos (keywordEach [⟨some (Str.ofString "default"), d, kpos⟩] X.env)).any (·.1.isNone) = false := by rfl) :
  PE X (.Call (.Name "min" p) [a] [⟨some (Str.ofString "default"), d, kpos⟩] pos) (Gu X.K ta td) := by
 intro pins s σ H Q I h
 refine wpAny_Call_Name_kw (c7 I hg hm hv ?_)
 refine PyProof.Rows.callWith_kw (thn (ha pos pins s σ H _ I h) fun us s1 ⟨vs, H1, I1, r1, q1⟩ => ?_) he hpl hall hkw
 show wpAny _ _ (evalAll ((do let v ← eval d X.env; standAt pos; pure v) :: [])) _ _ s1
 refine wpAny_evalAll_cons (wpAny_bind (thn (hd pins s1 σ H1 _ I1 q1) fun dv s2 ⟨x, H2, I2, _, q2⟩ => wpAny_bind (wpAny_standAt (wpAny_pure (wpAny_evalAll_nil ?_)))))
 obtain ⟨b, ns, rfl, hq, hne, q⟩ := q2
 obtain ⟨u, rfl, rx⟩ := vals1 r1
 cases rx
 rw [hks]
 obtain ⟨its, r', pl, hz⟩ := I2.list hq
 have hi := intsAre_of r'
 obtain ⟨qs, e⟩ := hi.allInts.items
 obtain ⟨hsz, hmn⟩ := zP hi e hne
 refine nU (zs := qs) (I.ok.hd hc) (by rw [← e]; exact pl.isList) hsz fun v g t hv k => ?_
 obtain ⟨t', rfl⟩ := intItems_at hv
 exact ⟨.int _, H2, I2.kept (t' := t) k, ⟨t', rfl⟩, q _ hmn⟩
end
end L2
set_option Elab.async false
set_option linter.all false
set_option maxRecDepth 100000
set_option maxHeartbeats 4000000
namespace L2
open PySem PySem.Spec PyProof.Rows
def Its (lo st : Int) (n : Nat) : It := ⟨fun i _ => i < n, fun i H x H' => H' = H ∧ x = .int (lo + i * st), fun i _ => n ≤ i⟩
theorem sO {P : Program} {w : World} {K : PySem.W.Frag} {tg : Expr} (it : Addr) (lo st : Int) (n : Nat) : Turn P w K tg (Its lo st n) [it] it (fun i h => IsRangeIter h it (lo + (i : Nat) * st) ((n : Int) - (i : Nat)) st) where
 mem := by simp
 obj := fun i h q b hb => by
  have e : b = it := by simpa using hb
  subst e
  exact ⟨_, q, fun v z => by
   have z' : Data.fields _ = Data.cell v := z
   cases z'⟩
 keep := fun i h h' q k => k it (by simp) _ q
 item := by
  intro X hP hw hK hc i pins s σ H E I hf q hg
  subst hP hw hK
  obtain ⟨f0, f1, f2, f3, f4, f5⟩ := hf it (by simp)
  have W := Walks.range (prog := X.prog) (w := X.w) (I.ok.hd hc) it lo st n
  refine W.item i s _ _ hg q fun v h' tk hv q' kk => ?_
  obtain ⟨t, rfl⟩ := hv
  have I1 : Inv X pins σ H { s with heap := h', toks := tk } := I.turned (fun b o hb e => kk b o (by simpa using hb) e) f0 f1 f3 f4 f5
  exact ⟨_, rfl, yF (s := { s with heap := h', toks := tk }) (n := "range_iterator") q' rfl rfl (by decide) ⟨.int (lo + i * st), H, I1, ⟨t, rfl⟩, ⟨rfl, rfl⟩, q', fun b hb => (hf b hb).1⟩⟩
 done := by
  intro X hP hw hK hc i pins s σ H E I hf q hg
  subst hP hw hK
  obtain ⟨f0, f1, f2, f3, f4, f5⟩ := hf it (by simp)
  exact wpAny_pyNext_range_end (I.ok.hd hc) q (by have : n ≤ i := hg; omega) fun h' eb => ⟨rfl, I.turned (t' := s.toks) (fun b o hb e => eb b o hb e) f0 f1 f3 f4 f5⟩
 self := fun _ _ _ _ _ q h => wpAny_pyIter_rangeiter q h
section
variable {X : Cx} {tg : Expr}
def GC (ta : TA) : TI := fun σ H R => ta σ H fun vs H1 => ∃ b : Nat, vs = [.int 0, .int (b : Int), .int 32] ∧ b < 536870912 ∧ R (Its 0 32 ((b + 31) / 32)) H1
theorem yr (b : Nat) : Builtin.Range.rangeSize 0 b 32 = (((b + 31) / 32 : Nat) : Int) := by
 unfold Builtin.Range.rangeSize
 rw [if_pos (by decide)]
 split <;> omega
theorem kh {p q : Bool} (hp : p = true) (hq : q = true) : (p && q) = true := by rw [hp, hq]; rfl
theorem zV {b : Nat} (h : b < 536870912) : Builtin.Range.small 0 b 32 = true := by
 unfold Builtin.Range.small Builtin.Range.rangeFitsLong
 rw [yr]
 generalize hn : (((b + 31) / 32 : Nat) : Int) = n
 have h1 : n ≤ 16777216 := by omega
 have h0 : 0 ≤ n := by omega
 have e : (2 : Int) ^ 63 = 9223372036854775808 := by decide
 rw [e, if_pos (by decide)]
 refine kh (kh (kh (kh (by decide) (kh (decide_eq_true ?_) (decide_eq_true ?_))) (by decide)) (kh (decide_eq_true ?_) (decide_eq_true ?_))) ?_
 ·omega
 ·omega
 ·omega
 ·omega
 ·rw [Bool.or_eq_true]
  exact .inr (kh (decide_eq_true (by omega)) (decide_eq_true (by omega)))
theorem yO {a b c : Expr} {ta : TA} {p pos : Pos} (hg : Gl X "range") (hm : X.mg "range" = none) (ha : PA X [a, b, c] ta) (hs : starEach [a, b, c] X.env = [(false, eval a X.env), (false, eval b X.env), (false, eval c X.env)] := by rfl)
  (hs2 : starEach [b, c] X.env = [(false, eval b X.env), (false, eval c X.env)] := by rfl) : PI X tg (.Call (.Name "range" p) [a, b, c] [] pos) (GC ta) := by
 intro pins s σ H R I h
 refine Call_ (c7 I hg hm boot_range (PyProof.Rows.callWith_type1 (thn (ha pos pins s σ H _ I h) fun us s1 ⟨vs, H1, I1, r1, q1⟩ => ?_) (by rw [hs, hs2]) (by rw [hs2]; rfl)))
 obtain ⟨y, e, l1, q⟩ := q1
 subst e
 cases r1 with
 | cons r rr =>
  cases rr with
  | cons r' rr =>
   cases rr with
   | cons r'' rr =>
    cases rr
    obtain ⟨t, rfl⟩ := r
    obtain ⟨t', rfl⟩ := r'
    obtain ⟨t'', rfl⟩ := r''
    refine call_range_3 (by decide) ?_ (.inl (PyProof.noPylong_small (by omega)))
    refine wpAny_pyIter_range (IsRange.new ..) (zV l1) ?_
    have I2 : Inv X pins σ H1 { s1 with heap := s1.heap.push { cls := .type "range", data := .fields #[.int 0 t, .int y t', .int 32 t''] }, toks := s1.toks } := I1.kept fun b o e => Heap.get?_push_of_some _ e
    refine ⟨(s1.heap.push { cls := .type "range", data := .fields #[.int 0 t, .int y t', .int 32 t''] }).objs.size, [(s1.heap.push { cls := .type "range", data := .fields #[.int 0 t, .int y t', .int 32 t''] }).objs.size], _, _, H1, rfl,
     I2.kept (t' := s1.toks) fun b o e => Heap.get?_push_of_some _ e, sO _ 0 32 ((y + 31) / 32), ?_, fun b hb => ?_, q⟩
    ·have e1 : (0 : Int) + ((0 : Nat) : Int) * 32 = 0 := by decide
     have e2 : (((y + 31) / 32 : Nat) : Int) - ((0 : Nat) : Int) = Builtin.Range.rangeSize 0 y 32 := by rw [yr]; simp
     show IsRangeIter _ _ ((0 : Int) + ((0 : Nat) : Int) * 32) ((((y + 31) / 32 : Nat) : Int) - ((0 : Nat) : Int)) 32
     rw [e1, e2]
     exact Heap.get?_push_size _ rfl
    ·have e : b = (s1.heap.push { cls := .type "range", data := .fields #[.int 0 t, .int y t', .int 32 t''] }).objs.size := by simpa using hb
     subst e
     exact I2.fpOk (Nat.le_refl _) (I2.hok.fresh (Nat.le_refl _))
end
theorem Bx {lo st : Int} {n : Nat} {g : TG} {tb : TS} {D : Ends} {σ : St} {H : Hp} (Pv : Nat → St → Hp → Prop) (h0 : Pv 0 σ H)
  (hs : ∀ (i : Nat) σ H, i < n → Pv i σ H → g (.int (lo + i * st)) σ H fun σ2 H2 => tb { D with nx := Pv (i + 1), ct := Pv (i + 1), bk := D.nx } σ2 H2) (hd : ∀ σ H, Pv n σ H → D.nx σ H) :
  ∃ W : Nat → Nat → St → Hp → Prop, (∃ m, W 0 m σ H) ∧ ∀ i m σ H, W i m σ H →
   ((Its lo st n).stop i H ∧ D.nx σ H) ∨ ((Its lo st n).go i H ∧ ∃ N : St → Hp → Prop, (∀ σ' H', N σ' H' → ∃ m', m' < m ∧ W (i + 1) m' σ' H') ∧ ∀ x H', (Its lo st n).yld i H x H' → g x σ H' fun σ2 H2 => tb { D with nx := N, ct := N, bk := D.nx } σ2 H2) := by
 refine ⟨fun i m σ H => m = n - i ∧ i ≤ n ∧ Pv i σ H, ⟨n, by simp, Nat.zero_le _, h0⟩, ?_⟩
 rintro i m σ H ⟨rfl, hi, p⟩
 by_cases hlt : i < n
 ·refine .inr ⟨hlt, Pv (i + 1), fun σ' H' p' => ⟨n - (i + 1), by omega, rfl, hlt, p'⟩, fun x H' y => ?_⟩
  obtain ⟨rfl, rfl⟩ := y
  exact hs i σ _ hlt p
 ·have e : i = n := by omega
  subst e
  exact .inl ⟨Nat.le_refl _, hd σ H p⟩
def Itv (K : PySem.W.Frag) (a : Addr) (xs : List V) : It :=
 ⟨fun i H => SqL K H a xs ∧ i < xs.length, fun i H x H' => H' = H ∧ xs[xs.length - 1 - i]? = some x, fun i _ => xs.length ≤ i⟩
theorem Bp {P : Program} {w : World} {K : PySem.W.Frag} {tg : Expr} (a it : Addr) (xs : List V) : Turn P w K tg (Itv K a xs) [it] it (fun i h => i ≤ xs.length ∧ h.IsRevIter it a ((xs.length : Int) - 1 - (i : Nat))) where
 mem := by simp
 obj := fun i h st b hb => by
  have e : b = it := by simpa using hb
  subst e
  obtain ⟨_, o, e, c, d⟩ := st
  exact ⟨o, e, fun v z => by rw [d] at z; cases z⟩
 keep := fun i h h' st k => ⟨st.1, st.2.at fun o e => k it (by simp) o e⟩
 item := by
  intro X hP hw hK hc i pins s σ H E I hf st hg
  subst hP hw hK
  obtain ⟨hq, hi⟩ := hg
  obtain ⟨its, rv, p, hz⟩ := I.list hq
  obtain ⟨x, hx⟩ : ∃ x, xs[xs.length - 1 - i]? = some x := ⟨_, List.getElem?_eq_getElem (by omega)⟩
  obtain ⟨u, hu, ru⟩ := rv.get hx
  obtain ⟨f0, f1, f2, f3, f4, f5⟩ := hf it (by simp)
  obtain ⟨hle, st⟩ := st
  have e : (xs.length : Int) - 1 - (i : Nat) = ((xs.length - 1 - i : Nat) : Int) := by omega
  rw [e] at st
  refine wpAny_pyNext_rev_item st p.isList (x := u) (by simpa using hu) fun h' st' sb => ?_
  have I1 : Inv X pins σ H { s with heap := h' } := I.turned (t' := s.toks) (fun b o hb e => (sb.2 b hb).trans e) f0 f1 f3 f4 f5
  have e2 : ((xs.length - 1 - i : Nat) : Int) - 1 = (xs.length : Int) - 1 - ((i + 1 : Nat) : Int) := by omega
  rw [e2] at st'
  obtain ⟨o, e, c, d⟩ := id st'
  exact ⟨u, rfl, yF (s := { s with heap := h' }) e c d (by decide) ⟨x, H, I1, ru, ⟨rfl, hx⟩, ⟨by omega, st'⟩, fun b hb => (hf b hb).1⟩⟩
 done := by
  intro X hP hw hK hc i pins s σ H E I hf st hg
  subst hP hw hK
  obtain ⟨f0, f1, f2, f3, f4, f5⟩ := hf it (by simp)
  obtain ⟨hle, st⟩ := st
  have e : (xs.length : Int) - 1 - (i : Nat) = -1 := by have : xs.length ≤ i := hg; omega
  rw [e] at st
  exact wpAny_pyNext_rev_end (I.ok.hd hc) st fun h' eb => ⟨rfl, I.turned (t' := s.toks) (fun b o hb e => eb b o hb e) f0 f1 f3 f4 f5⟩
 self := fun _ _ _ _ _ st h => wpAny_pyIter_revIter st.2 h
section
variable {X : Cx} {tg : Expr}
def Ho (K : PySem.W.Frag) (ta : TA) : TI := fun σ H R => ta σ H fun vs H1 => ∃ a xs, vs = [.ref a] ∧ SqL K H1 a xs ∧ R (Itv K a xs) H1
theorem An {a : Expr} {ta : TA} {p pos : Pos} (hg : Gl X "reversed") (hm : X.mg "reversed" = none) (ha : PA X [a] ta) (hv : bootBuiltins "reversed" = some (.type "reversed")) (hs : starEach [a] X.env = [(false, eval a X.env)] := by rfl) :
  PI X tg (.Call (.Name "reversed" p) [a] [] pos) (Ho X.K ta) := by
 intro pins s σ H R I h
 refine Call_ (c7 I hg hm hv (PyProof.Rows.callWith_type1 (thn (ha pos pins s σ H _ I h) fun us s1 ⟨vs, H1, I1, r1, q1⟩ => ?_) hs rfl))
 obtain ⟨b, xs, e, hq, q⟩ := q1
 subst e
 obtain ⟨u, rfl, rx⟩ := vals1 r1
 cases rx
 obtain ⟨its, rv, pl, hz⟩ := I1.list hq
 refine call_reversed_list pl.isList ?_
 have hl := rv.length
 have st : ({ s1 with heap := s1.heap.push (revObj b ((its.toArray.size : Int) - 1)) } : Shared).heap.IsRevIter s1.heap.objs.size b ((xs.length : Int) - 1 - ((0 : Nat) : Int)) := by
  refine ⟨_, Heap.get?_push_size _ rfl, rfl, ?_⟩
  show Data.fields #[.ref b, rawInt ((its.toArray.size : Int) - 1)] = _
  have e : (its.toArray.size : Int) - 1 = (xs.length : Int) - 1 - ((0 : Nat) : Int) := by simp; omega
  rw [e]
 refine wpAny_pyIter_revIter st ?_
 have I2 : Inv X pins σ H1 { s1 with heap := s1.heap.push (revObj b ((its.toArray.size : Int) - 1)) } := I1.kept (t' := s1.toks) fun c o e => Heap.get?_push_of_some _ e
 refine ⟨s1.heap.objs.size, [s1.heap.objs.size], _, Itv X.K b xs, H1, rfl, I2, Bp b _ xs, ⟨Nat.zero_le _, st⟩, fun c hc => ?_, q⟩
 have e : c = s1.heap.objs.size := by simpa using hc
 subst e
 exact I1.fpOk (Nat.le_refl _) (I1.hok.fresh (Nat.le_refl _))
end
theorem ym {K : PySem.W.Frag} {a : Addr} {xs : List V} {g : TG} {tb : TS} {D : Ends} {σ : St} {H : Hp} (Pv : Nat → St → Hp → Prop) (h0 : Pv 0 σ H) (hl : ∀ i σ H, i ≤ xs.length → Pv i σ H → SqL K H a xs)
  (hs : ∀ i x σ H, i < xs.length → xs[xs.length - 1 - i]? = some x → Pv i σ H → g x σ H fun σ2 H2 => tb { D with nx := Pv (i + 1), ct := Pv (i + 1), bk := D.nx } σ2 H2) (hd : ∀ σ H, Pv xs.length σ H → D.nx σ H) :
  ∃ W : Nat → Nat → St → Hp → Prop, (∃ m, W 0 m σ H) ∧ ∀ i m σ H, W i m σ H →
   ((Itv K a xs).stop i H ∧ D.nx σ H) ∨ ((Itv K a xs).go i H ∧ ∃ N : St → Hp → Prop, (∀ σ' H', N σ' H' → ∃ m', m' < m ∧ W (i + 1) m' σ' H') ∧ ∀ x H', (Itv K a xs).yld i H x H' → g x σ H' fun σ2 H2 => tb { D with nx := N, ct := N, bk := D.nx } σ2 H2) := by
 refine ⟨fun i m σ H => m = xs.length - i ∧ i ≤ xs.length ∧ Pv i σ H, ⟨xs.length, by simp, Nat.zero_le _, h0⟩, ?_⟩
 rintro i m σ H ⟨rfl, hi, p⟩
 by_cases hlt : i < xs.length
 ·refine .inr ⟨⟨hl i σ H hi p, hlt⟩, Pv (i + 1), fun σ' H' p' => ⟨xs.length - (i + 1), by omega, rfl, hlt, p'⟩, fun x H' y => ?_⟩
  obtain ⟨rfl, hx⟩ := y
  exact hs i x σ _ hlt hx p
 ·have e : i = xs.length := by omega
  subst e
  exact .inl ⟨Nat.le_refl _, hd σ H p⟩
end L2
set_option Elab.async false
set_option linter.all false
set_option maxRecDepth 100000
set_option maxHeartbeats 4000000
namespace L2
open PySem PySem.Spec PyProof.Rows
section
variable {prog : Program} {w : World} {A : Around} {E : Value → Shared → Prop} {s : Shared}
theorem vA {T newId initId : String} {Bn Bi : Builtin} {args : List Value} {kw : List (Str × Value)} {S : _root_.PySem.Spec} {Q Q1 : Value → Shared → Prop} (ft : TypeCalled T newId initId)
  (hct : checkTypeCall T ⟨args, kw⟩ = pure ()) (hcn : checkBuiltinCall newId ⟨.type T :: args, kw⟩ = pure ()) (eN : entryFor table newId = some Bn) (eI : entryFor table initId = some Bi)
  (g : Meets (Bn ⟨.type T :: args, kw⟩) S) (h : S A.in1 (wants Q1 E) s)
  (go : ∀ obj s1, Q1 obj s1 → s1.TypeIs obj T ∧ argsOk initId ⟨obj :: args, kw⟩ ∧ ∃ Si, Meets (Bi ⟨obj :: args, kw⟩) Si ∧ Si A.in1 (wants (fun r s2 => r = .none ∧ Q obj s2) E) s1) :
  wpAny (model prog w) A (call (.type T) args kw) Q E s := by
 obtain ⟨c, tl, hmro⟩ := ft.mro
 have hmade := ft.made
 have hsub := ft.sub
 refine wpAny_call (codeAny_of_tree ?_)
 show wpAny _ _ (callAny (.type T) _) _ _ _
 refine wpAny_pure ⟨Code.quiet_builtin _ (by decide +kernel), codeAny_builtin PySem.F.entry_type_call ?_⟩
 rw [Around.under_plain (weight_type_call_type T args kw) (units_type_call_type T args kw)]
 have n1 := ft.notType
 have n2 := ft.canCreate
 repeat (any_goals (first | assumption | wp_step))
 refine codeAny_mono (codeAny_call_builtin ft.plain eN (wpAny_of_eq hcn (g prog w A.in1 _ s h))) fun r s1 hr => ?_
 cases r with
 | error e => exact hr
 | ok fl =>
  cases fl with
  | ret obj =>
   obtain ⟨hT, hok, Si, gi, hsi⟩ := go _ _ hr
   have hli := ft.init.lookup
   have hbi := ft.init.bind obj
   repeat (any_goals (first | assumption | wp_step))
   refine codeAny_mono (codeAny_call_builtin ft.init.plain eI (ft.init.check _ _ _ _ _ _ _ _ hT hok (gi prog w A.in1 _ s1 hsi))) fun r2 s2 hr2 => ?_
   cases r2 with
   | error e => exact hr2
   | ok fl2 =>
    cases fl2 with
    | ret r =>
     obtain ⟨rfl, hq⟩ := hr2
     repeat (any_goals (first | assumption | wp_step))
    | _ => exact hr2.elim
  | _ => exact hr.elim
theorem vU {T newId : String} {self : Value} {rest : List Value} {kw : List (Str × Value)} (hl : typeLookup (.type T) "__init__" = pure (some (.builtin "object.__init__")))
  (hm : Bind.madeBy (.type T) = pure (some newId)) (hne : (some newId != some "object.__new__") = true) :
  Meets (Builtin.«object.__init__» ⟨self :: rest, kw⟩) (fun _ R s => s.TypeIs self T ∧ R (.ok (.ret .none)) s) := by
 refine Meets.of_wp fun prog w A R s hs => ?_
 obtain ⟨hT, hq⟩ := hs
 cases rest with
 | nil =>
  cases kw with
  | nil => exact wpAny_pure ⟨_, rfl, hq⟩
  | cons p kw =>
   repeat (any_goals (first | assumption | wp_step))
   exact ⟨_, rfl, hq⟩
 | cons a rest =>
  repeat (any_goals (first | assumption | wp_step))
  exact ⟨_, rfl, hq⟩
end
theorem wG (a v : Value) : checkTypeCall "enumerate" ⟨[a], [(Str.ofString "start", v)]⟩ = pure () := by kernel_rfl
theorem yI (a v : Value) : checkBuiltinCall "enumerate.__new__" ⟨[.type "enumerate", a], [(Str.ofString "start", v)]⟩ = pure () := by kernel_rfl
theorem wU (o a v : Value) : argsOk "object.__init__" ⟨[o, a], [(Str.ofString "start", v)]⟩ := by
 unfold argsOk
 rw [signature?_of (id := "object.__init__") (n := ['_', '_', 't', 'i', 'n', 'i', '_', '_']) (o := ['t', 'c', 'e', 'j', 'b', 'o']) (by kernel_rfl) PySem.F.owner_object]
 kernel_rfl
open AutoSeq1 (wpAny_loadPart') in
set_option maxHeartbeats 4000000 in
theorem uU (l : Addr) (items : Array Value) (n : Nat) (dct : Option Addr) (sl : Array (Option Value)) (t : Tok) :
  Meets (Builtin.«enumerate.__new__» ⟨[.type "enumerate", .ref l], [(Str.ofString "start", .int 1 t)]⟩) (fun _ R s => s.heap.get? l = some { cls := .type "list", dict := dct, data := .seq items n, slots := sl } ∧
   R (.ok (.ret (.ref (s.heap.push { cls := .type "list_iterator", data := .fields #[.ref l, .int 0 0] }).objs.size)))
    { s with heap := (s.heap.push { cls := .type "list_iterator", data := .fields #[.ref l, .int 0 0] }).push { cls := .type "enumerate", data := .fields #[.none, .bool false, .ref s.heap.objs.size, rawInt 1, .none, .none] } }) :=
 .of_wp fun prog w A R s h => by
  obtain ⟨hp, g, d, tk, os⟩ := s
  obtain ⟨hl, h⟩ := h
  have hsub := sub_enumerate
  have hL : Heap.IsList (Shared.heap ⟨hp, g, d, tk, os⟩) l items := ⟨_, hl, rfl, n, rfl⟩
  wp_walk using wpAny_loadPart' hl
  refine wpAny_stack_any fun st => wpAny_pure ?_
  split
  ·rename_i c _ _ _ _ _
   cases (c == Value.type "enumerate")
   ·wp_walk using wpAny_loadPart' hl, wpAny_pyIter_list hL
    exact ⟨_, rfl, h⟩
   ·wp_walk using wpAny_loadPart' hl, wpAny_pyIter_list hL
    exact ⟨_, rfl, h⟩
  ·wp_walk using wpAny_loadPart' hl, wpAny_pyIter_list hL
   exact ⟨_, rfl, h⟩
section
variable {prog : Program} {w : World} {A : Around} {E : Value → Shared → Prop} {s : Shared}
theorem v4 {l : Addr} {items : Array Value} {t : Tok} {Q : Value → Shared → Prop} (hL : s.heap.IsList l items)
  (h : ∀ g, IsEnum g (s.heap.objs.size + 1) s.heap.objs.size 1 .none → g.IsListIter s.heap.objs.size l 0 → (∀ b o, s.heap.get? b = some o → g.get? b = some o) → Q (.ref (s.heap.objs.size + 1)) { s with heap := g }) :
  wpAny (model prog w) A (call (.type "enumerate") [.ref l] [(Str.ofString "start", .int 1 t)]) Q E s := by
 obtain ⟨⟨c, dct, dt, sl⟩, hl, hc, n, hd⟩ := hL
 replace hc : c = .type "list" := hc
 replace hd : dt = .seq items n := hd
 subst hc hd
 have hz : (s.heap.push { cls := .type "list_iterator", data := .fields #[.ref l, .int 0 0] }).objs.size = s.heap.objs.size + 1 := Heap.size_push ..
 refine vA (Q1 := fun obj s1 => s1.TypeIs obj "enumerate" ∧ Q obj s1) PySem.F.called_enumerate (wG _ _) (yI _ _) PySem.F.entry_enumerate_new PySem.F.entry_object_init (uU l items n dct sl t) ⟨hl, ?_⟩ fun obj s1 hq =>
  ⟨hq.1, wU _ _ _, _, vU PySem.F.called_enumerate.init.lookup PySem.F.called_enumerate.made (by decide), hq.1, rfl, hq.2⟩
 show _ ∧ _
 rw [hz]
 have he : IsEnum ((s.heap.push { cls := .type "list_iterator", data := .fields #[.ref l, .int 0 0] }).push { cls := .type "enumerate", data := .fields #[.none, .bool false, .ref s.heap.objs.size, rawInt 1, .none, .none] }) (s.heap.objs.size + 1) s.heap.objs.size 1 .none := by
  have := Heap.get?_push_size (s.heap.push { cls := .type "list_iterator", data := .fields #[.ref l, .int 0 0] }) (o := { cls := .type "enumerate", data := .fields #[.none, .bool false, .ref s.heap.objs.size, rawInt 1, .none, .none] }) rfl
  rw [hz] at this
  exact this
 exact ⟨⟨_, he, rfl⟩, h _ he ⟨_, Heap.get?_push_of_some _ (Heap.get?_push_size _ rfl), rfl, rfl⟩ fun b o q => Heap.get?_push_of_some _ (Heap.get?_push_of_some _ q)⟩
end
theorem Dc {prog : Program} {w : World} {A : Around} (hh : A.handled = none) (it l : Addr) (hne : l ≠ it) (items : Array Value) :
  Draws prog w A it [it, l] (items.size + 1) (fun i v => ∃ j, i = j + 1 ∧ items[j]? = some v) (fun i h => ∃ j, i = j + 1 ∧ h.IsListIter it l j ∧ h.IsList l items) where
 live := fun _ _ st => by
  obtain ⟨j, _, st⟩ := st
  exact (Draws.list (prog := prog) (w := w) hh it l hne items).live j _ st
 frame := fun _ _ _ st k => by
  obtain ⟨j, e, st⟩ := st
  exact ⟨j, e, (Draws.list (prog := prog) (w := w) hh it l hne items).frame j _ _ st k⟩
 item := fun i s Q E hi st hQ => by
  obtain ⟨j, rfl, st⟩ := st
  exact (Draws.list (prog := prog) (w := w) hh it l hne items).item j s Q E (by omega) st fun x g t p q r => hQ x g t ⟨j, rfl, p⟩ ⟨j + 1, rfl, q⟩ r
 done := fun s Q E st hE => by
  obtain ⟨j, e, st⟩ := st
  have : j = items.size := by omega
  subst this
  exact (Draws.list (prog := prog) (w := w) hh it l hne items).done s Q E st hE
def Itu (K : PySem.W.Frag) (a : Addr) : It :=
  ⟨fun i H => ∃ xs x, SqL K H a xs ∧ xs[i]? = some x, fun i H x H' => ∃ p y, H p = none ∧ x = .ref p ∧ H' = upd H p (.tup [.int ((i + 1 : Nat) : Int), y]) ∧ ∀ xs, SqL K H a xs → xs[i]? = some y,
   fun i H => ∃ xs, SqL K H a xs ∧ xs.length ≤ i⟩
theorem Bl {prog : Program} {w : World} {A : Around} {E : Value → Shared → Prop} {s : Shared} {e it l : Addr} {i : Nat} {k : Int} {items : Array Value} {old : Value} {Q : Option Value → Shared → Prop} (hh : A.handled = none)
  (he : IsEnum s.heap e it k old) (hit : s.heap.IsListIter it l i) (hl : s.heap.IsList l items) (hx : items[i]? = none) (hQ : ∀ g, Heap.ExtBut it s.heap g → Q none { s with heap := g }) : wpAny (model prog w) A (pyNext (.ref e)) Q E s := by
 have hT : s.TypeIs (.ref e) "enumerate" := ⟨_, he, rfl⟩
 unfold pyNext
 refine wpAny_bind (wpAny_attempt (wpAny_callSpecial?_slot (name := Str.ofString "__next__") hT PySem.F.slot_enumerate_next
  (wpAny_call_entry PySem.F.slot_enumerate_next hT PySem.F.entry_enumerate_next ?_ (PySem.F.args_enumerate_next_1 _))))
 show wpAny _ _ (field (.ref e) 2 >>= _) _ _ _
 refine wpAny_bind (wpAny_field he rfl (x := .ref it) rfl ?_)
 refine wpAny_bind (wpAny_nextOf_list_end hh hit hl hx fun g x hg hx' => ?_)
 obtain ⟨o, ho, hc⟩ := hx'
 refine wpAny_bind (wpAny_isInstance (T := "StopIteration") (b := true) ⟨o, ho, hc⟩ isSubtype_stop ?_)
 exact wpAny_pure (hQ _ hg)
theorem nu {h : Heap} {a b : Addr} {o u : Obj} (ho : h.get? a = some o) (hu : h.get? b = some u) (hc : o.cls ≠ u.cls) : a ≠ b := by
 rintro rfl
 rw [ho] at hu
 cases hu
 exact hc rfl
theorem xj {P : Program} {w : World} {K : PySem.W.Frag} {elts : List Expr} {x1 : Nat} {tpos : Pos} (a e it : Addr) (hne : e ≠ it) :
  Turn P w K (.Tuple elts x1 tpos) (Itu K a) [e, it] e (fun i h => (∃ old, IsEnum h e it ((i + 1 : Nat) : Int) old) ∧ h.IsListIter it a i) where
 mem := by simp
 obj := fun i h st b hb => by
  obtain ⟨⟨old, he⟩, o, ho, hc, hd⟩ := st
  rcases List.mem_cons.mp hb with rfl | hb
  ·exact ⟨_, he, fun v z => by cases z⟩
  ·rw [List.mem_singleton.mp hb]
   exact ⟨o, ho, fun v z => by rw [hd] at z; cases z⟩
 keep := fun i h h' st k => by
  obtain ⟨⟨old, he⟩, st⟩ := st
  exact ⟨⟨old, k e (by simp) _ he⟩, st.at fun o q => k it (by simp) o q⟩
 item := by
  intro X hP hw hK hc i pins s σ H E I hf st hg
  subst hP hw hK
  obtain ⟨xs, x, hq, hx⟩ := hg
  obtain ⟨its, rv, p, hz⟩ := I.list hq
  obtain ⟨u, hu, ru⟩ := rv.get hx
  obtain ⟨⟨old, he⟩, st⟩ := st
  obtain ⟨oi, hoi, hci, _⟩ := id st
  obtain ⟨ol, hol, hcl, _⟩ := id p.isList
  have nai : a ≠ it := nu hol hoi (by rw [hcl, hci]; decide)
  have nae : e ≠ a := nu he hol (by rw [hcl]; show Value.type "enumerate" ≠ Value.type "list"; decide)
  have hlt : i < its.length := (List.getElem?_eq_some_iff.mp hu).1
  refine wpAny_pyNext_enum_itemD (Dc (A := X.A.in1) (I.ok.hd hc) it a nai its.toArray) he ⟨i, rfl, st, p.isList⟩ (by simpa using hlt) hne (by simp [hne, nae]) fun u' h1 tk hP heo hit1 ht1 hz1 hk1 => ?_
  obtain ⟨j, hj, hu'⟩ := hP
  have ej : j = i := by omega
  subst ej
  have eu : u' = u := by
   have : its[j]? = some u' := by simpa using hu'
   rw [hu] at this
   exact (Option.some.inj this).symm
  subst eu
  obtain ⟨j', hj', hit1, _⟩ := hit1
  have ej' : j' = j + 1 := by omega
  subst ej'
  refine ⟨_, rfl, wpAny_letOwnedTupleGo_enum heo fun h2 he2 hs2 => ?_⟩
  have ee : e < s.heap.objs.size := Heap.lt_size he
  have g2 : h2.get? s.heap.objs.size = some { cls := .type "tuple", data := .seq #[.int ((j + 1 : Nat) : Int) tk, u'] } := (hs2.2 _ (Nat.ne_of_gt ee)).trans ht1
  have kk : ∀ b o, b ≠ e → b ≠ it → s.heap.get? b = some o → h2.get? b = some o := fun b o h3 h4 q => (hs2.2 b h3).trans (hk1 b o h3 h4 q)
  have new : bU X.prog X.w (upd H s.heap.objs.size (.tup [.int ((j + 1 : Nat) : Int), x])) h2 s.heap.objs.size (.tup [.int ((j + 1 : Nat) : Int), x]) :=
   ⟨(by show 2 ≤ sizeLine; decide), [.int ((j + 1 : Nat) : Int) tk, u'], .cons ⟨_, rfl⟩ (.cons ru .nil), _, g2, rfl, _, rfl⟩
  have I2 := I.turn2 (h' := h2) (t' := tk + 1) (hf e (by simp)) (hf it (by simp)) kk (Nat.le_refl _) new
  have hn : H s.heap.objs.size = none := I.hok.fresh (Nat.le_refl _)
  refine ⟨.ref s.heap.objs.size, _, I2, rfl, ⟨_, x, hn, rfl, rfl, fun ys hy => by rw [I.list_inj hy hq]; exact hx⟩, ⟨⟨u', by simpa using he2⟩, hit1.extBut hs2.extBut (Ne.symm hne)⟩, fun b hb => ?_⟩
  have hbn := (hf b hb).1
  have hbs : b ≠ s.heap.objs.size := by
   rcases List.mem_cons.mp hb with rfl | hb
   ·exact Nat.ne_of_lt ee
   ·rw [List.mem_singleton.mp hb]
    exact Nat.ne_of_lt (Heap.lt_size hoi)
  rw [aC hbs]
  exact hbn
 done := by
  intro X hP hw hK hc i pins s σ H E I hf st hg
  subst hP hw hK
  obtain ⟨xs, hq, hx⟩ := hg
  obtain ⟨its, rv, p, hz⟩ := I.list hq
  obtain ⟨f0, f1, f2, f3, f4, f5⟩ := hf it (by simp)
  obtain ⟨⟨old, he⟩, st⟩ := st
  have hl := rv.length
  obtain ⟨oi, hoi, hci, _⟩ := id st
  obtain ⟨ol, hol, hcl, _⟩ := id p.isList
  have nai : a ≠ it := nu hol hoi (by rw [hcl, hci]; decide)
  refine Bl (I.ok.hd hc) he st p.isList (by simp; omega) fun h' eb => ⟨rfl, I.turned (t' := s.toks) (fun b o hb e => eb b o hb e) f0 f1 f3 f4 f5⟩
 self := fun _ _ _ _ _ st h => by
  obtain ⟨⟨old, he⟩, _⟩ := st
  exact wpAny_pyIter_enum he h
section
variable {M : Model} {A : Around} {E : Value → Shared → Prop} {s : Shared} {env : Env}
theorem qI {pos : Pos} {T : String} {e : Expr} {rest : List Expr} {kws : List Keyword} {Q : Value → Shared → Prop}
  (h : wpAny M A (spliced (backTo pos (starEach (e :: rest) env))) (fun vs s1 => wpAny M A (evalAll ((backToKw pos (keywordEach kws env)).map (·.2)))
   (fun ws s2 => wpAny M A (call (.type T) vs (((backToKw pos (keywordEach kws env)).filterMap (·.1)).zip ws)) Q E s2) E s1) E s)
  (he : backTo pos (starEach (e :: rest) env) = (false, eval e env) :: backTo pos (starEach rest env) := by rfl) (hp : (backTo pos (starEach (e :: rest) env)).any (·.1) = false := by rfl)
  (hall : (backToKw pos (keywordEach kws env)).all (·.1.isSome) = true := by rfl) (hkw : (backToKw pos (keywordEach kws env)).any (·.1.isNone) = false := by rfl) :
  wpAny M A (callWith pos (.type T) [] (backTo pos (starEach (e :: rest) env)) (backToKw pos (keywordEach kws env))) Q E s := by
 unfold callWith
 have h2 : wpAny M A (evalArgs (.type T) true (backTo pos (starEach (e :: rest) env)) (backToKw pos (keywordEach kws env))) (fun a s1 => wpAny M A (call (.type T) ([] ++ a.pos) a.kw) Q E s1) E s := by
  rw [he] at h ⊢
  exact PyProof.Rows.evalArgs_kwB hall h
 refine wpAny_bind (wpAny_holding (thn h2 fun a s1 h1 => wpAny_bind (wpAny_standAt ?_)))
 simp only [hp, hkw, Bool.or_false]
 refine wpAny_bind (wpAny_pure ?_)
 exact wpAny_bind (thn h1 fun r s2 hr => wpAny_bind (wpAny_holding (wpAny_point (wpAny_pure hr))))
end
section
variable {X : Cx}
def Ep (K : PySem.W.Frag) (ta : TA) (td : TE) : TI := fun σ H R => ta σ H fun vs H1 => td σ H1 fun d H2 => ∃ a xs, d = .int 1 ∧ vs = [.ref a] ∧ SqL K H2 a xs ∧ R (Itu K a) H2
theorem u9 {a d : Expr} {ta : TA} {td : TE} {p pos kpos : Pos} {elts : List Expr} {x1 : Nat} {tpos : Pos} (hg : Gl X "enumerate") (hm : X.mg "enumerate" = none) (ha : PA X [a] ta) (hd : PE X d td)
  (he : backTo pos (starEach [a] X.env) = (false, eval a X.env) :: backTo pos (starEach [] X.env) := by rfl) (hpl : (backTo pos (starEach [a] X.env)).any (·.1) = false := by rfl)
  (hks : (backToKw pos (keywordEach [⟨some (Str.ofString "start"), d, kpos⟩] X.env)).filterMap (·.1) = [Str.ofString "start"] := by rfl)
  (hall : (backToKw pos (keywordEach [⟨some (Str.ofString "start"), d, kpos⟩] X.env)).all (·.1.isSome) = true := by rfl)
  (hkw : (backToKw pos (keywordEach [⟨some (Str.ofString "start"), d, kpos⟩] X.env)).any (·.1.isNone) = false := by rfl) :
  PI X (.Tuple elts x1 tpos) (.Call (.Name "enumerate" p) [a] [⟨some (Str.ofString "start"), d, kpos⟩] pos) (Ep X.K ta td) := by
 intro pins s σ H R I h
 refine wpAny_Call_Name_kw (c7 I hg hm boot_enumerate ?_)
 refine qI (thn (ha pos pins s σ H _ I h) fun us s1 ⟨vs, H1, I1, r1, q1⟩ => ?_) he hpl hall hkw
 show wpAny _ _ (evalAll ((do let v ← eval d X.env; standAt pos; pure v) :: [])) _ _ s1
 refine wpAny_evalAll_cons (wpAny_bind (thn (hd pins s1 σ H1 _ I1 q1) fun dv s2 ⟨x, H2, I2, rd, q2⟩ => wpAny_bind (wpAny_standAt (wpAny_pure (wpAny_evalAll_nil ?_)))))
 obtain ⟨b, xs, rfl, rfl, hq, q⟩ := q2
 obtain ⟨u, rfl, rx⟩ := vals1 r1
 cases rx
 obtain ⟨td', rfl⟩ := rd
 rw [hks]
 obtain ⟨its, rv, pl, hz⟩ := I2.list hq
 refine v4 pl.isList fun g he2 hit hk => ?_
 refine wpAny_pyIter_enum he2 ?_
 have I3 : Inv X pins σ H2 { s2 with heap := g } := I2.kept (t' := s2.toks) hk
 have ne : s2.heap.objs.size + 1 ≠ s2.heap.objs.size := by omega
 refine ⟨s2.heap.objs.size + 1, [s2.heap.objs.size + 1, s2.heap.objs.size], _, Itu X.K b, H2, rfl, I3, xj b _ _ ne, ⟨⟨_, he2⟩, hit⟩, fun c hc => ?_, q⟩
 have hle : s2.heap.objs.size ≤ c := by
  rcases List.mem_cons.mp hc with rfl | hc
  ·omega
  ·rw [List.mem_singleton.mp hc]
   omega
 exact I2.fpOk hle (I2.hok.fresh hle)
end
theorem sX {K : PySem.W.Frag} {a : Addr} {xs : List V} {g : TG} {tb : TS} {D : Ends} {σ : St} {H : Hp} (Pv : Nat → St → Hp → Prop) (h0 : Pv 0 σ H) (hl : ∀ i σ H, i ≤ xs.length → Pv i σ H → SqL K H a xs)
  (hs : ∀ i x σ H p, xs[i]? = some x → Pv i σ H → H p = none → g (.ref p) σ (upd H p (.tup [.int ((i + 1 : Nat) : Int), x])) fun σ2 H2 => tb { D with nx := Pv (i + 1), ct := Pv (i + 1), bk := D.nx } σ2 H2) (hd : ∀ σ H, Pv xs.length σ H → D.nx σ H) :
  ∃ W : Nat → Nat → St → Hp → Prop, (∃ m, W 0 m σ H) ∧ ∀ i m σ H, W i m σ H →
   ((Itu K a).stop i H ∧ D.nx σ H) ∨ ((Itu K a).go i H ∧ ∃ N : St → Hp → Prop, (∀ σ' H', N σ' H' → ∃ m', m' < m ∧ W (i + 1) m' σ' H') ∧ ∀ x H', (Itu K a).yld i H x H' → g x σ H' fun σ2 H2 => tb { D with nx := N, ct := N, bk := D.nx } σ2 H2) := by
 refine ⟨fun i m σ H => m = xs.length - i ∧ i ≤ xs.length ∧ Pv i σ H, ⟨xs.length, by simp, Nat.zero_le _, h0⟩, ?_⟩
 rintro i m σ H ⟨rfl, hi, p⟩
 have q := hl i σ H hi p
 by_cases hlt : i < xs.length
 ·refine .inr ⟨⟨xs, xs[i], q, by simp [hlt]⟩, Pv (i + 1), fun σ' H' p' => ⟨xs.length - (i + 1), by omega, rfl, hlt, p'⟩, fun x H' y => ?_⟩
  obtain ⟨c, y, hn, e1, e2, hy⟩ := y
  subst e1 e2
  exact hs i y σ H c (hy xs q) p hn
 ·have e : i = xs.length := by omega
  subst e
  exact .inl ⟨⟨xs, q, Nat.le_refl _⟩, hd σ H p⟩
end L2
set_option Elab.async false
set_option linter.all false
set_option maxRecDepth 100000
set_option maxHeartbeats 4000000
namespace L2
open PySem PySem.Spec PyProof.Rows
mutual
inductive pJ (K : PySem.W.Frag) (H : Hp) : V → PyData → Prop where
 | non : pJ K H .non .none
 | bl (b : Bool) : pJ K H (.bl b) (.bool b)
 | int (i : Int) : pJ K H (.int i) (.int i)
 | str (x : Str) : pJ K H (.str x) (.str x)
 | lst {a : Addr} {xs : List V} {ds : List PyData} (h : SqL K H a xs) (r : j7 K H xs ds) : pJ K H (.ref a) (.list ds)
 | tup {a : Addr} {xs : List V} {ds : List PyData} (h : SqT K H a xs) (r : j7 K H xs ds) : pJ K H (.ref a) (.tuple ds)
inductive j7 (K : PySem.W.Frag) (H : Hp) : List V → List PyData → Prop where
 | nil : j7 K H [] []
 | cons {x : V} {xs : List V} {d : PyData} {ds : List PyData} (h : pJ K H x d) (r : j7 K H xs ds) : j7 K H (x :: xs) (d :: ds)
end
section
variable {X : Cx} {pins : List (Addr × Obj)} {σ : St} {H : Hp} {s : Shared}
mutual
theorem pJ.reads (I : Inv X pins σ H s) {x : V} {d : PyData} {u : Value} : pJ X.K H x d → RelV x u → ∃ as, Reads s.heap u d as
 | .non, r => ⟨_, by cases (show u = Value.none from r); exact .none⟩
 | .bl b, r => ⟨_, by cases (show u = Value.bool b from r); exact .bool b⟩
 | .int i, r => by
  obtain ⟨t, rfl⟩ := r
  exact ⟨_, .int i t⟩
 | .str y, r => by
  obtain ⟨t, rfl⟩ := r
  exact ⟨_, .str y t⟩
 | .lst (a := a) h q, r => by
  cases (show u = Value.ref a from r)
  obtain ⟨its, rv, p, _⟩ := I.list h
  obtain ⟨as, ra⟩ := j7.reads I q rv
  obtain ⟨o, n, e, c, _, d⟩ := p
  exact ⟨_, .list e c d (by simpa using ra)⟩
 | .tup (a := a) h q, r => by
  cases (show u = Value.ref a from r)
  obtain ⟨its, rv, p, _⟩ := I.tuple h
  obtain ⟨as, ra⟩ := j7.reads I q rv
  obtain ⟨o, e, c, n, d⟩ := p
  exact ⟨_, .tuple e c d (by simpa using ra)⟩
theorem j7.reads (I : Inv X pins σ H s) {xs : List V} {ds : List PyData} {us : List Value} : j7 X.K H xs ds → Vals xs us → ∃ as, ReadsAll s.heap us ds as
 | .nil, r => by
  cases r
  exact ⟨_, .nil⟩
 | .cons h q, r => by
  cases r with
  | cons r1 r2 =>
   obtain ⟨as, ra⟩ := pJ.reads I h r1
   obtain ⟨bs, rb⟩ := j7.reads I q r2
   exact ⟨_, .cons ra rb⟩
end
end
def Hh (K : PySem.W.Frag) : R2 := fun x y H Q => ∃ (a b : Addr) (ns ms : List Int), x = .ref a ∧ y = .ref b ∧ SqL K H a (ns.map V.int) ∧ SqL K H b (ms.map V.int) ∧ Q (.bl (decide (ns = ms))) H
def G9 (K : PySem.W.Frag) : R2 := fun x y H Q => ∃ d1 d2 : PyData, pJ K H x d1 ∧ pJ K H y d2 ∧ SeqAt.shaped d1 = true ∧ SeqAt.shaped d2 = true ∧ Q (.bl (PyData.eqv d1 d2)) H
section
variable {X : Cx}
theorem FN (hu : X.A.units + 64 < cLine) : OpR X (compareOp .Eq) (fun x y H Q => Hh X.K x y H Q ∨ G9 X.K x y H Q) := by
 intro pins s σ H x y u v Q I rx ry h
 rcases h with ⟨a, b, ns, ms, rfl, rfl, ha, hb, q⟩ | ⟨d1, d2, h1, h2, e1, e2, q⟩
 ·cases (show u = Value.ref a from rx)
  cases (show v = Value.ref b from ry)
  obtain ⟨us, r1, p1, _⟩ := I.list ha
  obtain ⟨ws, r2, p2, _⟩ := I.list hb
  exact PySem.W.ke_eq_ints p1.isList p2.isList (intsAre_of r1) (intsAre_of r2) hu ⟨.bl _, H, I, rfl, q⟩
 ·obtain ⟨as, ra⟩ := h1.reads I rx
  obtain ⟨bs, rb⟩ := h2.reads I ry
  exact eq_dataH ra rb e1 e2 hu ⟨.bl _, H, I, rfl, q⟩
end
end L2
set_option Elab.async false
set_option linter.all false
set_option maxRecDepth 100000
set_option maxHeartbeats 4000000
namespace Tw
open PySem L2
theorem sy {lo : Int} {n : Nat} {cap : L2.St} {tt : TT} {te : TE} {Qf : Addr → Hp → Prop} {H : Hp} (f : Nat → Int) (hl : n < sizeLine)
  (htt : ∀ (z : Int) (H' : Hp) (Q : Bool → Hp → Prop), Q true H' → tt (some (.int z) :: cap) H' Q) (hte : ∀ (i : Nat) (H' : Hp) (Q : VK), i < n → aR H H' → Q (.int (f i)) H' → te (some (.int (lo + i)) :: cap) H' Q)
  (q : ∀ D, H D = none → Qf D (upd H D (.lst (((List.range n).map f).map V.int)))) : uf (Itr lo n) cap tt te Qf H := by
 intro D hD
 refine ⟨fun i m ys H1 => m = n - i ∧ i ≤ n ∧ ys = ((List.range i).map f).map V.int ∧ H1 = upd H D (.lst ys), ⟨_, rfl, Nat.zero_le _, rfl, rfl⟩, ?_⟩
 rintro i m ys H1 ⟨rfl, hi, rfl, rfl⟩
 by_cases hlt : i < n
 ·refine .inr ⟨hlt, fun v H2 y => ?_⟩
  obtain ⟨rfl, rfl⟩ := y
  refine htt _ _ _ ?_
  rw [if_pos rfl]
  refine hte i _ _ hlt (az hD _) ⟨ao, ?_, n - (i + 1), by omega, rfl, hlt, ?_, ?_⟩
  ·rw [List.length_map, List.length_map, List.length_range]
   omega
  ·rw [List.range_succ, List.map_append, List.map_append]
   rfl
  ·rw [iw]
 ·have e : i = n := by omega
  subst e
  exact .inl ⟨Nat.le_refl _, q D hD⟩
theorem zm {K : PySem.W.Frag} {a : Addr} {ns : List Int} {cap : L2.St} {tt : TT} {te : TE} {Qf : Addr → Hp → Prop} {H : Hp} (g : Int → Int) (hS : SqL K H a (ns.map V.int)) (hl : ns.length < sizeLine)
  (htt : ∀ (z : Int) (H' : Hp) (Q : Bool → Hp → Prop), Q true H' → tt (some (.int z) :: cap) H' Q) (hte : ∀ (z : Int) (H' : Hp) (Q : VK), aR H H' → Q (.int (g z)) H' → te (some (.int z) :: cap) H' Q)
  (q : ∀ D, H D = none → Qf D (upd H D (.lst ((ns.map g).map V.int)))) : uf (Itl K a) cap tt te Qf H := by
 intro D hD
 refine ⟨fun i m ys H1 => m = ns.length - i ∧ i ≤ ns.length ∧ ys = ((ns.take i).map g).map V.int ∧ H1 = upd H D (.lst ys), ⟨_, rfl, Nat.zero_le _, rfl, rfl⟩, ?_⟩
 rintro i m ys H1 ⟨rfl, hi, rfl, rfl⟩
 have hS1 : SqL K (upd H D (.lst (((ns.take i).map g).map V.int))) a (ns.map V.int) := (az hD _).seq hS
 by_cases hlt : i < ns.length
 ·have hg : (ns.map V.int)[i]? = some (.int ns[i]) := by
   rw [List.getElem?_map, List.getElem?_eq_getElem hlt]
   rfl
  refine .inr ⟨⟨_, _, hS1, hg⟩, fun v H2 y => ?_⟩
  obtain ⟨rfl, y⟩ := y
  have e := y _ hS1
  rw [hg] at e
  cases e
  refine htt _ _ _ ?_
  rw [if_pos rfl]
  refine hte _ _ _ (az hD _) ⟨ao, ?_, ns.length - (i + 1), by omega, rfl, hlt, ?_, ?_⟩
  ·rw [List.length_map, List.length_map, List.length_take]
   omega
  ·rw [List.take_add_one, List.getElem?_eq_getElem hlt, List.map_append, List.map_append]
   rfl
  ·rw [iw]
 ·have e : i = ns.length := by omega
  subst e
  rw [List.take_length]
  rw [List.take_length] at hS1
  exact .inl ⟨⟨_, hS1, by rw [List.length_map]; exact Nat.le_refl _⟩, q D hD⟩
theorem Fw {H : Hp} {a : Addr} {o : HO} (h : H a = some o) : upd H a o = H := funext fun b => by
 by_cases e : b = a
 ·rw [e, ao, h]
 ·rw [aC e]
end Tw
namespace Tw
open PySem L2
theorem Er {c A : Prop} [Decidable c] {D : Ends} {σ : St} {H : Hp} (R : St → Hp → Prop) (hR : R σ H) (h : ∀ σ' H', R σ' H' → D.nx σ' H') (hA : c → (∀ σ' H', R σ' H' → D.nx σ' H') → A) : if c then A else Bo D σ H := by
 by_cases q : c
 ·rw [if_pos q]
  exact hA q h
 ·rw [if_neg q]
  exact h _ _ hR
theorem yf {c A : Prop} [Decidable c] {D : Ends} {σ : St} {H : Hp} (R : St → Hp → Prop) (hR : ¬ c → R σ H) (h : ∀ σ' H', R σ' H' → D.nx σ' H') (hA : c → (∀ σ' H', R σ' H' → D.nx σ' H') → A) : if c then A else Bo D σ H := by
 by_cases q : c
 ·rw [if_pos q]
  exact hA q h
 ·rw [if_neg q]
  exact h _ _ (hR q)
theorem yc {t : TA} {i : Nat} {k : Int} {xs : List V} {σ : St} {H : Hp} {Q : VK} (ht : ∀ Q' : List V → Hp → Prop, Q' xs H → t σ H Q') (e : σ[i]? = some (some (.int k))) (hk : k ≤ 100000) (hx : xs.length ≤ 2) (h0 : -100000 ≤ k)
  (q : ∀ p H', H p = none → aR H H' → H' p = some (.lst (List.replicate k.toNat xs).flatten) → Q (.ref p) H') : tOp FZ (Gz t) (DQ i) σ H Q := by
 refine ht _ ⟨by rw [sizeLine_eq]; omega, fun p hp => ⟨_, e, p, k, xs, rfl, rfl, ao, by omega, by omega, ?_, fun r hr => q r _ ((az hp _).free hr) ((az hp _).trans (az hr _)) ao⟩⟩
 rw [sizeLine_eq]
 have : k.toNat ≤ 100000 := by omega
 have := Nat.mul_le_mul hx this
 omega
end Tw
namespace L2
open PySem PySem.Spec PyProof.Rows PySem.W
section
variable {X : Cx}
end
end L2
namespace Tw
open PySem L2
end Tw
namespace Tw
open PySem L2
end Tw
set_option Elab.async false
set_option linter.all false
set_option maxRecDepth 100000
set_option maxHeartbeats 4000000
namespace L2
open PySem PySem.Spec PyProof.Rows
theorem bU.ex {P : Program} {w : World} {H : Hp} {h : Heap} {a : Addr} {o : HO} (x : bU P w H h a o) : ∃ ob, h.get? a = some ob := by
 induction o with
 | lst xs => obtain ⟨z, its, n, r, e⟩ := x; exact ⟨_, e⟩
 | tup xs => obtain ⟨z, its, r, ob, e, c⟩ := x; exact ⟨_, e⟩
 | dK kvs => obtain ⟨z, y, vs, r, ob, es, ep, e, c⟩ := x; exact ⟨_, e⟩
 | dT kvs => obtain ⟨z, y, xs, r, ob, es, ep, e, c⟩ := x; exact ⟨_, e⟩
 | set S n => obtain ⟨ob, es, ep, t, e, c⟩ := x; exact ⟨_, e⟩
 | ins C dx fs => obtain ⟨d, z, ne, e, _⟩ := x; exact ⟨_, e⟩
 | own y => exact x
 | xd fs => obtain ⟨mA, ⟨od, es, ep, e, c⟩, r⟩ := x; exact ⟨_, e⟩
 | rng lo hi => obtain ⟨t, u, v, e⟩ := x; exact ⟨_, e⟩
 | frz ob u ih => exact ⟨_, x.1⟩
 | tbl ps => exact ⟨_, x⟩
 | met f y => exact ⟨_, x⟩
 | ext φ => exact x.2.1
structure Cov (B : Heap) (fs : List Addr) (H H' : Hp) (h : Heap) : Prop where
 old : ∀ b o, h.get? b = some o → b ∉ fs → ∃ o', B.get? b = some o' ∧ (H b = none → o' = o)
 trk : ∀ b u, H' b = some u → ∃ o, B.get? b = some o
def CX1 (P : Program) (w : World) : CXT := fun outer H s E e s' => ∃ (ea C t : Addr) (B : Heap) (H' : Hp), e = .ref ea ∧ s'.os = s.os ∧ AllBare s'.gens ∧ Un (frs outer) [] H H' s.heap s'.heap ∧ HOk P w H' s'.heap ∧
  Heap.FlyingW B outer ea (.ref C) (.ref t) s'.heap ∧ Cov B (frs outer) H H' s.heap ∧ E (.ref C) none H'
section
variable {P : Program} {w : World} {K : PySem.W.Frag} {mg : Str → Option Value} {base : Heap} {N : List Str} {qual : Str} {scope : Scope} {f : Addr} {cd : Value} {A : Around} {outer : List Env} {s0 : Shared} {H0 : Hp} {E : XK}
abbrev X1 (P : Program) (w : World) (K : PySem.W.Frag) (mg : Str → Option Value) (base : Heap) (N : List Str) (qual : Str) (scope : Scope) (f : Addr) (cd : Value) (A : Around) (outer : List Env) (s0 : Shared) (H0 : Hp) (E : XK) : Cx :=
 fG (CX1 P w) P w K mg base N qual scope f cd A outer s0 H0 E
theorem young {b : Addr} {o : Obj} (q : s0.heap.get? b = some o) (hb : b ∉ frs outer) : b ∉ frs (envOfC qual scope s0.heap.objs.size f cd :: outer) := fun z => by
 have z' : b ∈ s0.heap.objs.size :: frs outer := z
 rcases List.mem_cons.mp z' with e | e
 ·exact absurd (Heap.lt_size q) (by rw [e]; exact Nat.lt_irrefl _)
 ·exact hb e
theorem raised {pins : List (Addr × Obj)} {σ : St} {H : Hp} {s : Shared} {h1 : Heap} {ea C : Addr} {vs : List Value} (I : Inv (X1 P w K mg base N qual scope f cd A outer s0 H0 E) pins σ H s) (m : Heap.MadeExcOf s.heap h1 ea (.ref C) vs) (q : E (.ref C) none H) :
  (X1 P w K mg base N qual scope f cd A outer s0 H0 E).xe (.ref ea) { s with heap := h1 } := by
 have stk : s.heap.FunFrames base (envOfC qual scope s0.heap.objs.size f cd :: outer) := I.stack
 have hin : ∀ env ∈ (envOfC qual scope s0.heap.objs.size f cd :: outer), ∀ b, env.frame = some b → b ∈ frs (envOfC qual scope s0.heap.objs.size f cd :: outer) := fun env he b hb => List.mem_filterMap.mpr ⟨env, he, hb⟩
 have U : Un (frs outer) [] H0 H s0.heap s.heap := I.base
 have nofr : ∀ b u, H b = some u → b ∉ frs (envOfC qual scope s0.heap.objs.size f cd :: outer) := fun b u e z => by
  have := I.stkFree b z
  rw [this] at e
  cases e
 have inB : ∀ b o, s.heap.get? b = some o → b ∉ frs (envOfC qual scope s0.heap.objs.size f cd :: outer) → (PySem.W.hideAll s.heap (frs (envOfC qual scope s0.heap.objs.size f cd :: outer))).get? b = some o := fun b o e n => PySem.W.hideAll_get _ e n
 show wpAny _ _ (leaving _ _) _ _ _
 refine wpAny_leaves_madeW (base := PySem.W.hideAll s.heap (frs (envOfC qual scope s0.heap.objs.size f cd :: outer))) I.ok.frames rfl (fun b o e => PySem.W.of_hideAll _ e) (PySem.W.funFrames_hide stk hin) m fun h2 t x1 x2 x3 x4 => ?_
 have kept := x1.1
 have fr : ∀ b o, s.heap.get? b = some o → b ∈ frs outer → ∃ sl, h2.get? b = some { o with slots := sl } := fun b o e hb => by
  obtain ⟨_, o', ho', nf⟩ := stk.mem (b := b) (List.mem_cons_of_mem _ hb)
  rw [e] at ho'
  cases ho'
  exact x4 b o (m.keeps _ _ e) nf
 refine ⟨ea, C, t, _, H, rfl, I.os, I.bare, ⟨fun b o e n hb hx => ?_, fun b o e n hb hx => ?_, U.free, fun b o e hx => ?_, U.tups, U.frzs, U.tbls⟩, fun b u e => ?_, x1, ⟨fun b o e hb => ?_, fun b u e => ?_⟩, q⟩
 ·exact kept b o (inB b o (U.keep b o e n hb hx) (young e hb))
 ·obtain ⟨sl, e1⟩ := U.slot b o e n hb hx
  obtain ⟨sl', e2⟩ := fr b _ e1 hb
  exact ⟨sl', e2⟩
 ·obtain ⟨o1, e1⟩ := U.there b o e hx
  by_cases hb : b ∈ frs outer
  ·obtain ⟨sl, e2⟩ := fr b _ e1 hb
   exact ⟨_, e2⟩
  ·exact ⟨o1, kept b o1 (inB b o1 e1 (young e hb))⟩
 ·refine (I.hok b u e).stay (fun c o hc e1 => kept c o (inB c o e1 ?_)) (fun _ r => r) fun _ _ r => r
  rcases hc with rfl | hc
  ·exact nofr _ _ e
  ·exact nofr _ _ hc
 ·obtain ⟨o1, e1⟩ := U.there b o e (by simp)
  refine ⟨o1, inB b o1 e1 (young e hb), fun n => ?_⟩
  have := U.keep b o e n hb (by simp)
  rw [e1] at this
  exact Option.some.inj this
 ·obtain ⟨o, e1⟩ := (I.hok b u e).ex
  exact ⟨o, inB b o e1 (nofr b u e)⟩
theorem uZ : gJ (CX1 P w) (X1 P w K mg base N qual scope f cd A outer s0 H0 E) E := by
 intro pins σ H s e s' I h
 obtain ⟨ea, C, t, B, H', rfl, os, bare, un, hok, fl, cov, q⟩ := h
 have U : Un (frs outer) [] H0 H s0.heap s.heap := I.base
 show wpAny _ _ (leaving _ _) _ _ _
 refine wpAny_leaves_onW (base := B) I.ok.frames rfl fl fun h2 x1 x2 => ?_
 have kept := x1.1
 have fr : ∀ b o, s'.heap.get? b = some o → b ∈ frs outer → ∃ sl, h2.get? b = some { o with slots := sl } := fun b o e hb => by
  obtain ⟨_, o', ho', nf⟩ := fl.2.2.1.mem (b := b) (List.mem_cons_of_mem _ hb)
  rw [e] at ho'
  cases ho'
  exact x2 b o e nf
 refine ⟨ea, C, t, B, H', rfl, os.trans I.os, bare, ⟨fun b o e n hb hx => ?_, fun b o e n hb hx => ?_, fun b o e n hx => ?_, fun b o e hx => ?_, fun b xs e => un.tups b xs (U.tups b xs e), fun b o u e => un.frzs b o u (U.frzs b o u e), fun b ps e => ?_⟩, fun b u e => ?_, x1, ⟨fun b o e hb => ?_, cov.trk⟩, q⟩
 ·obtain ⟨o', e2, z⟩ := cov.old b o (U.keep b o e n hb hx) (young e hb)
  rw [z (U.free b o e n hx)] at e2
  exact kept b o e2
 ·obtain ⟨sl, e1⟩ := U.slot b o e n hb hx
  obtain ⟨sl', e2⟩ := un.slot b _ e1 (U.free b o e n hx) (List.mem_cons_of_mem _ hb) hx
  obtain ⟨sl2, e3⟩ := fr b _ e2 hb
  exact ⟨sl2, e3⟩
 ·obtain ⟨o1, e1⟩ := U.there b o e hx
  exact un.free b o1 e1 (U.free b o e n hx) hx
 ·obtain ⟨o1, e1⟩ := U.there b o e hx
  by_cases hb : b ∈ frs outer
  ·obtain ⟨o2, e2⟩ := un.there b o1 e1 hx
   obtain ⟨sl, e3⟩ := fr b _ e2 hb
   exact ⟨_, e3⟩
  ·obtain ⟨o', e2, _⟩ := cov.old b o1 e1 (young e hb)
   exact ⟨o', kept b o' e2⟩
 ·obtain ⟨m1, e1⟩ := U.tbls b ps e
  obtain ⟨m2, e2⟩ := un.tbls b _ e1
  exact ⟨m1 ++ m2, by rw [e2, Array.append_assoc]⟩
 ·refine (hok b u e).stay (fun c o hc e1 => ?_) (fun _ r => r) fun _ _ r => r
  have ht : ∃ o, B.get? c = some o := by
   rcases hc with rfl | hc
   ·exact cov.trk _ _ e
   ·exact cov.trk _ _ hc
  obtain ⟨o1, e2⟩ := ht
  have := fl.1 c o1 e2
  rw [e1] at this
  cases this
  exact kept c o e2
 ·obtain ⟨o1, e1⟩ := U.there b o e (by simp)
  obtain ⟨o', e2, z⟩ := cov.old b o1 e1 (young e hb)
  refine ⟨o', e2, fun n => ?_⟩
  have := U.keep b o e n hb (by simp)
  rw [e1] at this
  rw [z (U.free b o e n (by simp))]
  exact Option.some.inj this
end
section
variable {P : Program} {w : World} {K : PySem.W.Frag} {mg : Str → Option Value} {base : Heap}
theorem Fun.ok1 {x qual : Str} {st : Stmt} {f : Addr} {fd : FuncData} {N ps : List Str} {k : Nat} {sp : Sp} (F : Fun K x qual st f fd) (S : aA N ps (defScope st)) (len : ∀ vs H Q E, sp vs H Q E → vs.length = ps.length)
  (hbody : ∀ (cdv : Value) (A : Around) (outer : List Env) (s : Shared) (H : Hp) (vs : List V) (Q : VK) (E : XK), cz k (A.deeper (envOfC qual (defScope st) s.heap.objs.size f cdv)) → sp vs H Q E →
   ∃ t, PSs (X1 P w K mg base N qual (defScope st) f cdv A outer s H E) (defBody st) t ∧ t { nx := fun _ H' => Q .non H', rt := Q } (start N vs) H) : aU P w K mg base (CX1 P w) (k + 1) f fd ps sp := by
 obtain ⟨oc, od, kV, doc, pm, an, cdv, ct, osl, rfl, lk, hcd⟩ := F.ex
 exact Dy lk hcd S len fun A outer s H vs Q E hr hsp => hbody cdv A outer s H vs Q E hr hsp
end
abbrev bmV : List Value := [.type "ValueError", .type "Exception", .type "BaseException", .type "object"]
structure Exc (K : PySem.W.Frag) (mg : Str → Option Value) (x : Str) (C : Addr) : Prop where
 m : mg x = some (.ref C)
 q : PySem.W.excIn K C bmV "ValueError.__new__" = true
theorem yo {K : PySem.W.Frag} {h : Heap} {C : Addr} (X : K.In h) (q : PySem.W.excIn K C bmV "ValueError.__new__" = true) :
  ∃ bm N nm qn bs hdct sn sub ab col dd k0 k1 k2 k3 k5 mN, h.get? C = some (excClassObj nm qn C N bs bm hdct sn sub ab col dd k0 k1 k2 k3 k5 "ValueError.__new__") ∧ h.Ns N mN ∧ mN "__init__" = none ∧ OwnTail h bmV bm := by
 unfold PySem.W.excIn at q
 split at q
 ·rename_i dd cd sl ho
  split at q
  ·rename_i C' bm k0 k1 k2 k3 n k5 hm hs
   simp only [Bool.and_eq_true, beq_iff_eq, Bool.not_eq_true'] at q
   obtain ⟨⟨⟨⟨⟨rfl, rfl⟩, hdel⟩, ht⟩, hok⟩, hni⟩ := q
   obtain ⟨nm, bs, mro, ns, qn, hd, sn, sub, ab, col, del⟩ := cd
   dsimp only at hm hdel hok hni
   subst hm hdel
   have hsl : sl = #[k0, k1, k2, k3, some (.builtin "ValueError.__new__"), k5] := by
    obtain ⟨l⟩ := sl
    simp only at hs
    rw [hs]
   subst hsl
   exact ⟨bm, ns, nm, qn, bs, hd, sn, sub, ab, col, dd, k0, k1, k2, k3, k5, _, X _ _ ho, .of_isNs (PySem.W.isNs_of_in X hok), PySem.W.nsMap_none_of_in X hok hni, PySem.W.tail_of_in X ht⟩
  ·cases q
 ·cases q
section
variable {P : Program} {w : World} {K : PySem.W.Frag} {mg : Str → Option Value} {base : Heap} {N : List Str} {qual : Str} {scope : Scope} {f : Addr} {cd : Value} {A : Around} {outer : List Env} {s0 : Shared} {H0 : Hp} {E : XK}
def Fp (C : Addr) (E : XK) (ta : TA) : TS := fun _ σ H => ta σ H fun vs H1 => vs.length ≤ sizeLine ∧ E (.ref C) none H1
theorem By {x : Str} {C : Addr} {a : Expr} {ta : TA} {np cpos pos : Pos} (e : Exc K mg x C) (hg : Gl (X1 P w K mg base N qual scope f cd A outer s0 H0 E) x) (ha : PA (X1 P w K mg base N qual scope f cd A outer s0 H0 E) [a] ta)
  (hdb : (x == ("__debug__" : Str)) = false := by decide)
  (he : starEach [a] (X1 P w K mg base N qual scope f cd A outer s0 H0 E).env = [(false, eval a (X1 P w K mg base N qual scope f cd A outer s0 H0 E).env)] := by rfl) :
  PS (X1 P w K mg base N qual scope f cd A outer s0 H0 E) (.Raise (some (.Call (.Name x np) [a] [] cpos)) none pos) (Fp C E ta) := by
 intro pins s σ H D I h
 obtain ⟨bm, N', nm, qn, bs, hdct, sn, sub, ab, col, dd, k0, k1, k2, k3, k5, mN, hC, hN, hni, T⟩ := yo I.mod.kin e.q
 refine wpAny_Raise_call_subU (C := C) (nm := nm) (q := qn) (N := N') (bs := bs) (bm := bm) (hdct := hdct) (sn := sn) (sub := sub) (ab := ab) (col := col) (dd := dd) (k0 := k0) (k1 := k1) (k2 := k2) (k3 := k3) (k5 := k5)
  PySem.F.excBase_ValueError PySem.F.excBase_ValueError.hasB PySem.F.excBase_ValueError (mN := mN) (T.hasType PySem.F.excBase_ValueError.hasBase) (I.ok.hd rfl) (by rw [he]; rfl) hni (lQ I hg e.m ⟨rfl, ?_⟩ hdb)
 have h2 := ha cpos pins s σ H _ I h
 rw [he] at h2 ⊢
 refine Calls.evalArgs_plain (thn h2 fun us s2 ⟨vs, H2, I2, r2, q1, q2⟩ => ⟨rfl, ?_, I2.bk _ _ hC, hN.keeps I2.bk, T.keeps I2.bk, fun h' ea m => raised I2 m q2⟩)
 rw [← r2.length]
 exact q1
end
def uP (ea C : Addr) : HO := .ext fun h => ∃ o vs, h.get? ea = some o ∧ o.cls = .ref C ∧ o.data = .fields vs
structure ue (K : PySem.W.Frag) (C : Addr) : Prop where
 dct : PySem.W.hasDictIn K C = true
 ga : PySem.W.findIn K (.ref C) "__getattribute__" = some (some (.builtin "BaseException.__getattribute__"))
 nga : PySem.W.findIn K (.ref C) "__getattr__" = some none
 cl : PySem.W.findIn K (.ref C) "__class__" = some (some (.builtin "object.__class__"))
 gt : PySem.W.specialIn K (.builtin "object.__class__") "__get__" = some (some (.builtin "getset_descriptor.__get__"))
 tk : PySem.W.takesIn K (.builtin "object.__class__") = some true
 mo : PySem.W.mroIn K C (.type "object") = some true
 mb : PySem.W.mroIn K C (.type "BaseException") = some true
def Cx.suite (X : Cx) (ea : Addr) : Cx := { X with A := X.A.mark (some (.ref ea)), calm := false, xe := fun _ _ => False }
section
variable {X : Cx} {pins : List (Addr × Obj)} {σ : St} {H : Hp} {s : Shared} {ea : Addr}
theorem Cx.Ok.suite (ok : X.Ok) : (X.suite ea).Ok :=
 ⟨ok.mod, ok.kind, ok.glob, ok.blt, ok.above, ok.inj, ok.has, ok.cab, fun z => absurd z Bool.false_ne_true, ok.frames, ok.stk, ok.exf, ok.bs, ok.bsz, ok.noex, ok.exfs, ok.funs, ok.frf⟩
theorem Inv.suite (I : Inv X pins σ H s) : Inv (X.suite ea) pins σ H s := ⟨I.ok.suite, I.os, I.bare, I.base, I.loc, I.cell, I.free, I.freeC, I.pin, I.hok, I.len⟩
theorem Inv.unsuite (ok : X.Ok) (I : Inv (X.suite ea) pins σ H s) : Inv X pins σ H s := ⟨ok, I.os, I.bare, I.base, I.loc, I.cell, I.free, I.freeC, I.pin, I.hok, I.len⟩
theorem name_goes {M : Model} {A : Around} {E : Value → Shared → Prop} {i : Nat} {n : Str} {pos : Pos} {Q : Unit → Shared → Prop} (I : Inv X pins σ H s) (hN : X.N.Nodup) (hi : X.N[i]? = some n) (hl : X.env.scope.names.lookup n = some .local)
  (h : ∀ s', Inv X pins (σ.set i none) H s' → Q () s') : wpAny M A (do bindName X.env n .none; unbindBehindTheSuite X.env n pos) Q E s := by
 obtain ⟨m, hn, hloc⟩ := id I.loc
 have hcls : (X.env.scope.kind == .class || (X.env.scope.kind == .module && X.env.locals != X.env.globals)) = false := by rw [I.ok.kind]; rfl
 have hiσ : i < σ.length := by rw [I.len]; exact (List.getElem?_eq_some_iff.mp hi).1
 have cne := I.cne
 obtain ⟨oL, _, _, hoL, _⟩ := id hn
 refine wpAny_nameGoes_keeps hl hn hcls fun h' v hn' hs => ?_
 have old : ∀ b o, X.s₀.heap.get? b = some o → b ≠ X.env.locals := fun b o e => Nat.ne_of_lt (Nat.lt_of_lt_of_le (Heap.lt_size e) I.ok.above)
 refine h _ ⟨I.ok, I.os, I.bare, ⟨fun b o e n' hb hx => ?_, fun b o e n' hb hx => ?_, I.base.free, fun b o e hx => ?_, I.base.tups, I.base.frzs, I.base.tbls⟩, ⟨_, hn', fun j y v' e1 e2 e3 => ?_⟩, fun y c e => ?_, I.free, I.freeC, fun p hp => ?_, fun b ob e => ?_, by simpa using I.len⟩
 ·exact (hs.2 b (old b o e)).trans (I.base.keep b o e n' hb hx)
 ·obtain ⟨sl, e1⟩ := I.base.slot b o e n' hb hx
  exact ⟨sl, (hs.2 b (old b o e)).trans e1⟩
 ·obtain ⟨o', e1⟩ := I.base.there b o e hx
  exact ⟨o', (hs.2 b (old b o e)).trans e1⟩
 ·by_cases hj : j = i
  ·subst hj
   rw [List.getElem?_set_self hiσ] at e2
   cases e2
  ·rw [List.getElem?_set_ne (Ne.symm hj)] at e2
   obtain ⟨u', r', q⟩ := hloc j y v' e1 e2 e3
   refine ⟨u', r', ?_⟩
   rcases q with ⟨k, e⟩ | ⟨k, c, e, z⟩
   ·refine .inl ⟨k, ?_⟩
    have : y ≠ n := fun e => hj (qM hN e1 (e ▸ hi))
    simp [this, e]
   ·exact .inr ⟨k, c, e, z.sameBut hs (cne y c e)⟩
 ·obtain ⟨w', z⟩ := I.cell y c e
  exact ⟨w', z.sameBut hs (cne y c e)⟩
 ·obtain ⟨e, n', ne, nf, d⟩ := I.pin p hp
  exact ⟨(hs.2 p.1 ne).trans e, n', ne, nf, d⟩
 ·refine (I.hok b ob e).stay (fun c w' hc q => (hs.2 c ?_).trans q) (fun _ q => q) fun _ _ q => q
  intro z
  rcases hc with hc | hc
  ·rw [← hc, z, I.free] at e
   cases e
  ·rw [z, I.free] at hc
   cases hc
theorem landed {C t : Addr} {B : Heap} {H' : Hp} {s' : Shared} {h6 : Heap} (I : Inv X pins σ H s) (os : s'.os = s.os) (bare : AllBare s'.gens) (un : Un (frs X.stack) [] H H' s.heap s'.heap) (hok : HOk X.prog X.w H' s'.heap)
  (fl : Heap.FlyingW B X.stack ea (.ref C) (.ref t) s'.heap) (cov : Cov B (frs X.stack) H H' s.heap) (fl6 : Heap.FlyingW B X.stack ea (.ref C) (.ref t) h6) (up : s'.heap.UpToSlots h6) :
  H' ea = none ∧ Inv X pins σ (upd H' ea (uP ea C)) { s' with heap := h6 } := by
 have nea : H' ea = none := by
  cases q : H' ea with
  | none => rfl
  | some u =>
   obtain ⟨o, e⟩ := cov.trk ea u q
   rw [fl.2.1] at e
   cases e
 obtain ⟨oe, vs, hoe, hoc, hod, _⟩ := fl6.first
 have fresh : s.heap.get? ea = none := by
  cases q : s.heap.get? ea with
  | none => rfl
  | some o =>
   by_cases hb : ea ∈ frs X.stack
   ·obtain ⟨_, o', ho', nf⟩ := fl6.2.2.1.mem hb
    rw [hoe] at ho'
    cases ho'
    exact absurd hod (nf vs)
   ·obtain ⟨o', e, _⟩ := cov.old ea o q hb
    rw [fl.2.1] at e
    cases e
 have fr : ∀ b o, s'.heap.get? b = some o → b ∈ frs X.stack → ∃ sl, h6.get? b = some { o with slots := sl } := fun b o e hb => by
  obtain ⟨_, o', ho', nf⟩ := fl.2.2.1.mem hb
  rw [e] at ho'
  cases ho'
  exact up b o e nf
 have ne : ∀ b u, H' b = some u → b ≠ ea := fun b u e => aJ e nea
 refine ⟨nea, I.call' (ch := []) os ⟨fun b o e n hb hx => ?_, fun b o e n hb hx => ?_, fun b o e n hx => ?_, fun b o e hx => ?_, fun b xs e => ?_, fun b o u e => ?_, fun b ps e => ?_⟩ (fun b u e => ?_) bare fun b z => absurd z (by simp)⟩
 ·obtain ⟨o', e2, z⟩ := cov.old b o e hb
  rw [z n] at e2
  exact fl6.1 b o e2
 ·obtain ⟨sl, e1⟩ := un.slot b o e n hb hx
  obtain ⟨sl2, e2⟩ := fr b _ e1 hb
  exact ⟨sl2, e2⟩
 ·have : b ≠ ea := fun z => by rw [z, fresh] at e; cases e
  rw [aC this]
  exact un.free b o e n hx
 ·by_cases hb : b ∈ frs X.stack
  ·obtain ⟨o1, e1⟩ := un.there b o e hx
   obtain ⟨sl, e2⟩ := fr b _ e1 hb
   exact ⟨_, e2⟩
  ·obtain ⟨o', e2, _⟩ := cov.old b o e hb
   exact ⟨o', fl6.1 b o' e2⟩
 ·have q := un.tups b xs e
  rw [aC (ne b _ q)]
  exact q
 ·have q := un.frzs b o u e
  rw [aC (ne b _ q)]
  exact q
 ·obtain ⟨more, q⟩ := un.tbls b ps e
  exact ⟨more, by rw [aC (ne b _ q)]; exact q⟩
 ·by_cases hb : b = ea
  ·subst hb
   rw [ao] at e
   cases e
   refine ⟨⟨oe, vs, hoe, hoc, hod⟩, ⟨oe, hoe⟩, fun h1 h2 p k => ?_⟩
   obtain ⟨o, ws, e1, e2, e3⟩ := p
   exact ⟨o, ws, k o e1, e2, e3⟩
  ·rw [aC hb] at e
   refine (hok b u e).stay (fun c o hc e1 => ?_) (fun c r => by rw [aC (ne c _ r)]; exact r) fun c xs r => by rw [aC (ne c _ r)]; exact r
   have ht : ∃ o, B.get? c = some o := by
    rcases hc with rfl | hc
    ·exact cov.trk _ _ e
    ·exact cov.trk _ _ hc
   obtain ⟨o1, e2⟩ := ht
   have := fl.1 c o1 e2
   rw [e1] at this
   cases this
   exact fl6.1 c o e2
end
section
variable {K : PySem.W.Frag} {x C : Addr}
def ExcAt (x C : Addr) (h : Heap) : Prop := ∃ o vs, h.get? x = some o ∧ o.cls = .ref C ∧ o.data = .fields vs
theorem qC {M : Model} {h : Heap} (p : ExcAt x C h) : PySem.W.Looks M h (typeOf (.ref x)) (.ref C) := by
 obtain ⟨o, vs, h1, h2, _⟩ := p
 exact h2 ▸ (PySem.W.Looks.ld h1).andThen .now
end
end L2
namespace L2
open PySem PySem.Spec PyProof.Rows PySem.W Builtin Builtin.ObjectAttr Builtin.Getset_descriptor
section
variable {K : PySem.W.Frag} {x C : Addr}
theorem Ah {M : Model} {h : Heap} (X : K.In h) (k : ue K C) : Looks M h (find (.ref x) (.ref C) "__class__") (.bind (.builtin "getset_descriptor.__get__") (.builtin "object.__class__")) := by
 refine (looks_findIn X k.cl).andThen ?_
 refine Looks.andThen (show Looks M h (getOf (some (.builtin "object.__class__"))) (some (.builtin "getset_descriptor.__get__")) from looks_specialIn X k.gt) ?_
 exact (show Looks M h (dataDescriptor? (some (.builtin "object.__class__")) (some (.builtin "getset_descriptor.__get__"))) (some (.builtin "getset_descriptor.__get__", .builtin "object.__class__")) from (looks_takesIn X k.tk).andThen .now).andThen (Looks.tag .now)
variable {prog : Program} {w : World} {A : Around} {E : Value → Shared → Prop} {s : Shared} {R : Result → Shared → Prop}
theorem Ay {tp : Value} (X : K.In s.heap) (p : ExcAt x C s.heap) (k : ue K C) (h : R (.ok (.ret (.ref C))) s) :
  codeAny (model prog w) A (.call (.builtin "getset_descriptor.__get__") ⟨[.builtin "object.__class__", .ref x, tp], []⟩) R s := by
 obtain ⟨hh, g, dr, t, os⟩ := s
 have L0 := qC (M := model prog w) p
 have L1 := looks_mroIn (M := model prog w) X k.mo
 refine codeAny_call_builtin KF.slot_gs.plain KF.entry_gs (KF.slot_gs.check _ _ _ _ _ _ _ _ KF.type_class (KF.args_gs _ _ _) ?_)
 unfold Builtin.«getset_descriptor.__get__» Builtin.Getset_descriptor.descrGet
 rw [dga_obj]
 refine wpAny_bind (wpAny_pure ?_)
 unfold descrGetter descrCheckInstance descrNameAndClass isInstance
 simp only [KF.owner_class]
 repeat lk
 refine ⟨Code.quiet_builtin _ (by decide +kernel), codeAny_builtin KF.entry_class ?_⟩
 unfold Builtin.«object.__class__» shownTypeOf
 repeat lk
 exact h
theorem El {tk : Tok} (X : K.In s.heap) (p : ExcAt x C s.heap) (k : ue K C) (h : R (.ok (.ret (.ref C))) s) :
  codeAny (model prog w) A (.call (.builtin "BaseException.__getattribute__") ⟨[.ref x, .str "__class__" tk], []⟩) R s := by
 obtain ⟨hh, g, dr, t, os⟩ := s
 have L0 := qC (M := model prog w) p
 have L1 := looks_mroIn (M := model prog w) X k.mb
 have LI : Looks (model prog w) hh (isInstance (.ref x) (.type "BaseException")) true := L0.andThen L1
 have LF := Ah (M := model prog w) (x := x) X k
 refine codeAny_call_builtin (by decide +kernel) PySem.F.entry_bexc_ga ?_
 have hk : builtinKind "BaseException.__getattribute__" = some .slot := by decide +kernel
 have hsplit : splitId "BaseException.__getattribute__" = some ("BaseException", "__getattribute__") := by decide +kernel
 have ha := PySem.F.args_bexc_ga (.ref x) (.str "__class__" tk)
 simp only [checkBuiltinCall, hk, hsplit]
 refine wpAny_bind (LI.at ?_)
 rw [if_neg (by decide)]
 have go : wpAny (model prog w) A.in1 («object.__getattribute__» ⟨[.ref x, .str "__class__" tk], []⟩) (fun fin s' => match fin with | .done f => R (.ok f) s' | .again c' => c'.quiet = true ∧ codeAny (model prog w) A c' R s') (fun e s' => R (.error e) s') ⟨hh, g, dr, t, os⟩ := by
  refine wpAny_bind (wpAny_pure (wpAny_bind (wpAny_pure (wpAny_bind (L0.at (wpAny_bind (LF.at ?_)))))))
  show wpAny _ _ (call (.builtin "getset_descriptor.__get__") [.builtin "object.__class__", .ref x, .ref C] >>= ret) _ _ _
  exact wpAny_bind (wpAny_call (Ay X p k (wpAny_pure h)))
 cases hsig : Manifest.signature? "BaseException.__getattribute__" with
 | none => exact wpAny_pure go
 | some sig =>
  have ha' : Bind.checkArgs "BaseException.__getattribute__" sig ⟨[.ref x, .str "__class__" tk], []⟩ = pure () := by simpa only [argsOk, hsig] using ha
  simp only [ha']
  exact wpAny_pure go
theorem zO {Q : Option Value → Shared → Prop} (X : K.In s.heap) (p : ExcAt x C s.heap) (k : ue K C) (h : Q (some (.ref C)) { s with toks := s.toks + 1 }) : wpAny (model prog w) A (getAttr? (.ref x) "__class__") Q E s := by
 obtain ⟨hh, g, dr, t, os⟩ := s
 have L0 := qC (M := model prog w) p
 have L1 := looks_findIn (M := model prog w) X k.ga
 have L2 := looks_findIn (M := model prog w) X k.nga
 have f3 := PySem.F.attrBase_ValueError.ga.bind (.ref x)
 unfold getAttr? getAttrBy? getAttrBy
 refine wpAny_bind (wpAny_mkText (wpAny_bind (wpAny_attempt (wpAny_holding (wpAny_bind (L0.at (wpAny_bind (L1.at ?_))))))))
 show wpAny _ _ (getAttrByItsOwn _ _ _ _ _ _) _ _ _
 unfold getAttrByItsOwn
 refine wpAny_bind (L2.at (wpAny_bind (wpAny_attempt (wpAny_holding ?_))))
 show wpAny _ _ (boundAndCalled _ _ _) _ _ _
 unfold boundAndCalled
 exact wpAny_bind (wpAny_of_eq f3 (wpAny_call (El (s := ⟨hh, g, dr, t + 1, os⟩) X p k (wpAny_pure (wpAny_pure h)))))
theorem Br (k : ue K C) : KitX K (.ref x) (.ref C) (ExcAt x C) where
 ty := fun _ _ _ p => qC p
 it := fun _ _ X _ => by
  obtain ⟨cdD, hcD, _⟩ := any_some k.dct
  unfold clsIn at hcD
  split at hcD
  ·rename_i c' d' cd' sl' ho
   intro A' Q' E' s' kk q
   unfold isType loadHead
   exact wpAny_bind (wpAny_loadPart (kk _ _ (X _ _ ho)) (wpAny_pure q))
  ·cases hcD
 ne := fun h tp dd its n sl X htp => by
  obtain ⟨cdD, hcD, _⟩ := any_some k.dct
  refine Bool.eq_false_iff.mpr fun q => ?_
  have e : C = tp := Value.ref.inj (beq_iff_eq.mp q)
  subst e
  unfold clsIn at hcD
  split at hcD
  ·rename_i c' d' cd' sl' ho
   have z := (X _ _ ho).symm.trans htp
   cases z
  ·cases hcD
 ca := fun X p h => zO X p k h
end
section
variable {X : Cx}
theorem DK {pins : List (Addr × Obj)} {σ : St} {H : Hp} {s : Shared} {ea C : Addr} (I : Inv X pins σ H s) (h : H ea = some (uP ea C)) : ExcAt ea C s.heap := (I.hok ea _ h).1
abbrev Fy (K : PySem.W.Frag) (xs : List V) (H : Hp) (Q : VK) : Prop := ∃ (ea C : Addr) (d : V) (c : Value) (b : Bool), xs = [.ref ea, d] ∧ ((∃ D, d = .ref D ∧ c = .ref D) ∨ ∃ T, d = .ty T ∧ c = .type T) ∧ H ea = some (uP ea C) ∧ ue K C ∧ kitOne K (.ref C) c = some b ∧ Q (.bl b) H
theorem uM : iU X (.builtin "isinstance") (Fy X.K) := by
 intro pins s σ H xs us Q I r h
 obtain ⟨ea, C, d, c, b, rfl, hd, he, k, e, q⟩ := h
 obtain ⟨u, v, rfl, ru, rv⟩ := vals2 r
 cases (show u = Value.ref ea from ru)
 have ev : v = c := by
  rcases hd with ⟨D, rfl, rfl⟩ | ⟨T, rfl, rfl⟩
  ·exact rv
  ·exact rv
 subst ev
 exact kia_one (Br k) I.kIn (DK I he) e (fun z => nomatch z) fun tk => ⟨.bl b, H, I.tok tk, rfl, q⟩
end
theorem yE {P : Program} {w : World} {X : Cx} : gJ (CX1 P w) X (fun _ _ _ => False) := fun _ _ _ _ _ _ _ h => by
 obtain ⟨_, _, _, _, _, _, _, _, _, _, _, _, z⟩ := h
 exact z.elim
end L2
set_option Elab.async false
set_option linter.all false
set_option maxRecDepth 100000
set_option maxHeartbeats 4000000
namespace L2
open PySem PySem.Spec PyProof.Rows PySem.W
def Gs (K : PySem.W.Frag) (te tk : TE) : TE := fun σ H Q => te σ H fun x H1 => tk σ H1 fun y H2 => y = .int (-1) ∧ ∃ a xs, x = .ref a ∧ SqL K H2 a xs ∧ ∀ p, H2 p = none → Q (.ref p) (upd H2 p (.lst xs.reverse))
theorem Ck {X : Cx} {e k : Expr} {te tk : TE} {p2 pos : Pos} (he : PE X e te) (hk : PE X k tk) : PE X (.Subscript e (.Slice none none (some k) p2) pos) (Gs X.K te tk) := by
 intro pins s σ H Q I h
 refine Subscript_ (thn (he pins s σ H _ I h) fun v s1 ⟨x, H1, I1, r1, q1⟩ => ?_)
 refine wpAny_Slice ?_
 rw [evalPart_none]
 refine wpAny_pure ?_
 refine wpAny_pure ?_
 rw [evalPart_some]
 refine thn (hk pins s1 σ H1 _ I1 q1) fun vk s3 ⟨y, H3, I3, ry, q3⟩ => ?_
 obtain ⟨rfl, a, xs, rfl, hx, q⟩ := q3
 obtain ⟨tk0, rfl⟩ := ry
 cases r1
 have I4 : Inv X pins σ H3 { s3 with heap := s3.heap.push { cls := .type "slice", data := .fields #[.none, .none, .int (-1) tk0] } } := I3.kept (t' := s3.toks) fun b ob q => Heap.get?_push_of_some _ q
 obtain ⟨its, r, ht, hz⟩ := I4.list hx
 have hlen := r.length
 show wpAny (model X.prog X.w) X.A (subscriptTail e (.Slice none none (some k) p2) (.ref a) (.ref s3.heap.objs.size)) (EP X pins σ Q) X.xe { s3 with heap := s3.heap.push { cls := .type "slice", data := .fields #[.none, .none, .int (-1) tk0] } }
 refine tail_any (ops := [.ref a, .ref s3.heap.objs.size]) ht.isList.typeIs slot_list_getitem.lookup ?_ (by with_unfolding_all rfl)
 refine wpAny_getItem_list_slice ht.isList (Heap.IsSliceOf.new ..) .none .none (.int (-1) tk0) (by decide) ?_ (by rw [List.size_toArray]; omega)
 rw [krv_pick]
 refine ⟨.ref _, _, I4.laid (t' := s3.toks) (o := .lst xs.reverse) (fun b ob q => Heap.get?_push_of_some _ q) (Nat.le_refl _) ?_, rfl, q _ (I4.hok.fresh (Nat.le_refl _))⟩
 refine ⟨by rw [List.length_reverse]; exact hz, its.reverse, 0, r.reverse, ?_⟩
 exact Heap.get?_push_size _ rfl
def Cx.tr (X : Cx) (pins : List (Addr × Obj)) (E : XK) : Cx := { X with pn := X.pn ++ pins, xe := fun e s' => ∃ σ H s, Inv X pins σ H s ∧ CX1 X.prog X.w X.stack H s E e s' }
section
variable {X : Cx} {pins pins' : List (Addr × Obj)} {E : XK} {σ : St} {H : Hp} {s : Shared}
theorem Cx.Ok.tr (ok : X.Ok) : (X.tr pins E).Ok :=
 ⟨ok.mod, ok.kind, ok.glob, ok.blt, ok.above, ok.inj, ok.has, ok.cab, ok.hd, ok.frames, ok.stk, ok.exf, ok.bs, ok.bsz, ok.noex, ok.exfs, ok.funs, ok.frf⟩
theorem Cx.Ok.untr (ok : (X.tr pins E).Ok) : X.Ok :=
 ⟨ok.mod, ok.kind, ok.glob, ok.blt, ok.above, ok.inj, ok.has, ok.cab, ok.hd, ok.frames, ok.stk, ok.exf, ok.bs, ok.bsz, ok.noex, ok.exfs, ok.funs, ok.frf⟩
theorem Inv.tr (I : Inv X pins σ H s) : Inv (X.tr pins E) [] σ H s :=
 ⟨I.ok.tr, I.os, I.bare, I.base, I.loc, I.cell, I.free, I.freeC, fun p hp => I.pin p (by
  have hp' : p ∈ (X.pn ++ pins) ++ [] := hp
  rwa [List.append_nil] at hp'), I.hok, I.len⟩
theorem Inv.untr (I : Inv (X.tr pins E) pins' σ H s) : Inv X pins σ H s :=
 ⟨I.ok.untr, I.os, I.bare, I.base, I.loc, I.cell, I.free, I.freeC, fun p hp => I.pin p (List.mem_append_left _ hp), I.hok, I.len⟩
theorem Bd : gJ (CX1 X.prog X.w) (X.tr pins E) E := fun _ σ H s _ _ I h => ⟨σ, H, s, I.untr, h⟩
theorem SP.untr {D : Ends} {f : Flow} {s' : Shared} (h : SP (X.tr pins E) [] D f s') : SP X pins D f s' := by
 cases f with
 | next => obtain ⟨σ, H, I, q⟩ := h; exact ⟨σ, H, I.untr, q⟩
 | ret v => obtain ⟨x, σ, H, I, r, q⟩ := h; exact ⟨x, σ, H, I.untr, r, q⟩
 | brk => obtain ⟨σ, H, I, q⟩ := h; exact ⟨σ, H, I.untr, q⟩
 | cont => obtain ⟨σ, H, I, q⟩ := h; exact ⟨σ, H, I.untr, q⟩
end
abbrev TH := Addr → Ends → St → Hp → Prop
def PH (X : Cx) (hs : List ExceptHandler) (th : TH) : Prop := ∀ (pins : List (Addr × Obj)) (ea C t : Addr) (B : Heap) (H' : Hp) (s' : Shared) (σ : St) (D : Ends) (h5 : Heap),
 (∀ h6, Heap.FlyingW B X.stack ea (.ref C) (.ref t) h6 → s'.heap.UpToSlots h6 → Inv X pins σ (upd H' ea (uP ea C)) { s' with heap := h6 }) →
 Heap.FlyingW B X.stack ea (.ref C) (.ref t) h5 → s'.heap.UpToSlots h5 → H' ea = none → th C D σ H' →
 wpAny (model X.prog X.w) X.A (handleBy (.ref ea) X.env hs) (SP X pins D) X.xe { s' with heap := h5 }
def G5 : TH := fun _ _ _ _ => False
theorem Et {X : Cx} : PH X [] G5 := fun _ _ _ _ _ _ _ _ _ _ _ _ _ _ z => z.elim
theorem DN {X : Cx} {Cw ea C t : Addr} {B : Heap} {h5 : Heap} {s' : Shared} {cx : Str} {b : Bool} {pins : List (Addr × Obj)} {σ : St} {H : Hp} (ex : Exc X.K X.mg cx Cw) (exk : ue X.K Cw) (I5 : Inv X pins σ H { s' with heap := h5 })
  (fl5 : Heap.FlyingW B X.stack ea (.ref C) (.ref t) h5) (hsub : kitOne X.K (.ref C) (.ref Cw) = some b) {M : Model} {A : Around} {Q : Bool → Shared → Prop} {E : Value → Shared → Prop} (qq : Q b { s' with heap := h5 }) :
  wpAny M A (excMatches (.ref ea) (.ref Cw)) Q E { s' with heap := h5 } := by
 obtain ⟨oe, vs5, hoe, hoc, hod, _⟩ := fl5.first
 by_cases eC : C = Cw
 ·subst eC
  have hb : b = true := by
   unfold kitOne at hsub
   rw [if_pos (by simp)] at hsub
   exact (Option.some.inj hsub).symm
  subst hb
  obtain ⟨bm, N', nm, qn, bs, hdct, sn, sub, ab, col, dd, k0, k1, k2, k3, k5, mN, hC, hN', hni, T⟩ := yo I5.kIn ex.q
  exact wpAny_excMatches_sub_self hC hoe hoc (T.hasType PySem.F.excBase_ValueError.hasBase) qq
 ·have hx : exmOne X.K (.ref C) (.ref Cw) = some b := by
   unfold exmOne
   rw [if_pos (beq_iff_eq.mpr (show subIn X.K (.ref Cw) (.type "BaseException") = some true from exk.mb))]
   unfold kitOne at hsub
   rw [if_neg (by simpa using eC)] at hsub
   exact hsub
  exact (exm_one (M := M) I5.kIn (qC ⟨oe, vs5, hoe, hoc, hod⟩) hx).at qq
def hAs (K : PySem.W.Frag) (i : Nat) (Cw : Addr) (ts : TS) (th : TH) : TH := fun C D σ H => ∃ b, kitOne K (.ref C) (.ref Cw) = some b ∧ if b = true then (∀ ea, H ea = none →
 ts { nx := fun σ3 H3 => D.nx (σ3.set i none) H3, rt := fun _ _ => False } (σ.set i (some (.ref ea))) (upd H ea (uP ea C))) else th C D σ H
theorem GQ {X : Cx} {Cw : Addr} {cx n : Str} {np hpos : Pos} {i : Nat} {b0 : Stmt} {suite : List Stmt} {ts : TS} {rest : List ExceptHandler} {th : TH}
  (ex : Exc X.K X.mg cx Cw) (exk : ue X.K Cw) (hgc : Gl X cx) (hN : X.N.Nodup) (hi : X.N[i]? = some n) (hn : X.env.scope.names.lookup n = some .local)
  (hs : ∀ ea, PSs (X.suite ea) (b0 :: suite) ts) (hr : PH X rest th) (hdc : (cx == ("__debug__" : Str)) = false := by decide) :
  PH X (.ExceptHandler (some (.Name cx np)) (some n) (b0 :: suite) hpos :: rest) (hAs X.K i Cw ts th) := by
 intro pins ea C t B H' s' σ D h5 L fl5 up5 nea q
 obtain ⟨b, hsub, q⟩ := q
 have I5 := L h5 fl5 up5
 refine wpAny_handleBy_cons (codeAny_handlers_test (lQ (X := X.suite ea) I5.suite hgc ex.m ?_ hdc)) (by intro z; cases z)
 refine DN ex exk I5 fl5 hsub ?_
 cases b with
 | false =>
  rw [if_neg Bool.false_ne_true] at q
  exact hr pins ea C t B H' s' σ D h5 L fl5 up5 nea q
 | true =>
  rw [if_pos rfl] at q
  refine codeAny_handlers_suite_as ?_
  refine lands_againW fl5 fun h6 fl6 up6 => ?_
  have I6 := L h6 fl6 (up5.trans up6)
  refine lL (X := X.suite ea) (v := .ref ea) I6.suite hN hi (.inl hn) rfl (fun s7 I7 => ?_) (.inr hn)
  refine wpAny_mono (hs ea pins s7 _ _ _ I7 (q ea nea)) (fun fw s8 q8 => ?_) fun _ _ z => False.elim z
  cases fw with
  | next =>
   obtain ⟨σ8, H8, I8, n8⟩ := q8
   exact name_goes (I8.unsuite I5.ok) hN hi hn fun s9 I9 => ⟨_, H8, I9, n8⟩
  | ret v => obtain ⟨_, _, _, _, _, z⟩ := q8; exact False.elim z
  | brk => obtain ⟨_, _, _, z⟩ := q8; exact False.elim z
  | cont => obtain ⟨_, _, _, z⟩ := q8; exact False.elim z
def Gx (tb : XK → TS) (th : TH) : TS := fun D σ H => tb (fun cv _ H2 => ∃ C, cv = .ref C ∧ ∀ σ' : St, σ'.length = σ.length → th C D σ' H2) D σ H
theorem Fx {X : Cx} {body : List Stmt} {h0 : ExceptHandler} {hs : List ExceptHandler} {pos : Pos} {tb : XK → TS} {th : TH} (hst : X.stack = X.env :: X.outer) (hfr : X.env.frame = some X.env.locals)
  (hb : ∀ pins E, PSs (X.tr pins E) body (tb E)) (hh : PH X (h0 :: hs) th) : PS X (.Try body (h0 :: hs) [] [] pos) (Gx tb th) := by
 intro pins s σ H D I h
 refine wpAny_Try_except ?_
 refine wpAny_mono (hb pins _ [] s σ H D I.tr h) (fun fw s1 q => ?_) fun e s1 q => ?_
 ·have q' := q.untr
  cases fw with
  | next => exact wpAny_execs_nil q'
  | ret v => exact q'
  | brk => exact q'
  | cont => exact q'
 ·obtain ⟨σ1, H1, s0, I1, ea, C', t', B, H', rfl, os, bare, un, hok, fl, cov, C, eC, q2⟩ := q
  cases eC
  have frm : X.A.frames = some (X.env :: X.outer) := by rw [← hst]; exact I.ok.frames
  refine wpAny_looks_onW (base := B) frm hfr (by rw [← hst]; exact fl) fun h4 held up4 => wpAny_landsW held fun h5 fl5 up5 => ?_
  have fl5' : Heap.FlyingW B X.stack ea (.ref C') (.ref t') h5 := by rw [hst]; exact fl5
  obtain ⟨nea, _⟩ := landed I1 os bare un hok fl cov fl5' (up4.trans up5)
  exact hh pins ea C' t' B H' s1 σ1 D h5 (fun h6 fl6 up6 => (landed I1 os bare un hok fl cov fl6 up6).2) fl5' (up4.trans up5) nea (q2 σ1 (by rw [I1.len, I.len]))
end L2
namespace L2
open PySem PySem.Spec PyProof.Rows PySem.W
def Ci (r r' r'' : R2) (ta tb tc td : TE) : TE := fun σ H Q => ta σ H fun x H1 => tb σ H1 fun y H2 => r x y H2 fun z H3 => ∃ k, z = .bl k ∧
 (if k = true then tc σ H3 fun w' H4 => r' y w' H4 fun z2 H5 => ∃ k2, z2 = .bl k2 ∧ (if k2 = true then td σ H5 fun w2 H6 => r'' w' w2 H6 Q else Q (.bl false) H5) else Q (.bl false) H3)
theorem zE {X : Cx} {a b c d : Expr} {ta tb tc td : TE} {pos : Pos} {op op' op'' : CmpOp} {r r' r'' : R2} (ho : OpR X (compareOp op) r) (ho' : OpR X (compareOp op') r') (ho'' : OpR X (compareOp op'') r'') (ha : PE X a ta) (hb : PE X b tb) (hc : PE X c tc) (hd : PE X d td)
  (hm : lastMarks [op, op', op''] [b, c, d] = false := by with_unfolding_all rfl) : PT X (.Compare a [op, op', op''] [b, c, d] pos) (Bk (Ci r r' r'' ta tb tc td)) := by
 intro pins s σ H Q I h
 refine isTrue_chain (thn (ha pins s σ H _ I h) fun v s1 ⟨x, H1, I1, r1, q1⟩ => test_link (thn (hb pins s1 σ H1 _ I1 q1) fun u s2 ⟨y, H2, I2, r2, q2⟩ =>
  thn (ho pins s2 σ H2 x y v u _ I2 r1 r2 q2) fun d s3 ⟨z, H3, I3, r3, k, e, q3⟩ => ?_)) hm
 subst e
 cases r3
 refine wpAny_truthy_bool ?_
 cases k with
 | false =>
  obtain ⟨k', e', q'⟩ := q3
  cases e'
  exact ite_ff ⟨H3, I3, q'⟩
 | true =>
  refine ite_tt (test_link (thn (hc pins s3 σ H3 _ I3 q3) fun w' s4 ⟨z', H4, I4, r4, q4⟩ => thn (ho' pins s4 σ H4 y z' u w' _ I4 r2 r4 q4) fun d' s5 ⟨z2, H5, I5, r5, k2, e2, q5⟩ => ?_))
  subst e2
  cases r5
  refine wpAny_truthy_bool ?_
  cases k2 with
  | false =>
   obtain ⟨k', e', q'⟩ := q5
   cases e'
   exact ite_ff ⟨H5, I5, q'⟩
  | true =>
   refine ite_tt (test_last (thn (hd pins s5 σ H5 _ I5 q5) fun w2 s6 ⟨z3, H6, I6, r6, q6⟩ => thn (ho'' pins s6 σ H6 z' z3 w' w2 _ I6 r4 r6 q6) fun d2 s7 ⟨z4, H7, I7, r7, k3, e3, q7⟩ => ?_))
   subst e3
   cases r7
   exact wpAny_truthy_bool ⟨H7, I7, q7⟩
end L2
set_option Elab.async false
set_option linter.all false
set_option maxRecDepth 100000
set_option maxHeartbeats 4000000
namespace L2
open PySem PySem.Spec PyProof.Rows PySem.W
def aK (a : Addr) (o : Obj) : HO := .ext fun h => h.get? a = some o
theorem cY {P : Program} {w : World} {H : Hp} {h : Heap} {a : Addr} {o : Obj} (e : h.get? a = some o) : bU P w H h a (aK a o) := ⟨e, ⟨o, e⟩, fun _ _ p k => k o p⟩
theorem cu {P : Program} {w : World} {H : Hp} {h : Heap} {a : Addr} {o : Obj} (hok : HOk P w H h) (e : H a = some (aK a o)) : h.get? a = some o := (hok a _ e).1
def hide (H : Hp) (cs : List Addr) : Hp := fun b => if b ∈ cs then none else H b
def over (H : Hp) (cs : List Addr) (H' : Hp) : Hp := fun b => if b ∈ cs then H b else H' b
theorem lJ {H : Hp} {cs : List Addr} {b : Addr} (h : b ∈ cs) : hide H cs b = none := if_pos h
theorem bG {H : Hp} {cs : List Addr} {b : Addr} (h : b ∉ cs) : hide H cs b = H b := if_neg h
theorem pL {H H' : Hp} {cs : List Addr} {b : Addr} (h : b ∈ cs) : over H cs H' b = H b := if_pos h
theorem cM {H H' : Hp} {cs : List Addr} {b : Addr} (h : b ∉ cs) : over H cs H' b = H' b := if_neg h
theorem sG (H : Hp) (cs : List Addr) : over H cs (hide H cs) = H := by
 funext b
 by_cases h : b ∈ cs
 ·rw [pL h]
 ·rw [cM h, bG h]
theorem Aa {H H' : Hp} {cs : List Addr} {a : Addr} {o : HO} (h : a ∉ cs) : over H cs (upd H' a o) = upd (over H cs H') a o := by
 funext b
 by_cases hb : b ∈ cs
 ·have : b ≠ a := fun e => h (e ▸ hb)
  rw [pL hb, aC this, pL hb]
 ·rw [cM hb]
  by_cases e : b = a
  ·subst e
   rw [ao, ao]
  ·rw [aC e, aC e, cM hb]
section
variable {P : Program} {w : World} {H H' : Hp} {h h' : Heap} {cs : List Addr}
theorem yu (hok : HOk P w H h) (hx : ∀ a ∈ cs, ∃ o, H a = some (aK a o)) : HOk P w (hide H cs) h := fun b u e => by
 have hb : b ∉ cs := fun z => by rw [lJ z] at e; cases e
 rw [bG hb] at e
 refine (hok b u e).stay (fun _ _ _ q => q) (fun c q => ?_) fun c xs q => ?_
 ·rw [bG]
  ·exact q
  ·intro z
   obtain ⟨o, e2⟩ := hx c z
   rw [q] at e2
   cases e2
 ·rw [bG]
  ·exact q
  ·intro z
   obtain ⟨o, e2⟩ := hx c z
   rw [q] at e2
   cases e2
theorem xZ {fs : List Addr} (hok : HOk P w H h) (hok' : HOk P w H' h') (hx : ∀ a ∈ cs, ∃ o, H a = some (aK a o)) (hf : ∀ b ∈ fs, H b = none) (u : Un fs [] (hide H cs) H' h h') :
  HOk P w (over H cs H') h' ∧ Un fs [] H (over H cs H') h h' := by
 have get : ∀ a ∈ cs, ∃ o, H a = some (aK a o) ∧ h.get? a = some o := fun a ha => by
  obtain ⟨o, e⟩ := hx a ha
  exact ⟨o, e, cu hok e⟩
 have gone : ∀ a ∈ cs, H' a = none := fun a ha => by
  obtain ⟨o, _, e⟩ := get a ha
  exact u.free a o e (lJ ha) (by simp)
 have out : ∀ b, H b = none → b ∉ cs := fun b n z => by
  obtain ⟨o, e, _⟩ := get b z
  rw [n] at e
  cases e
 refine ⟨fun b v e => ?_, fun b o e n hb hx' => ?_, fun b o e n hb hx' => ?_, fun b o e n hx' => ?_, fun b o e hx' => u.there b o e hx', fun b xs e => ?_, fun b o v e => ?_, fun b ps e => ?_⟩
 ·by_cases hb : b ∈ cs
  ·obtain ⟨o, e1, e2⟩ := get b hb
   rw [pL hb, e1] at e
   cases e
   exact cY (u.keep b o e2 (lJ hb) (fun z => by rw [hf b z] at e1; cases e1) (by simp))
  ·rw [cM hb] at e
   refine (hok' b v e).stay (fun _ _ _ q => q) (fun c q => ?_) fun c xs q => ?_
   ·rw [cM]
    ·exact q
    ·intro z
     rw [gone c z] at q
     cases q
   ·rw [cM]
    ·exact q
    ·intro z
     rw [gone c z] at q
     cases q
 ·exact u.keep b o e (by rw [bG (out b n)]; exact n) hb hx'
 ·exact u.slot b o e (by rw [bG (out b n)]; exact n) hb hx'
 ·rw [cM (out b n)]
  exact u.free b o e (by rw [bG (out b n)]; exact n) hx'
 ·have hb : b ∉ cs := fun z => by
   obtain ⟨o, e1⟩ := hx b z
   rw [e] at e1
   cases e1
  rw [cM hb]
  exact u.tups b xs (by rw [bG hb]; exact e)
 ·have hb : b ∉ cs := fun z => by
   obtain ⟨o, e1⟩ := hx b z
   rw [e] at e1
   cases e1
  rw [cM hb]
  exact u.frzs b o v (by rw [bG hb]; exact e)
 ·have hb : b ∉ cs := fun z => by
   obtain ⟨o, e1⟩ := hx b z
   rw [e] at e1
   cases e1
  rw [cM hb]
  exact u.tbls b ps (by rw [bG hb]; exact e)
end
structure qN where
 name : Str
 qual : Str
 params : Arguments
 body : List Stmt
 scope : Scope
 ps : List Str
 xs : List Str
structure iW (H : Hp) (f : Addr) (c : qN) (cs : List Addr) (fvs : List V) : Prop where
 ex : ∃ (cd : Addr) (doc pm ctv : Value) (oc : Obj) (vs : Array Value) (t : Tok), H f = some (aK f (fnMade c.name c.qual c.params c.body c.scope (c.xs.zip cs) doc pm cd ctv)) ∧ H cd = some (aK cd oc) ∧ oc.data = .fields vs ∧ vs[1]? = some (.str c.qual t)
 cells : ∀ (i : Nat) (a : Addr), cs[i]? = some a → ∃ (co : Obj) (v : V) (u : Value), fvs[i]? = some v ∧ H a = some (aK a co) ∧ co.data = .cell (some u) ∧ RelV v u
 nd : cs.Nodup
 len : cs.length = c.xs.length
 lenV : fvs.length = c.xs.length
theorem iW.same {H H' : Hp} {f : Addr} {c : qN} {cs : List Addr} {fvs : List V} (h : iW H f c cs fvs) (s : ∀ b o, H b = some (aK b o) → H' b = some (aK b o)) : iW H' f c cs fvs := by
 obtain ⟨⟨cd, doc, pm, ctv, oc, vs, t, h1, h2, h3, h4⟩, hc, nd, len, lenV⟩ := h
 refine ⟨⟨cd, doc, pm, ctv, oc, vs, t, s _ _ h1, s _ _ h2, h3, h4⟩, fun i a e => ?_, nd, len, lenV⟩
 obtain ⟨co, v, u, e1, e2, e3⟩ := hc i a e
 exact ⟨co, v, u, e1, s _ _ e2, e3⟩
structure qD (N : List Str) (c : qN) : Prop where
 kind : c.scope.kind = .function
 co : c.scope.isCoroutine = false
 gen : c.scope.isGenerator = false
 nocell : ∀ x ∈ c.scope.names, x.2 ≠ .cell
 pre : N.take (c.ps.length + c.xs.length) = c.ps ++ c.xs
 nd : N.Nodup
 par : ∀ n ∈ c.ps, c.scope.names.lookup n = some .local
 fr : ∀ x ∈ c.scope.names, x.2 = .free → x.1 ∈ c.xs
 frn : ∀ n ∈ c.xs, c.scope.names.lookup n ≠ some .local
def oZ (P : Program) (w : World) (K : PySem.W.Frag) (mg : Str → Option Value) (base : Heap) (N : List Str) (qual : Str) (scope : Scope) (f : Addr) (cd : Value) (cl : List (Str × Addr)) (A : Around) (outer : List Env) (s : Shared) (H : Hp) : Cx where
 prog := P
 w := w
 K := K
 mg := mg
 base := base
 A := A.deeper (envX qual scope s.heap.objs.size f cd cl)
 N := N
 s₀ := s
 H₀ := H
 env := envX qual scope s.heap.objs.size f cd cl
 outer := outer
 stack := envX qual scope s.heap.objs.size f cd cl :: outer
 ex := []
 calm := true
 fn := fun _ => false
 pn := []
 xe := fun _ _ => False
theorem cg : ∀ {xs : List Str} {cs : List Addr} {x : Str} {c : Addr}, (xs.zip cs).lookup x = some c → ∃ i : Nat, xs[i]? = some x ∧ cs[i]? = some c
 | [], _, _, _, h => by simp at h
 | _ :: _, [], _, _, h => by simp at h
 | y :: xs, d :: cs, x, c, h => by
  rw [List.zip_cons_cons, List.lookup_cons] at h
  cases hb : x == y with
  | true =>
   rw [hb] at h
   cases h
   exact ⟨0, by rw [eq_of_beq hb]; rfl, rfl⟩
  | false =>
   rw [hb] at h
   obtain ⟨i, h1, h2⟩ := cg h
   exact ⟨i + 1, h1, h2⟩
theorem tW : ∀ {xs : List Str} {cs : List Addr} {x : Str}, cs.length = xs.length → x ∈ xs → ∃ c, (xs.zip cs).lookup x = some c
 | [], _, _, _, h => by simp at h
 | _ :: _, [], _, l, _ => by simp at l
 | y :: xs, d :: cs, x, l, h => by
  rw [List.zip_cons_cons, List.lookup_cons]
  cases hb : x == y with
  | true => exact ⟨d, rfl⟩
  | false =>
   rcases List.mem_cons.mp h with e | e
   ·rw [e] at hb
    simp at hb
   ·exact tW (by simpa using l) e
theorem v8 : ∀ {xs : List Str} {cs : List Addr} {i : Nat} {x : Str} {c : Addr}, xs.Nodup → xs[i]? = some x → cs[i]? = some c → (xs.zip cs).lookup x = some c
 | [], _, _, _, _, _, h, _ => by simp at h
 | _ :: _, [], _, _, _, _, _, h => by simp at h
 | y :: xs, d :: cs, 0, x, c, _, h1, h2 => by
  simp at h1 h2
  subst h1 h2
  simp
 | y :: xs, d :: cs, i + 1, x, c, nd, h1, h2 => by
  have h1' : xs[i]? = some x := by simpa using h1
  have hne : (x == y) = false := by
   cases hb : x == y with
   | false => rfl
   | true =>
    rw [eq_of_beq hb] at h1'
    exact absurd (List.mem_of_getElem? h1') (List.nodup_cons.mp nd).1
  rw [List.zip_cons_cons, List.lookup_cons, hne]
  exact v8 (List.nodup_cons.mp nd).2 h1' (by simpa using h2)
theorem lookup_mem : ∀ {l : List (Str × Value)} {y : Str} {u : Value}, (l.map (·.1)).Nodup → (y, u) ∈ l → l.lookup y = some u
 | [], _, _, _, h => by simp at h
 | (z, v) :: l, y, u, nd, h => by
  rw [List.map_cons] at nd
  rw [List.lookup_cons]
  rcases List.mem_cons.mp h with e | e
  ·cases e
   simp
  ·cases hb : y == z with
   | true =>
    rw [eq_of_beq hb] at e
    exact absurd (List.mem_map.mpr ⟨_, e, rfl⟩) (List.nodup_cons.mp nd).1
   | false => exact lookup_mem (List.nodup_cons.mp nd).2 e
theorem oW : ∀ (ps : List Str) (us : List Value), ((ps.zip us).map (·.1)).Sublist ps
 | [], _ => by simp
 | _ :: _, [] => by simp
 | p :: ps, u :: us => by
  rw [List.zip_cons_cons, List.map_cons]
  exact (oW ps us).cons₂ _
theorem yz {ps : List Str} {us : List Value} {i : Nat} {y : Str} {u : Value} (nd : ps.Nodup) (h1 : ps[i]? = some y) (h2 : us[i]? = some u) : (ps.zip us).reverse.lookup y = some u := by
 refine lookup_mem ?_ ?_
 ·rw [List.map_reverse]
  refine List.pairwise_reverse.mpr (List.Pairwise.imp (fun h => Ne.symm h) (show ((ps.zip us).map (·.1)).Nodup from nd.sublist (oW ps us)))
 ·rw [List.mem_reverse]
  exact List.mem_of_getElem? (i := i) (by rw [List.getElem?_zip_eq_some]; exact ⟨h1, h2⟩)
section
variable {P : Program} {w : World} {K : PySem.W.Frag} {mg : Str → Option Value} {base : Heap} {A : Around} {outer : List Env} {s : Shared} {H : Hp} {f : Addr} {c : qN} {cs : List Addr} {fvs vs : List V} {us : List Value} {N : List Str} {k : Nat} {Q : VK} {E : XK}
theorem CZ (S : qD N c) (hr : cz (k + 1) A) (e0 : rH P w K mg base A outer s H) (ca : iW H f c cs fvs) (hb : ∀ (cl : List (Str × Addr)) (doc pm cd ctv : Value), BindsTo s (fnX c.name c.qual c.params c.body c.scope cl .none .none doc pm none cd ctv) ⟨us, []⟩ (c.ps.zip us)) (r : Vals vs us) (hl : vs.length = c.ps.length)
  (body : ∀ cd : Addr, cz k (A.deeper (envX c.qual c.scope s.heap.objs.size f (.ref cd) (c.xs.zip cs))) → ∃ t, PSs (oZ P w K mg base N c.qual c.scope f (.ref cd) (c.xs.zip cs) A outer s (hide H cs)) c.body t ∧ t { nx := fun _ H' => Q .non (over H cs H'), rt := fun v H' => Q v (over H cs H') } (start N (vs ++ fvs)) (hide H cs)) :
  codeAny (model P w) A (.call (.ref f) ⟨us, []⟩) (CR CX0 outer P w H s Q E) s := by
 obtain ⟨⟨cd, doc, pm, ctv, oc, ws, tk, h1, h2, h3, h4⟩, hc, nd, len, lenV⟩ := ca
 have hx : ∀ a ∈ cs, ∃ o, H a = some (aK a o) := fun a ha => by
  obtain ⟨i, hi⟩ := List.getElem?_of_mem ha
  obtain ⟨co, v, u, _, e, _⟩ := hc i a hi
  exact ⟨co, e⟩
 have lim : s.heap.NoLimit := e0.mod.nolimit.keeps fun b o e => (e0.bs b o e).1
 have ndP : c.ps.Nodup := by
  have : c.ps.Sublist N := by
   have h5 : (c.ps ++ c.xs).Sublist N := by rw [← S.pre]; exact List.take_sublist _ _
   exact (List.sublist_append_left _ _).trans h5
  exact S.nd.sublist this
 have ndX : c.xs.Nodup := by
  have : c.xs.Sublist N := by
   have h5 : (c.ps ++ c.xs).Sublist N := by rw [← S.pre]; exact List.take_sublist _ _
   exact (List.sublist_append_right _ _).trans h5
  exact S.nd.sublist this
 have hpl : c.ps.length + c.xs.length ≤ N.length := by
  have := congrArg List.length S.pre
  rw [List.length_take, List.length_append] at this
  omega
 refine codeAny_call_def (fd := fnX c.name c.qual c.params c.body c.scope (c.xs.zip cs) .none .none doc pm none (.ref cd) ctv) (binds := c.ps.zip us) hr.depth (cu e0.hok h1) rfl lim ⟨cd, oc, ws, tk, rfl, cu e0.hok h2, h3, h4⟩ rfl (hb _ _ _ _ _) S.nocell (fun y hy => S.par _ (List.of_mem_zip hy).1) (fun h0 hns hk => ?_) S.co S.gen S.kind
 obtain ⟨t, ht, hq⟩ := body cd (hr.deeper _)
 have hok0 := yu e0.hok hx
 have I : Inv (oZ P w K mg base N c.qual c.scope f (.ref cd) (c.xs.zip cs) A outer s (hide H cs)) [] (start N (vs ++ fvs)) (hide H cs) { s with heap := h0, toks := s.toks + (c.ps.zip us).length } := by
  refine ⟨⟨e0.mod, S.kind, rfl, rfl, Nat.le_refl _, fun y z b h5 h6 => ?_, fun y hy => ?_, fun y b h5 _ => absurd h5 Bool.false_ne_true, fun _ => hr.hd, Around.frames_deeper e0.frames, .inr ⟨rfl, rfl⟩, fun b z => absurd (show b ∈ ([] : List Addr) from z) (by simp), fun b o e => ⟨(e0.bs b o e).1, ?_⟩, e0.bsz, fun b _ _ z => absurd (show b ∈ ([] : List Addr) from z) (by simp), fun b z => absurd (show b ∈ ([] : List Addr) from z) (by simp), e0.funs, fun b hb' => ?_⟩,
   rfl, e0.bare, Un.kept hk, ⟨_, hns, fun i y v h5 h6 h7 => ?_⟩, fun y b h5 => ?_, hok0.fresh (Nat.le_refl _), fun y b h5 => ?_, fun p hp => absurd (show p ∈ ([] : List (Addr × Obj)) from hp) (by simp), hok0.kept hk, ?_⟩
  ·obtain ⟨i, i1, i2⟩ := cg h5
   obtain ⟨j, j1, j2⟩ := cg h6
   have := (List.getElem?_inj (List.getElem?_eq_some_iff.mp i2).1 nd).mp (i2.trans j2.symm)
   subst this
   exact Option.some.inj (i1.symm.trans j1)
  ·have hy : c.scope.names.lookup y = some .cell ∨ c.scope.names.lookup y = some .free := hy
   rcases hy with hy | hy
   ·exact absurd rfl (S.nocell _ (PySem.mem_of_lookup hy))
   ·exact tW len (S.fr _ (PySem.mem_of_lookup hy) rfl)
  ·have n := (e0.bs b o e).2
   show hide H cs b = none
   rw [bG]
   ·exact n
   ·intro z
    obtain ⟨o', e'⟩ := hx b z
    rw [n] at e'
    cases e'
  ·have n := e0.frf b hb'
   show hide H cs b = none
   rw [bG]
   ·exact n
   ·intro z
    obtain ⟨o', e'⟩ := hx b z
    rw [n] at e'
    cases e'
  ·have hi : i < (vs ++ fvs).length := by
    unfold start at h6
    by_cases hi : i < (vs ++ fvs).length
    ·exact hi
    ·rw [List.getElem?_append_right (by simpa using hi)] at h6
     rw [List.getElem?_replicate] at h6
     split at h6 <;> cases h6
   have ha : (vs ++ fvs)[i]? = some v := by
    unfold start at h6
    rw [List.getElem?_append_left (by simpa using hi), List.getElem?_map] at h6
    cases e : (vs ++ fvs)[i]? with
    | none => rw [e] at h6; cases h6
    | some a => rw [e] at h6; cases h6; rfl
   rw [List.length_append] at hi
   have hp : (c.ps ++ c.xs)[i]? = some y := by
    rw [← S.pre, List.getElem?_take_of_lt (by omega)]
    exact h5
   by_cases hi2 : i < vs.length
   ·rw [List.getElem?_append_left hi2] at ha
    rw [List.getElem?_append_left (by omega)] at hp
    obtain ⟨u, hu, rv⟩ := r.get ha
    exact ⟨u, rv, .inl ⟨S.par y (List.mem_of_getElem? hp), yz ndP hp hu⟩⟩
   ·rw [List.getElem?_append_right (by omega)] at ha
    rw [List.getElem?_append_right (by omega), ← hl] at hp
    have hj : i - vs.length < cs.length := by
     have := (List.getElem?_eq_some_iff.mp hp).1
     omega
    obtain ⟨b, hb5⟩ : ∃ b, cs[i - vs.length]? = some b := ⟨_, List.getElem?_eq_getElem hj⟩
    obtain ⟨co, v', u, q1, q2, q3, q4⟩ := hc _ b hb5
    rw [ha] at q1
    cases q1
    have hfree : c.scope.names.lookup y = some .free := by
     rcases h7 with q | q | q
     ·exact absurd q (S.frn y (List.mem_of_getElem? hp))
     ·exact absurd rfl (S.nocell _ (PySem.mem_of_lookup q))
     ·exact q
    exact ⟨u, q4, .inr ⟨.inr hfree, b, v8 ndX hp hb5, co, hk _ _ (cu e0.hok q2), q3⟩⟩
  ·obtain ⟨i, i1, i2⟩ := cg h5
   obtain ⟨co, v', u, q1, q2, q3, q4⟩ := hc _ b i2
   exact ⟨_, co, hk _ _ (cu e0.hok q2), q3⟩
  ·obtain ⟨i, i1, i2⟩ := cg h5
   exact lJ (List.mem_of_getElem? i2)
  ·unfold start
   show _ = N.length
   rw [List.length_append, List.length_map, List.length_replicate, List.length_append]
   omega
 have fin : ∀ {s' : Shared} {σ' : St} {H' : Hp} {v : V} {u : Value}, Inv (oZ P w K mg base N c.qual c.scope f (.ref cd) (c.xs.zip cs) A outer s (hide H cs)) [] σ' H' s' → RelV v u → Q v (over H cs H') → CE outer P w H s Q u s' := fun {s' σ' H' v u} J rv q => by
  obtain ⟨k1, k2⟩ := xZ e0.hok J.hok hx e0.frf J.base
  exact ⟨v, over H cs H', J.os, J.bare, k2, k1, rv, q⟩
 refine wpAny_mono (ht [] _ (start N (vs ++ fvs)) (hide H cs) _ I hq) (fun fl s' hs => ?_) fun e s' hs => False.elim hs
 cases fl with
 | ret u =>
  obtain ⟨v, σ', H', J, rv, q⟩ := hs
  exact fin J rv q
 | next =>
  obtain ⟨σ', H', J, q⟩ := hs
  exact fin (v := V.non) (u := Value.none) J rfl q
 | brk =>
  obtain ⟨_, _, _, q⟩ := hs
  exact False.elim q
 | cont =>
  obtain ⟨_, _, _, q⟩ := hs
  exact False.elim q
end
end L2
set_option Elab.async false
set_option linter.all false
set_option maxRecDepth 100000
set_option maxHeartbeats 4000000
namespace L2
open PySem PySem.Spec PyProof.Rows PySem.W
def oU (P : Program) (w : World) (K : PySem.W.Frag) (mg : Str → Option Value) (base : Heap) (k : Nat) (sp : Addr → Sp) : Prop :=
 ∀ (f : Addr) (A : Around) (outer : List Env) (s : Shared) (H : Hp) (us : List Value) (vs : List V) (Q : VK), cz k A → rH P w K mg base A outer s H → Vals vs us → sp f vs H Q E0 →
  codeAny (model P w) A (.call (.ref f) ⟨us, []⟩) (CR CX0 outer P w H s Q E0) s
theorem oU.mono {P : Program} {w : World} {K : PySem.W.Frag} {mg : Str → Option Value} {base : Heap} {j k : Nat} {sp : Addr → Sp} (F : oU P w K mg base j sp) (h : j ≤ k) : oU P w K mg base k sp :=
 fun f A outer s H us vs Q hr => F f A outer s H us vs Q (hr.mono h)
def Es (i : Nat) (sp : Addr → Sp) (t : TA) : TE := fun σ H Q => ∃ f o fd, σ[i]? = some (some (.ref f)) ∧ H f = some (aK f o) ∧ o.data = .func fd ∧ t σ H fun vs H1 => H1 f = some (aK f o) ∧ sp f vs H1 Q E0
section
variable {X : Cx} {k i : Nat} {x : Str} {p pos : Pos} {e : Expr} {es : List Expr} {t : TA} {sp : Addr → Sp}
theorem di (C : oU X.prog X.w X.K X.mg X.base k sp) (hr : cz k X.A) (hi : X.N[i]? = some x) (ha : PA X (e :: es) t) (hv : Vis X.env.scope x := by first | exact Or.inl rfl | exact Or.inr (Or.inl rfl) | exact Or.inr (Or.inr rfl))
  (hd : (x == ("__debug__" : Str)) = false := by decide) (hcd : (x == ("__classdict__" : Str)) = false := by decide)
  (he : starEach (e :: es) X.env = (false, eval e X.env) :: starEach es X.env := by rfl) (hpl : (backTo pos (starEach es X.env)).any (·.1) = false := by rfl) : PE X (.Call (.Name x p) (e :: es) [] pos) (Es i sp t) := by
 intro pins s σ H Q I h
 obtain ⟨f, o, fd, hs, hf, ho, h⟩ := h
 refine wpAny_Call_Name_kw (thn (wF hi hv hd hcd pins s σ H (fun v H' => v = .ref f ∧ H' = H) I ⟨_, hs, rfl, rfl⟩) fun u s1 hu => ?_)
 obtain ⟨v, H1, I1, rv, rfl, rfl⟩ := hu
 obtain rfl : u = Value.ref f := rv
 have fa : ∀ {H : Hp} {s : Shared}, Inv X pins σ H s → H f = some (aK f o) → FnAt f s.heap := fun {H s} J hf => by
  obtain ⟨oc, od, dt, sl⟩ := o
  have ho : dt = .func fd := ho
  subst ho
  exact ⟨oc, od, fd, sl, cu J.hok hf⟩
 refine callWith_F (fa I1 hf) (thn (ha pos pins s1 σ H1 _ I1 h) fun us s2 ⟨vs, H2, I2, r, hf2, q⟩ => ⟨fa I2 hf2, ?_⟩) he hpl
 refine wpAny_call (codeAny_mono (C f X.A X.stack s2 H2 us vs Q hr I2.env0 r q) fun r s' hq => ?_)
 cases r with
 | error e => exact False.elim hq
 | ok fl =>
  cases fl with
  | ret u => exact I2.after hq
  | next => exact False.elim hq
  | brk => exact False.elim hq
  | cont => exact False.elim hq
end
def BMain (mg : Str → Option Value) (h : Heap) : Prop := ∃ bm ob, mg "__builtins__" = some (.ref bm) ∧ bm ≠ builtinsNs ∧ h.get? bm = some ob ∧ ob.cls = .type "module" ∧ ob.dict = some builtinsNs ∧ ob.data = .plain
def TabAt (H : Hp) (P : Addr) (pos : Pos) (qual : Str) : Prop := ∃ ps : Array Value, H P = some (.tbl ps) ∧ TriplesOk ps.toList ∧
 (codeAmong pos ps.toList = none ∨ ∃ (cd : Addr) (oc : Obj) (vs : Array Value) (t : Tok), codeAmong pos ps.toList = some (.ref cd) ∧ H cd = some (aK cd oc) ∧ oc.data = .fields vs ∧ vs[1]? = some (.str qual t))
section
variable {X : Cx} {pins : List (Addr × Obj)} {σ : St} {H : Hp} {s : Shared} {c P : Addr} {name qual : Str} {params : Arguments} {body : List Stmt} {scope : Scope} {clos : List (Str × Addr)} {pos : Pos} {n : Nat}
theorem CJ {M : Model} {A : Around} {E : Value → Shared → Prop} {Q : Value → Shared → Prop} (I : Inv X pins σ H s) (bm : BMain X.mg X.base) (hcode : X.env.code = .ref c) (C : CodeHd X.base c P) (hT : TabAt H P pos qual) (hcl : closureFor scope X.env = pure clos)
  (h : ∀ (fi cd : Addr) (doc pm ctv : Value) (oc : Obj) (vs : Array Value) (t : Tok) (H1 : Hp) (s1 : Shared), Inv X pins σ H1 s1 → H fi = none → (∀ b o, H b = some o → b ≠ P → H1 b = some o) → TabAt H1 P pos qual →
   H1 fi = some (aK fi (fnMade name qual params body scope clos doc pm cd ctv)) → H1 cd = some (aK cd oc) → oc.data = .fields vs → vs[1]? = some (.str qual t) → Q (.ref fi) s1) :
  wpAny M A (makeFunction name qual params (.stmts body) scope X.env [] [] [] pos n) Q E s := by
 obtain ⟨ps, hP, htr, hcase⟩ := hT
 have hPs : s.heap.get? P = some (tabObj ps) := I.hok P _ hP
 have G := I.mod.glob.keeps I.bk
 obtain ⟨bm, ob, b1, b2, b3, b4, b5, b6⟩ := bm
 have b3' := I.bk _ _ b3
 have hgP : mainGlobals ≠ P := fun q => by
  obtain ⟨o, es, ep, e, hd, _⟩ := G
  rw [q, hPs] at e; cases e; cases hd
 have hbP : bm ≠ P := fun q => by
  rw [q, hPs] at b3'; cases b3'; cases b4
 have hbG : bm ≠ mainGlobals := fun q => by
  obtain ⟨o, es, ep, e, hd, _⟩ := G
  rw [q, e] at b3'; cases b3'; rw [hd] at b6; cases b6
 have hbu : s.heap.BuiltinsAt X.mg P := ⟨bm, ob, b1, b2, hbG, hbP, b3', b4, b5, b6⟩
 rcases hcase with hnf | ⟨cd, oc, vs, t, hf, hcd, hd, hv⟩
 ·refine makeFunction_K (mg := X.mg) hcl I.ok.glob G hcode (C.keeps I.bk) hPs htr hnf hgP hbu fun c' ctv doc h' tk hx hge hlt hrec htb => ?_
  obtain ⟨c2, oc, vs, t, e2, hoc, hd, hv⟩ := hrec
  cases e2
  have nc : H c' = none := I.hok.fresh hge
  have nf : H h'.objs.size = none := I.hok.fresh (Nat.le_trans hge (Nat.le_of_lt hlt))
  have nPc : P ≠ c' := aJ hP nc
  have nPf : P ≠ h'.objs.size := aJ hP nf
  have ncf : c' ≠ h'.objs.size := Nat.ne_of_lt hlt
  have k1 : ∀ b, b ≠ P → b ≠ c' → b ≠ h'.objs.size → upd (upd (upd H P (.tbl (ps ++ #[rawInt pos.line, rawInt pos.col, .ref c']))) c' (aK c' oc)) h'.objs.size (aK h'.objs.size (fnMade name qual params body scope clos doc ((X.mg "__name__").getD .none) c' ctv)) b = H b := fun b e1 e2 e3 => by
   rw [aC e3, aC e2, aC e1]
  have kS : ∀ b o, H b = some o → b ≠ P → upd (upd (upd H P (.tbl (ps ++ #[rawInt pos.line, rawInt pos.col, .ref c']))) c' (aK c' oc)) h'.objs.size (aK h'.objs.size (fnMade name qual params body scope clos doc ((X.mg "__name__").getD .none) c' ctv)) b = some o := fun b o e n => by
   rw [k1 b n (aJ e nc) (aJ e nf)]
   exact e
  have kP : upd (upd (upd H P (.tbl (ps ++ #[rawInt pos.line, rawInt pos.col, .ref c']))) c' (aK c' oc)) h'.objs.size (aK h'.objs.size (fnMade name qual params body scope clos doc ((X.mg "__name__").getD .none) c' ctv)) P = some (.tbl (ps ++ #[rawInt pos.line, rawInt pos.col, .ref c'])) := by
   rw [aC nPf, aC nPc, ao]
  have kc : upd (upd (upd H P (.tbl (ps ++ #[rawInt pos.line, rawInt pos.col, .ref c']))) c' (aK c' oc)) h'.objs.size (aK h'.objs.size (fnMade name qual params body scope clos doc ((X.mg "__name__").getD .none) c' ctv)) c' = some (aK c' oc) := by
   rw [aC ncf, ao]
  have kf : upd (upd (upd H P (.tbl (ps ++ #[rawInt pos.line, rawInt pos.col, .ref c']))) c' (aK c' oc)) h'.objs.size (aK h'.objs.size (fnMade name qual params body scope clos doc ((X.mg "__name__").getD .none) c' ctv)) h'.objs.size = some (aK h'.objs.size (fnMade name qual params body scope clos doc ((X.mg "__name__").getD .none) c' ctv)) := ao
  generalize upd (upd (upd H P (.tbl (ps ++ #[rawInt pos.line, rawInt pos.col, .ref c']))) c' (aK c' oc)) h'.objs.size (aK h'.objs.size (fnMade name qual params body scope clos doc ((X.mg "__name__").getD .none) c' ctv)) = H1 at *
  have old : ∀ b o, s.heap.get? b = some o → b ≠ P → (h'.push (fnMade name qual params body scope clos doc ((X.mg "__name__").getD .none) c' ctv)).get? b = some o := fun b o e n => Heap.get?_push_of_some _ (hx b o n e)
  have tabP : (h'.push (fnMade name qual params body scope clos doc ((X.mg "__name__").getD .none) c' ctv)).get? P = some (tabObj (ps ++ #[rawInt pos.line, rawInt pos.col, .ref c'])) := Heap.get?_push_of_some _ htb
  have hl : (ps ++ #[rawInt pos.line, rawInt pos.col, .ref c']).toList = ps.toList ++ [rawInt pos.line, rawInt pos.col, .ref c'] := by simp
  refine h h'.objs.size c' doc _ ctv oc vs t H1 _ (I.call' (ch := []) rfl ⟨fun b o e n hb hx' => ?_, fun b o e n hb hx' => ?_, fun b o e n hx' => ?_, fun b o e hx' => ?_, fun b xs e => ?_, fun b o u e => ?_, fun b qs e => ?_⟩ (fun b u e => ?_) I.bare fun b z => absurd z (by simp)) nf kS ⟨_, kP, by rw [hl]; exact TriplesOk_snoc _ _ _ _ htr, .inr ⟨c', oc, vs, t, by rw [hl]; exact codeAmong_snoc _ htr hnf, kc, hd, hv⟩⟩ kf kc hd hv
  ·exact old b o e fun z => by rw [z, hP] at n; cases n
  ·exact ⟨o.slots, old b o e fun z => by rw [z, hP] at n; cases n⟩
  ·rw [k1 b (fun z => by rw [z, hP] at n; cases n) (Nat.ne_of_lt (Nat.lt_of_lt_of_le (Heap.lt_size e) hge)) (Nat.ne_of_lt (Nat.lt_of_lt_of_le (Heap.lt_size e) (Nat.le_trans hge (Nat.le_of_lt hlt))))]
   exact n
  ·by_cases z : b = P
   ·exact ⟨_, by rw [z]; exact tabP⟩
   ·exact ⟨o, old b o e z⟩
  ·exact kS b _ e fun z => by rw [z, hP] at e; cases e
  ·exact kS b _ e fun z => by rw [z, hP] at e; cases e
  ·by_cases z : b = P
   ·rw [z, hP] at e
    cases e
    exact ⟨_, by rw [z]; exact kP⟩
   ·exact ⟨#[], by rw [kS b _ e z]; simp⟩
  ·by_cases z1 : b = h'.objs.size
   ·rw [z1, kf] at e
    cases e
    rw [z1]
    exact cY (Heap.get?_push_size _ rfl)
   by_cases z2 : b = c'
   ·rw [z2, kc] at e
    cases e
    rw [z2]
    exact cY (Heap.get?_push_of_some _ hoc)
   by_cases z3 : b = P
   ·rw [z3, kP] at e
    cases e
    rw [z3]
    exact tabP
   rw [k1 b z3 z2 z1] at e
   refine (I.hok b u e).stay (fun d o hd' q => old d o q ?_) (fun d q => kS d _ q ?_) fun d xs q => kS d _ q ?_
   ·rcases hd' with rfl | hd'
    ·exact z3
    ·exact fun z => by rw [z, hP] at hd'; cases hd'
   ·exact fun z => by rw [z, hP] at q; cases q
   ·exact fun z => by rw [z, hP] at q; cases q
 ·refine makeFunction_hit (mg := X.mg) hcl I.ok.glob G hcode (C.keeps I.bk) hPs htr hf hbu fun ctv doc h' tk hk hsz => ?_
  have nf : H h'.objs.size = none := I.hok.fresh hsz
  have kS : ∀ b o, H b = some o → upd H h'.objs.size (aK h'.objs.size (fnMade name qual params body scope clos doc ((X.mg "__name__").getD .none) cd ctv)) b = some o := fun b o e => by
   rw [aC (aJ e nf)]
   exact e
  have old : ∀ b o, s.heap.get? b = some o → (h'.push (fnMade name qual params body scope clos doc ((X.mg "__name__").getD .none) cd ctv)).get? b = some o := fun b o e => Heap.get?_push_of_some _ (hk b o e)
  refine h h'.objs.size cd doc _ ctv oc vs t _ _ (I.call' (ch := []) rfl (Un.laid old hsz nf) (fun b u e => ?_) I.bare fun b z => absurd z (by simp)) nf (fun b o e _ => kS b o e) ⟨ps, kS _ _ hP, htr, .inr ⟨cd, oc, vs, t, hf, kS _ _ hcd, hd, hv⟩⟩ ao (kS _ _ hcd) hd hv
  by_cases z1 : b = h'.objs.size
  ·rw [z1, ao] at e
   cases e
   rw [z1]
   exact cY (Heap.get?_push_size _ rfl)
  rw [aC z1] at e
  exact (I.hok b u e).stay (fun d o _ q => old d o q) (fun d q => kS d _ q) fun d xs q => kS d _ q
end
section
variable {CX : CXT} {P : Program} {w : World} {K : PySem.W.Frag} {mg : Str → Option Value} {base : Heap} {N : List Str} {qual : Str} {scope : Scope} {f c Pt : Addr} {A : Around} {outer : List Env} {s0 s : Shared} {H0 H : Hp} {E : XK} {σ : St} {Q : VK}
theorem Cd {T : qN} {cs : List Addr} {fvs : List V} {pos p1 p2 : Pos} {i : Nat} (I : Inv (fG CX P w K mg base N qual scope f (.ref c) A outer s0 H0 E) [] σ H s) (bm : BMain mg base) (C : CodeHd base c Pt) (hT : TabAt H Pt pos T.qual)
  (hnd : N.Nodup) (hi : N[i]? = some T.name) (hloc : scope.names.lookup T.name = some .local) (hq : qualnameIn (envOfC qual scope s0.heap.objs.size f (.ref c)) T.name T.name = T.qual)
  (hcl : closureFor T.scope (envOfC qual scope s0.heap.objs.size f (.ref c)) = pure (T.xs.zip cs)) (hd0 : T.params.defaults = []) (hk0 : T.params.kw_defaults = []) (ha : annTrees T.params none (envOfC qual scope s0.heap.objs.size f (.ref c)) = [])
  (hndC : cs.Nodup) (hlen : cs.length = T.xs.length) (hlenV : fvs.length = T.xs.length)
  (hfv : ∀ (j : Nat) (a : Addr), cs[j]? = some a → ∃ (x : Str) (m : Nat) (v : V), (envOfC qual scope s0.heap.objs.size f (.ref c)).cells.lookup x = some a ∧ scope.names.lookup x = some .cell ∧ N[m]? = some x ∧ σ[m]? = some (some v) ∧ fvs[j]? = some v ∧ m ≠ i)
  (hQ : ∀ (fi : Addr) (H2 : Hp), H fi = none → (∀ a ∈ cs, H a = none) → (∀ b o, H b = some o → b ≠ Pt → H2 b = some o) → TabAt H2 Pt pos T.qual → iW H2 fi T cs fvs → Q (.ref fi) H2)
  (hdb : (T.name == ("__debug__" : Str)) = false := by decide) (hcdn : (T.name == ("__classdict__" : Str)) = false := by decide) :
  wpAny (model P w) (A.deeper (envOfC qual scope s0.heap.objs.size f (.ref c))) (execs [.FunctionDef T.name T.params T.body [] none [] T.scope none T.name pos, .Return (some (.Name T.name p1)) p2] (envOfC qual scope s0.heap.objs.size f (.ref c)))
   (fun fl s' => ∃ u, fl = .ret u ∧ CE outer P w H0 s0 Q u s') (fG CX P w K mg base N qual scope f (.ref c) A outer s0 H0 E).xe s := by
 refine wpAny_execs_cons (nestDef_K hd0 hk0 ha ?_)
 rw [hq]
 refine CJ (X := fG CX P w K mg base N qual scope f (.ref c) A outer s0 H0 E) (n := pos.line) I bm rfl C hT hcl fun fi cd doc pm ctv oc vs t H1 s1 I1 nfi keep hT1 hf1 hc1 hd hv => ?_
 refine lL (X := fG CX P w K mg base N qual scope f (.ref c) A outer s0 H0 E) (v := .ref fi) I1 hnd hi (.inl hloc) rfl (fun s2 I2 => ?_) (.inr hloc)
 have hiσ : i < σ.length := by rw [I.len]; exact (List.getElem?_eq_some_iff.mp hi).1
 refine wpAny_execs_cons (wpAny_Return_some (thn (wF (X := fG CX P w K mg base N qual scope f (.ref c) A outer s0 H0 E) hi (.inl hloc) hdb hcdn [] s2 _ H1 (fun v H' => v = .ref fi ∧ H' = H1) I2 ⟨_, List.getElem?_set_self hiσ, rfl, rfl⟩) fun u s3 hu => ?_))
 obtain ⟨v, H', J, rv, rfl, rfl⟩ := hu
 refine ⟨u, rfl, .ref fi, fun b => if b ∈ cs then (s3.heap.get? b).map (aK b) else H' b, J.os, J.bare, ?_, ?_, rv, ?_⟩
 all_goals
  have cellsOf : ∀ a ∈ cs, ∃ x, (envOfC qual scope s0.heap.objs.size f (.ref c)).cells.lookup x = some a := fun a ha' => by
   obtain ⟨j, hj⟩ := List.getElem?_of_mem ha'
   obtain ⟨x, m, v, h1, _⟩ := hfv j a hj
   exact ⟨x, h1⟩
  have fresh : ∀ a ∈ cs, s0.heap.objs.size ≤ a := fun a ha' => by
   obtain ⟨x, hx⟩ := cellsOf a ha'
   exact J.ok.cab x a rfl hx
  have gone : ∀ a ∈ cs, H' a = none := fun a ha' => by
   obtain ⟨x, hx⟩ := cellsOf a ha'
   exact J.freeC x a hx
  have out : ∀ b o, H' b = some o → b ∉ cs := fun b o e z => by
   rw [gone b z] at e
   cases e
 ·have U : Un (frs outer) [] H0 H' s0.heap s3.heap := J.base
  refine ⟨U.keep, U.slot, fun b o e n hx' => ?_, U.there, fun b xs e => ?_, fun b o v e => ?_, fun b ps e => ?_⟩
  ·show (if b ∈ cs then _ else H' b) = none
   rw [if_neg (fun z => absurd (Nat.lt_of_lt_of_le (Heap.lt_size e) (fresh b z)) (Nat.lt_irrefl _))]
   exact U.free b o e n hx'
  ·have e1 := U.tups b xs e
   show (if b ∈ cs then _ else H' b) = _
   rw [if_neg (out b _ e1)]
   exact e1
  ·have e1 := U.frzs b o v e
   show (if b ∈ cs then _ else H' b) = _
   rw [if_neg (out b _ e1)]
   exact e1
  ·obtain ⟨more, e1⟩ := U.tbls b ps e
   refine ⟨more, ?_⟩
   show (if b ∈ cs then _ else H' b) = _
   rw [if_neg (out b _ e1)]
   exact e1
 ·intro b u' e
  have e : (if b ∈ cs then (s3.heap.get? b).map (aK b) else H' b) = some u' := e
  by_cases hb : b ∈ cs
  ·rw [if_pos hb] at e
   cases q : s3.heap.get? b with
   | none => rw [q] at e; cases e
   | some o =>
    rw [q] at e
    cases e
    exact cY q
  ·rw [if_neg hb] at e
   refine (J.hok b u' e).stay (fun _ _ _ q => q) (fun d q => ?_) fun d xs q => ?_
   ·show (if d ∈ cs then _ else H' d) = _
    rw [if_neg (out d _ q)]
    exact q
   ·show (if d ∈ cs then _ else H' d) = _
    rw [if_neg (out d _ q)]
    exact q
 ·have kp : ∀ b o, H' b = some o → (fun b => if b ∈ cs then (s3.heap.get? b).map (aK b) else H' b) b = some o := fun b o e => by
   show (if b ∈ cs then _ else H' b) = _
   rw [if_neg (out b _ e)]
   exact e
  refine hQ fi _ nfi (fun a ha' => ?_) (fun b o e n => kp b o (keep b o e n)) ?_ ⟨⟨cd, doc, pm, ctv, oc, vs, t, kp _ _ hf1, kp _ _ hc1, hd, hv⟩, fun j a hj => ?_, hndC, hlen, hlenV⟩
  ·obtain ⟨x, hx⟩ := cellsOf a ha'
   exact I.freeC x a hx
  ·obtain ⟨ps, e1, e2, e3⟩ := hT1
   refine ⟨ps, kp _ _ e1, e2, ?_⟩
   rcases e3 with e3 | ⟨cd', oc', vs', t', e4, e5, e6⟩
   ·exact .inl e3
   ·exact .inr ⟨cd', oc', vs', t', e4, kp _ _ e5, e6⟩
  ·obtain ⟨x, m, v, h1, h2, h3, h4, h5, h6⟩ := hfv j a hj
   obtain ⟨mm, _, hl⟩ := J.loc
   obtain ⟨u', r', l⟩ := hl m x v h3 (by rw [List.getElem?_set_ne (Ne.symm h6)]; exact h4) (.inr (.inl h2))
   have l' : ∃ c', (envOfC qual scope s0.heap.objs.size f (.ref c)).cells.lookup x = some c' ∧ s3.heap.IsCell c' (some u') := by
    rcases l with ⟨l1, _⟩ | ⟨_, l2⟩
    ·have l1 : scope.names.lookup x = some .local := l1
     rw [h2] at l1
     cases l1
    ·exact l2
   obtain ⟨c', l1, co, l2, l3⟩ := l'
   rw [h1] at l1
   cases l1
   refine ⟨co, v, u', h5, ?_, l3, r'⟩
   show (if a ∈ cs then (s3.heap.get? a).map (aK a) else H' a) = _
   rw [if_pos (List.mem_of_getElem? hj), l2]
   rfl
theorem Aw {k : Nat} {name : Str} {params : Arguments} {body : List Stmt} {dV kV doc pm cdv ct oc : Value} {an od : Option Addr} {osl : Array (Option Value)} {ps : List Str} {sp : Sp} (lk : K.lookup f = some ⟨oc, od, .func (PySem.W.fnOf name qual params body scope dV kV doc pm an cdv ct), osl⟩) (hcd : PySem.W.codeIn K cdv qual = true) (S : aA N ps scope)
  (len : ∀ vs H Q E, sp vs H Q E → vs.length = ps.length)
  (hbody : ∀ (A : Around) (outer : List Env) (s : Shared) (H : Hp) (vs : List V) (Q : VK) (E : XK) (s1 : Shared), cz k (A.deeper (envOfC qual scope s.heap.objs.size f cdv)) → sp vs H Q E → Inv (fG CX0 P w K mg base N qual scope f cdv A outer s H E) [] (start N vs) H s1 →
   wpAny (model P w) (A.deeper (envOfC qual scope s.heap.objs.size f cdv)) (execs body (envOfC qual scope s.heap.objs.size f cdv)) (fun fl s' => ∃ u, fl = .ret u ∧ CE outer P w H s Q u s') (fG CX0 P w K mg base N qual scope f cdv A outer s H E).xe s1) :
  aU P w K mg base CX0 (k + 1) f (PySem.W.fnOf name qual params body scope dV kV doc pm an cdv ct) ps sp := by
 refine ⟨len, fun A outer s H args us vs Q E hr e0 hb r hsp => ?_⟩
 have hl := len _ _ _ _ hsp
 have KX : K.In s.heap := e0.mod.kin.keeps fun b o e => (e0.bs b o e).1
 have lim : s.heap.NoLimit := e0.mod.nolimit.keeps fun b o e => (e0.bs b o e).1
 have hkind : ∀ y ∈ ps.zip us, scope.names.lookup y.1 = some .local ∨ (scope.names.lookup y.1 = some .cell ∧ ((cellsFrom (s.heap.objs.size + 1) scope.names []).lookup y.1).isSome = true) := fun ⟨n, v⟩ hy => by
  rcases S.par n (List.of_mem_zip hy).1 with q | q
  ·exact .inl q
  ·exact .inr ⟨q, PySem.W.cellsFrom_some _ _ _ (.inl q)⟩
 refine codeAny_call_function hr.depth (KX _ _ lk) rfl S.co S.gen rfl (PySem.W.codeRec_of KX hcd) (hb _ _ _ _ ?_)
 refine wpAny_newFunctionEnv_cells S.kind hkind fun env he s1 x => ?_
 subst he
 refine ⟨lim.keeps x.toInCall.keep, codeAny_func ?_⟩
 have I : Inv (fG CX0 P w K mg base N qual scope f cdv A outer s H E) [] (start N vs) H s1 := sV S hr.hd e0 hl r x
 refine wpAny_mono (hbody A outer s H vs Q E s1 (hr.deeper _) hsp I) (fun fl s' hs => ?_) fun e s' hs => hs
 obtain ⟨u, rfl, q⟩ := hs
 exact q
end
end L2
set_option Elab.async false
set_option linter.all false
set_option maxRecDepth 100000
set_option maxHeartbeats 4000000
namespace L2
open PySem PySem.Spec PyProof.Rows PySem.W
theorem zp {P : Program} {w : World} {K : PySem.W.Frag} {mg mb : Str → Option Value} {k : Nat} {fa a : Addr} {fd : FuncData} {x : Str} {sp : Sp} {s₁ : Shared} {vs : List Value} {ns : List Int} {tabs : List (Addr × Addr)}
  (KX : K.In s₁.heap) (hns : s₁.heap.Ns mainGlobals mg) (hb : s₁.heap.Ns builtinsNs mb) (hbb : ∀ x : Str, x ≠ "__name__" → mb x = bootBuiltins x) (hlim : s₁.heap.NoLimit) (hbm : BMain mg s₁.heap) (hT : TabsAt tabs s₁.heap) (hNT : noTabs K = true) (hg : s₁.gens = #[])
  (ha : s₁.heap.get? a = some { cls := .type "list", data := .seq vs.toArray }) (hi : IntsAre vs ns) (hl : ns.length ≤ sizeLine) (hr : cz k callerA)
  (F : ∀ base : Heap, K.In base → base.Ns mainGlobals mg → BMain mg base → (∀ q ∈ tabs, CodeHd base q.1 q.2) → aU P w K mg base CX0 k fa fd [x] sp) (hbind : ∀ (s : Shared) (u : Value), BindsTo s fd ⟨[u], []⟩ [(x, u)])
  (hsp : ∀ H : Hp, SqL K H a (ns.map V.int) → (∀ q ∈ tabs, H q.2 = some (.tbl #[])) → sp [.ref a] H (fun v _ => v = .bl true) fun _ _ _ => False) :
  codeAny (model P w) callerA (.call (.ref fa) ⟨[.ref a], []⟩) (fun r s' => r = .ok (.ret (.bool true)) ∧ OldK s₁.heap s'.heap ∧ s'.os = s₁.os ∧ AllBare s'.gens) s₁ := by
 have rv := tD hi
 have lenV := hi.length
 have tabNoK : ∀ b, b ∈ tabs.map (·.2) → K.lookup b = none := fun b hb' => by
  cases q : K.lookup b with
  | none => rfl
  | some o =>
   obtain ⟨r, hr', rfl⟩ := List.mem_map.mp hb'
   have e := KX _ _ q
   rw [(hT r hr').2] at e
   cases e
   have h2 := List.all_eq_true.mp hNT _ (mem_of_lookupK q)
   exact absurd (show false = true from h2) Bool.false_ne_true
 have aNoT : a ∉ tabs.map (·.2) := fun z => by
  obtain ⟨r, hr', e⟩ := List.mem_map.mp z
  have e2 := (hT r hr').2
  rw [e, ha] at e2
  cases e2
 have core : ∀ H : Hp, (∀ b, H b = none ∨ (b = a ∧ K.lookup a = none ∧ H b = some (.frz { cls := .type "list", data := .seq vs.toArray } (.lst (ns.map V.int)))) ∨ (b ∈ tabs.map (·.2) ∧ H b = some (.tbl #[]))) → (∀ q ∈ tabs, H q.2 = some (.tbl #[])) → SqL K H a (ns.map V.int) → HOk P w H s₁.heap →
   codeAny (model P w) callerA (.call (.ref fa) ⟨[.ref a], []⟩) (fun r s' => r = .ok (.ret (.bool true)) ∧ OldK s₁.heap s'.heap ∧ s'.os = s₁.os ∧ AllBare s'.gens) s₁ := by
  intro H hO hTb hS hok
  have base_of : ∀ {b : Addr} {o : Obj}, s₁.heap.get? b = some o → H b = none → (qw s₁.heap H).get? b = some o := fun e n => Ai e n
  have noA : ∀ {b : Addr} {o : Obj}, s₁.heap.get? b = some o → o.cls ≠ .type "list" → o.cls ≠ .none → H b = none := fun {b o} e d1 d2 => by
   rcases hO b with z | ⟨rfl, _, z⟩ | ⟨z, _⟩
   ·exact z
   ·rw [ha] at e
    cases e
    exact absurd rfl d1
   ·obtain ⟨r, hr', rfl⟩ := List.mem_map.mp z
    rw [(hT r hr').2] at e
    cases e
    exact absurd rfl d2
  have noD : ∀ {b : Addr} {o : Obj} {es : Array DictEntry} {ep : Nat}, s₁.heap.get? b = some o → o.data = .dict es ep → H b = none := fun {b o es ep} e d => by
   rcases hO b with z | ⟨rfl, _, z⟩ | ⟨z, _⟩
   ·exact z
   ·rw [ha] at e; cases e
    have d' : Data.seq vs.toArray _ = Data.dict es ep := d
    cases d'
   ·obtain ⟨r, hr', rfl⟩ := List.mem_map.mp z
    rw [(hT r hr').2] at e
    cases e
    have d' : Data.fields _ = Data.dict es ep := d
    cases d'
  have nsK : ∀ {b : Addr} {m : Str → Option Value}, s₁.heap.Ns b m → (qw s₁.heap H).Ns b m := fun {b m} ⟨o, es, ep, e, d, r⟩ => ⟨o, es, ep, base_of e (noD e d), d, r⟩
  have hKb : K.In (qw s₁.heap H) := fun b o e => base_of (KX b o e) (by
   rcases hO b with z | ⟨rfl, z, _⟩ | ⟨z, _⟩
   ·exact z
   ·rw [e] at z; cases z
   ·rw [tabNoK b z] at e; cases e)
  have hM : Mod K mg (qw s₁.heap H) := ⟨hKb, nsK hns, ⟨mb, nsK hb, hbb⟩, let ⟨mc, h1, h2⟩ := hlim; ⟨mc, nsK h1, h2⟩⟩
  have hB : BMain mg (qw s₁.heap H) := by
   obtain ⟨bm, ob, b1, b2, b3, b4, b5⟩ := hbm
   exact ⟨bm, ob, b1, b2, base_of b3 (noA b3 (by rw [b4]; decide) (by rw [b4]; nofun)), b4, b5⟩
  have hC : ∀ q ∈ tabs, CodeHd (qw s₁.heap H) q.1 q.2 := fun q hq => by
   obtain ⟨o, ws, file, tf, flags, tg, inF, text, tt, e1, r1, r2⟩ := (hT q hq).1
   exact ⟨o, ws, file, tf, flags, tg, inF, text, tt, base_of e1 (noA e1 (by rw [r1]; decide) (by rw [r1]; nofun)), r1, r2⟩
  have e0 : rH P w K mg (qw s₁.heap H) callerA [] s₁ H := ⟨rfl, hM, fun b o e => BR e, Nat.le_of_eq (zb _ _), trivial, fun b hb => absurd (show b ∈ ([] : List Addr) from hb) (by simp), hok, .of_eq hg⟩
  refine codeAny_mono ((F _ hKb (nsK hns) hB hC).run callerA [] s₁ H ⟨[.ref a], []⟩ [.ref a] [.ref a] _ _ hr e0 (hbind s₁ (.ref a)) (.cons rfl .nil) (hsp H hS hTb)) fun r s' h => ?_
  cases r with
  | error e => exact False.elim h
  | ok fl =>
   cases fl with
   | next => exact False.elim h
   | brk => exact False.elim h
   | cont => exact False.elim h
   | ret u =>
    obtain ⟨v, H', os, bare, un, hok', r', q⟩ := h
    have q' : v = .bl true := q
    subst q'
    obtain rfl : u = Value.bool true := r'
    refine ⟨rfl, ⟨fun b o e => ?_, fun b o e => un.there b o e (by simp)⟩, os, bare⟩
    rcases hO b with z | ⟨rfl, _, z⟩ | ⟨z1, z⟩
    ·exact .inl (un.keep b o e z (by intro z; exact absurd (show b ∈ ([] : List Addr) from z) (by simp)) (by simp))
    ·have z2 := un.frzs b _ _ z
     obtain ⟨e1, _⟩ := hok b _ z
     obtain ⟨e2, _⟩ := hok' b _ z2
     rw [e] at e1; cases e1
     exact .inl e2
    ·obtain ⟨more, z2⟩ := un.tbls b _ z
     have e1 : s'.heap.get? b = some { cls := .none, data := .fields (#[] ++ more) } := hok' b _ z2
     obtain ⟨r, hr', rfl⟩ := List.mem_map.mp z1
     have e2 := (hT r hr').2
     rw [e] at e2
     cases e2
     exact .inr (.inl ⟨((hT r hr').1.tab (hT r hr').2).isCodeTable, rfl, #[], more, rfl, e1⟩)
 cases hk : K.lookup a with
 | some o =>
  have e := KX a o hk
  rw [ha] at e
  cases e
  refine core (fun b => if b ∈ tabs.map (·.2) then some (.tbl #[]) else none) (fun b => ?_) (fun q hq => if_pos (List.mem_map_of_mem hq)) (.inr ⟨_, vs.toArray, _, hk, rfl, rfl, rfl, by rw [List.size_toArray, lenV]; exact hl, by simpa using rv⟩) (fun b u z => ?_)
  ·by_cases hb' : b ∈ tabs.map (·.2)
   ·exact .inr (.inr ⟨hb', if_pos hb'⟩)
   ·exact .inl (if_neg hb')
  ·by_cases hb' : b ∈ tabs.map (·.2)
   ·have z' := (if_pos hb').symm.trans z
    cases z'
    obtain ⟨r, hr', rfl⟩ := List.mem_map.mp hb'
    exact (hT r hr').2
   ·have z' := (if_neg hb').symm.trans z
    cases z'
 | none =>
  have hA : (fun b => if b = a then some (.frz { cls := .type "list", data := .seq vs.toArray } (.lst (ns.map V.int))) else if b ∈ tabs.map (·.2) then some (.tbl #[]) else none : Hp) a = some (.frz { cls := .type "list", data := .seq vs.toArray } (.lst (ns.map V.int))) := if_pos rfl
  have hTt : ∀ b ∈ tabs.map (·.2), (fun b => if b = a then some (.frz { cls := .type "list", data := .seq vs.toArray } (.lst (ns.map V.int))) else if b ∈ tabs.map (·.2) then some (.tbl #[]) else none : Hp) b = some (.tbl #[]) := fun b hb' => by
   have hne : b ≠ a := fun e => aNoT (e ▸ hb')
   show (if b = a then _ else if b ∈ tabs.map (·.2) then _ else _) = _
   rw [if_neg hne, if_pos hb']
  have hN : ∀ b, b ≠ a → b ∉ tabs.map (·.2) → (fun b => if b = a then some (.frz { cls := .type "list", data := .seq vs.toArray } (.lst (ns.map V.int))) else if b ∈ tabs.map (·.2) then some (.tbl #[]) else none : Hp) b = none := fun b h1 h2 => by
   show (if b = a then _ else if b ∈ tabs.map (·.2) then _ else _) = _
   rw [if_neg h1, if_neg h2]
  generalize (fun b => if b = a then some (.frz { cls := .type "list", data := .seq vs.toArray } (.lst (ns.map V.int))) else if b ∈ tabs.map (·.2) then some (.tbl #[]) else none : Hp) = H at *
  refine core H (fun b => ?_) (fun q hq => hTt _ (List.mem_map_of_mem hq)) (.inl (.inr ⟨{ cls := .type "list", data := .seq vs.toArray }, hA⟩)) (fun b u z => ?_)
  ·by_cases h1 : b = a
   ·rw [h1]
    exact .inr (.inl ⟨rfl, hk, hA⟩)
   ·by_cases h2 : b ∈ tabs.map (·.2)
    ·exact .inr (.inr ⟨h2, hTt b h2⟩)
    ·exact .inl (hN b h1 h2)
  ·by_cases h1 : b = a
   ·rw [h1, hA] at z
    cases z
    rw [h1]
    exact ⟨ha, by rw [List.length_map]; exact hl, vs, _, rv, ha⟩
   ·by_cases h2 : b ∈ tabs.map (·.2)
    ·rw [hTt b h2] at z
     cases z
     obtain ⟨r, hr', rfl⟩ := List.mem_map.mp h2
     exact (hT r hr').2
    ·rw [hN b h1 h2] at z
     cases z
theorem zT {l : PySem.W.OpenLaw} {n k : Nat} {q : Program} {loose : List Str} {XP : (Str → Option Value) → Heap → Prop} {YP : World → Heap → Prop} {d : DefRec} {K : Params → PySem.W.Frag} {x : Str}
  (hn : l.most = some n) (hn2 : n ≤ sizeLine) (hdf : d.params.defaults = []) (hr : cz k callerA)
  (hY : ∀ (w : World) (h : Heap), YP w h → (K w.params).In h)
  (F : ∀ (w : World) (mg mb : Str → Option Value) (mean : ExcName → Option Value) (fa : Addr) (h : Heap), (K w.params).In h → Top q (looseW q loose) mean mg mb h → mg d.name = some (.ref fa) →
   ∃ (fd : FuncData) (tabs : List (Addr × Addr)) (sp : Sp), (∀ (s : Shared) (u : Value), BindsTo s fd ⟨[u], []⟩ [(x, u)]) ∧ TabsAt tabs h ∧ noTabs (K w.params) = true ∧
    (∀ base : Heap, (K w.params).In base → base.Ns mainGlobals mg → BMain mg base → (∀ q ∈ tabs, CodeHd base q.1 q.2) → aU l.prog w (K w.params) mg base CX0 k fa fd [x] sp) ∧
    ∀ (H : Hp) (a : Addr) (ns : List Int), ns.length ≤ n → SqL (K w.params) H a (ns.map V.int) → (∀ q ∈ tabs, H q.2 = some (.tbl #[])) → sp [.ref a] H (fun v _ => v = .bl true) fun _ _ _ => False) :
  PySem.W.WalkO q loose XP YP l.row.toRowW d [] (fun f vs => PySem.call f vs) := by
 refine Att.attach_call hn hdf fun w s₀ s₁ mg mb fa o pm cd doc a vs ns G Y ho hd hcd hmg hobj hints hlen hg => ?_
 have KX := hY w _ Y
 obtain ⟨fd, tabs, sp, hb, hT, hNT, hF, hsp⟩ := F w mg mb _ fa _ KX G.T hmg
 exact zp KX G.T.g G.T.b G.T.builtins G.T.nolimit G.T.bmain hT hNT hg hobj hints (Nat.le_trans hlen hn2) hr hF hb fun H hS hTb => hsp H a ns hlen hS hTb
end L2
set_option Elab.async false
set_option linter.all false
set_option maxRecDepth 100000
set_option maxHeartbeats 4000000
namespace L2
open PySem PySem.Spec PyProof.Rows PySem.W
def Gf (st : Stmt) (qual : Str) (ps xs : List Str) : qN := match st with
 | .FunctionDef n a b _ _ _ sc _ _ _ => ⟨n, qual, a, b, sc, ps, xs⟩
 | _ => ⟨"", qual, defArgs st, [], defScope st, ps, xs⟩
def xY : Stmt → Pos
 | .FunctionDef _ _ _ _ _ _ _ _ _ p => p
 | _ => ⟨0, 0, 0, 0⟩
structure DR (N : List Str) (qual : Str) (scope : Scope) (T : qN) (i : Nat) (slots : List Nat) (csF : Addr → List Addr) : Prop where
 nd : N.Nodup
 hi : N[i]? = some T.name
 loc : scope.names.lookup T.name = some .local
 qn : ∀ (L f : Addr) (c : Value), qualnameIn (envOfC qual scope L f c) T.name T.name = T.qual
 cl : ∀ (L f : Addr) (c : Value), closureFor T.scope (envOfC qual scope L f c) = pure (T.xs.zip (csF L))
 d0 : T.params.defaults = []
 k0 : T.params.kw_defaults = []
 an : ∀ (L f : Addr) (c : Value), annTrees T.params none (envOfC qual scope L f c) = []
 ndC : ∀ L : Addr, (csF L).Nodup
 len : ∀ L : Addr, (csF L).length = T.xs.length
 fv : ∀ (L f : Addr) (c : Value) (j : Nat) (a : Addr), (csF L)[j]? = some a → ∃ (x : Str) (m : Nat), (envOfC qual scope L f c).cells.lookup x = some a ∧ scope.names.lookup x = some .cell ∧ N[m]? = some x ∧ slots[j]? = some m ∧ m ≠ i
 db : (T.name == ("__debug__" : Str)) = false
 dn : (T.name == ("__classdict__" : Str)) = false
def Made (H : Hp) (Pt : Addr) (pos : Pos) (T : qN) (slots : List Nat) (σ : St) (Q : VK) : Prop :=
 TabAt H Pt pos T.qual ∧ ∃ fvs : List V, (∀ j m : Nat, slots[j]? = some m → ∃ v, σ[m]? = some (some v) ∧ fvs[j]? = some v) ∧ fvs.length = T.xs.length ∧
  ∀ (fi : Addr) (cs : List Addr) (H2 : Hp), H fi = none → (∀ a ∈ cs, H a = none) → (∀ b o, H b = some o → b ≠ Pt → H2 b = some o) → TabAt H2 Pt pos T.qual → iW H2 fi T cs fvs → Q (.ref fi) H2
section
variable {P : Program} {w : World} {K : PySem.W.Frag} {mg : Str → Option Value} {base : Heap} {x qual : Str} {st : Stmt} {f c Pt : Addr} {fd : FuncData} {N ps : List Str} {k i : Nat} {sp : Sp} {T : qN} {slots : List Nat} {csF : Addr → List Addr} {pos p1 p2 : Pos}
theorem Bb {A : Around} {outer : List Env} {s s1 : Shared} {H H1 : Hp} {Q : VK} {E : XK} {σ : St} (M : DR N qual (defScope st) T i slots csF) (bm : BMain mg base) (C : CodeHd base c Pt) (I : Inv (fG CX0 P w K mg base N qual (defScope st) f (.ref c) A outer s H E) [] σ H1 s1) (h : Made H1 Pt pos T slots σ Q) :
  wpAny (model P w) (A.deeper (envOfC qual (defScope st) s.heap.objs.size f (.ref c))) (execs [.FunctionDef T.name T.params T.body [] none [] T.scope none T.name pos, .Return (some (.Name T.name p1)) p2] (envOfC qual (defScope st) s.heap.objs.size f (.ref c)))
   (fun fl s' => ∃ u, fl = .ret u ∧ CE outer P w H s Q u s') (fG CX0 P w K mg base N qual (defScope st) f (.ref c) A outer s H E).xe s1 := by
 obtain ⟨hT, fvs, h1, h2, h3⟩ := h
 refine Cd (cs := csF s.heap.objs.size) (fvs := fvs) I bm C hT M.nd M.hi M.loc (M.qn _ _ _) (M.cl _ _ _) M.d0 M.k0 (M.an _ _ _) (M.ndC _) (M.len _) h2 (fun j a e => ?_) (fun fi H2 n1 n2 n3 n4 n5 => h3 fi _ H2 n1 n2 n3 n4 n5) M.db M.dn
 obtain ⟨y, m, e1, e2, e3, e4, e5⟩ := M.fv s.heap.objs.size f (.ref c) j a e
 obtain ⟨v, e6, e7⟩ := h1 j m e4
 exact ⟨y, m, v, e1, e2, e3, e6, e7, e5⟩
theorem Fun.maker0 (F : Fun K x qual st f fd) (S : aA N ps (defScope st)) (M : DR N qual (defScope st) T i slots csF) (bm : BMain mg base) (hcode : fd.code = .ref c) (C : CodeHd base c Pt) (len : ∀ vs H Q E, sp vs H Q E → vs.length = ps.length)
  (hb : defBody st = [.FunctionDef T.name T.params T.body [] none [] T.scope none T.name pos, .Return (some (.Name T.name p1)) p2])
  (h : ∀ (vs : List V) (H : Hp) (Q : VK) (E : XK), sp vs H Q E → Made H Pt pos T slots (start N vs) Q) : aU P w K mg base CX0 (k + 1) f fd ps sp := by
 obtain ⟨oc, od, kV, doc, pm, an, cdv, ct, osl, rfl, lk, hcd⟩ := F.ex
 obtain rfl : cdv = .ref c := hcode
 refine Aw lk hcd S len fun A outer s H vs Q E s1 hr hsp I => ?_
 rw [hb]
 exact Bb M bm C I (h vs H Q E hsp)
theorem Fj {sp : Addr → Sp} (S : qD N T) (hb : ∀ (cl : List (Str × Addr)) (doc pm cd ctv : Value) (us : List Value), us.length = T.ps.length → bindArgs (fnX T.name T.qual T.params T.body T.scope cl .none .none doc pm none cd ctv) ⟨us, []⟩ = pure (T.ps.zip us))
  (h : ∀ (f : Addr) (vs : List V) (H : Hp) (Q : VK), sp f vs H Q E0 → vs.length = T.ps.length ∧ ∃ cs fvs, iW H f T cs fvs ∧
   ∀ (cd : Addr) (A : Around) (outer : List Env) (s : Shared), cz k (A.deeper (envX T.qual T.scope s.heap.objs.size f (.ref cd) (T.xs.zip cs))) → ∃ t, PSs (oZ P w K mg base N T.qual T.scope f (.ref cd) (T.xs.zip cs) A outer s (hide H cs)) T.body t ∧ t { nx := fun _ H' => Q .non (over H cs H'), rt := fun v H' => Q v (over H cs H') } (start N (vs ++ fvs)) (hide H cs)) :
  oU P w K mg base (k + 1) sp := by
 intro f A outer s H us vs Q hr e0 r hsp
 obtain ⟨hl, cs, fvs, ca, hbody⟩ := h f vs H Q hsp
 exact CZ S hr e0 ca (fun cl doc pm cd ctv => .of_eq (hb cl doc pm cd ctv us (by rw [← r.length]; exact hl))) r hl fun cd hr' => hbody cd A outer s hr'
end
theorem tab0 {H : Hp} {P : Addr} {pos : Pos} {qual : Str} (h : H P = some (.tbl #[])) : TabAt H P pos qual := ⟨#[], h, trivial, .inl rfl⟩
theorem vP {K : PySem.W.Frag} {x : Str} {f c P : Addr} {oc to : Value} {od td : Option Addr} {fd : FuncData} {osl tsl : Array (Option Value)} {vs : Array Value} (a : nsIn K mainGlobals x = some (some (.ref f))) (l : K.lookup f = some ⟨oc, od, .func fd, osl⟩) (hc : fd.code = .ref c)
  (t : K.lookup c = some ⟨to, td, .fields vs, tsl⟩) (p : vs[11]? = some (.ref P)) : tabIn K x = some (c, P) := by
 unfold tabIn
 simp only [a, l, hc, t, p]
end L2
set_option Elab.async false
set_option linter.all false
set_option maxRecDepth 100000
set_option maxHeartbeats 4000000
namespace PySem
open PyProof.Rows
namespace F
theorem lri_no_len : typeLookup (.type "list_reverseiterator") "__len__" = pure none := by rw [typeLookup_type, builtinLookup_eq_fast]; kernel_rfl
theorem lri_hint : typeLookup (.type "list_reverseiterator") "__length_hint__" = pure (some (.builtin "list_reverseiterator.__length_hint__")) := by rw [typeLookup_type, builtinLookup_eq_fast]; kernel_rfl
end F
section
variable {prog : Program} {w : World} {A : Around} {E : Value → Shared → Prop} {s : Shared}
theorem qe {it l : Addr} {i : Int} {Q : Bool → Shared → Prop} (hit : s.heap.IsRevIter it l i) (h : Q false s) : wpAny (model prog w) A (Builtin.List.listLengthHint (.ref it)) Q E s := by
 unfold Builtin.List.listLengthHint
 refine wpAny_bind (wpAny_specialOf hit.typeIs F.lri_no_len ?_)
 show wpAny _ A (specialOf (Value.ref it) (Str.ofString "__length_hint__") >>= _) _ _ _
 refine wpAny_bind (wpAny_specialOf hit.typeIs F.lri_hint ?_)
 generalize hid : ("list_reverseiterator.__length_hint__" : String) = id0
 wp_delta
 rw [show splitId id0 = some ("list_reverseiterator", "__length_hint__") from by subst hid; decide +kernel]
 subst hid
 refine wpAny_bind (wpAny_isInstance (T := "list_reverseiterator") (b := true) hit.typeIs (by rw [isSubtype_type]; kernel_rfl) ?_)
 refine wpAny_ite_split (fun hab => absurd hab (by decide)) (fun _ => ?_)
 refine wpAny_ite_split (fun _ => ?_) (fun hab => absurd (by decide +kernel) hab)
 refine wpAny_ite_split (fun hab => absurd hab (by decide +kernel)) (fun _ => ?_)
 exact wpAny_pure h
end
section
variable {prog : Program} {w : World} {A : Around} {s : Shared} {R : Result → Shared → Prop}
theorem n6 {it l : Addr} {items : Array Value} (hh : A.handled = none) (hne : l ≠ it) (S : Addr) (res : Value) (c₀ : Nat) (hit : s.heap.IsRevIter it l ((items.size : Int) - 1)) (hl : s.heap.IsList l items) (hSi : S ≠ it) (hSl : S ≠ l)
  (hS : s.heap.get? S = some { cls := .type "list", data := .seq #[] c₀ })
  (hR : ∀ h' tk acc' c', (∀ b o, b ≠ S → b ≠ it → s.heap.get? b = some o → h'.get? b = some o) → h'.get? S = some { cls := .type "list", dict := none, data := .seq acc' c', slots := #[] } →
   ItemsOf (fun i v => items[items.size - 1 - i]? = some v) acc' items.size → R (.ok (.ret res)) { s with heap := h', toks := tk }) (hn : items.size ≤ sizeLine) :
  wpAny (model prog w) A.in1 (Builtin.List.listExtendWith (.ref S) (.ref it) res)
   (fun fin s' => match fin with | .done f => R (.ok f) s' | .again c' => c'.quiet = true ∧ codeAny (model prog w) A c' R s') (fun e s' => R (.error e) s') s := by
 have hSf : S ∉ [it, l] := fun hm => by
  rcases List.mem_cons.mp hm with e | hm
  ·exact hSi e
  ·exact hSl (List.mem_singleton.mp hm)
 have W := (Walks.listRev (prog := prog) (w := w) (A := A.in1) hh it l hne items).toS
 have key : ∀ (h : Heap) (c₁ tk : Nat), h.IsRevIter it l ((items.size : Int) - 1) → h.IsList l items → (∀ b o, b ≠ S → s.heap.get? b = some o → h.get? b = some o) →
   h.get? S = some { cls := .type "list", data := .seq #[] c₁ } → codeAny (model prog w) A (.builtin "list.extend.loop" ⟨[.ref S, .ref it, res], []⟩) R { s with heap := h, toks := tk } := by
  intro h c₁ tk hit₁ hl₁ hk hS₁
  refine codeAny_extend_loopS W hn S hSf res items.size 0 _ #[] c₁ rfl (Nat.zero_le _) ⟨Nat.zero_le _, ?_, hl₁⟩ hS₁ (ItemsOf.nil _) fun s' acc' c' hm hS' hacc => ?_
  ·have e : (items.size : Int) - 1 - ((0 : Nat) : Int) = (items.size : Int) - 1 := by omega
   rw [e]
   exact hit₁
  rw [Moved.eq_with hm]
  refine hR s'.heap s'.toks acc' c' (fun b o hb hb2 e => hm.heap b o (fun hmem => ?_) (hk b o hb e)) hS' hacc
  rcases List.mem_cons.mp hmem with e' | hmem
  ·exact hb e'
  ·exact hb2 (List.mem_singleton.mp hmem)
 unfold Builtin.List.listExtendWith
 refine wpAny_bind (wpAny_typeOf hit.typeIs ?_)
 have h1 : Builtin.List.listSameRef (.ref S) (.ref it) = false := by simp [Builtin.List.listSameRef, hSi]
 have h2 : (Value.type "list_reverseiterator" == Value.type "list") = false := by decide
 have h3 : (Value.type "list_reverseiterator" == Value.type "tuple") = false := by decide
 simp only [h1, h2, h3, Bool.or_false, Bool.false_eq_true, if_false]
 refine wpAny_bind (wpAny_pyIter_revIter hit ?_)
 refine wpAny_bind (wpAny_holding (qe hit ?_))
 refine wpAny_ite_split (fun _ => ?_) (fun _ => wpAny_pure ⟨plainId_quiet F.plain_extend_loop _, key _ c₀ _ hit hl (fun b o _ e => e) hS⟩)
 refine wpAny_bind (wpAny_rule ?_)
 refine wpAny_bind ?_
 show wpAny _ _ (updateSeq S (·.push .none) >>= fun _ => updateSeq S (·.pop)) _ _ _
 refine wpAny_bind (wpAny_updateSeq hS rfl ?_)
 have hS₂ := Heap.get?_update_self (Obj.mapSeq (·.push Value.none)) hS rfl
 refine wpAny_updateSeq (hz := by seq_fits) hS₂ rfl ?_
 have hS₃ := Heap.get?_update_self (Obj.mapSeq (·.pop)) hS₂ rfl
 have oth : ∀ b o, b ≠ S → s.heap.get? b = some o → ((s.heap.update S (Obj.mapSeq (·.push Value.none))).update S (Obj.mapSeq (·.pop))).get? b = some o :=
  fun b o hb e => (Heap.get?_update_other _ _ (Ne.symm hb)).trans ((Heap.get?_update_other _ _ (Ne.symm hb)).trans e)
 exact wpAny_pure ⟨plainId_quiet F.plain_extend_loop _, key _ _ _ (hit.at fun o e => oth it o (Ne.symm hSi) e) (hl.at fun o e => oth l o (Ne.symm hSl) e) oth hS₃⟩
theorem j0 {it l : Addr} {items : Array Value} (hh : A.handled = none) (hne : l ≠ it) (S : Addr) (hit : s.heap.IsRevIter it l ((items.size : Int) - 1)) (hl : s.heap.IsList l items) (hSi : S ≠ it) (hSl : S ≠ l)
  (hS : s.heap.get? S = some { cls := .type "list", data := .seq #[] })
  (hR : ∀ h' tk acc' c', (∀ b o, b ≠ S → b ≠ it → s.heap.get? b = some o → h'.get? b = some o) → h'.get? S = some { cls := .type "list", dict := none, data := .seq acc' c', slots := #[] } →
   ItemsOf (fun i v => items[items.size - 1 - i]? = some v) acc' items.size → R (.ok (.ret .none)) { s with heap := h', toks := tk }) (hn : items.size ≤ sizeLine) :
  wpAny (model prog w) A.in1 (Builtin.«list.__init__» ⟨[.ref S, .ref it], []⟩)
   (fun fin s' => match fin with | .done f => R (.ok f) s' | .again c' => c'.quiet = true ∧ codeAny (model prog w) A c' R s') (fun e s' => R (.error e) s') s := by
 show wpAny _ _ (do let old ← Builtin.List.listItems (.ref S); Builtin.List.listUpdate (.ref S) (fun _ => #[]); letGo old.toList.reverse; Builtin.List.listExtendWith (.ref S) (.ref it) .none) _ _ s
 refine wpAny_bind ?_
 unfold Builtin.List.listItems
 refine wpAny_bind (wpAny_seqItems hS rfl (wpAny_pure ?_))
 show wpAny _ _ (updateSeq S (fun _ => #[]) >>= fun _ => letGo (#[] : Array Value).toList.reverse >>= fun _ => Builtin.List.listExtendWith (.ref S) (.ref it) .none) _ _ s
 refine wpAny_bind (wpAny_updateSeq hS rfl ?_)
 have hS₂ := Heap.get?_update_self (Obj.mapSeq (fun _ => (#[] : Array Value))) hS rfl
 have oth : ∀ b o, b ≠ S → s.heap.get? b = some o → (s.heap.update S (Obj.mapSeq (fun _ => (#[] : Array Value)))).get? b = some o :=
  fun b o hb e => (Heap.get?_update_other _ _ (Ne.symm hb)).trans e
 refine wpAny_bind (wpAny_letGo ?_)
 refine n6 hh hne S .none _ (hit.at fun o e => oth it o (Ne.symm hSi) e) (hl.at fun o e => oth l o (Ne.symm hSl) e) hSi hSl hS₂ (fun h' tk acc' c' hk hS' hacc => ?_) hn
 exact hR h' tk acc' c' (fun b o hb hb2 e => hk b o hb hb2 (oth b o hb e)) hS' hacc
end
section
variable {prog : Program} {w : World} {A : Around} {E : Value → Shared → Prop} {s : Shared}
theorem rM {Q : Value → Shared → Prop} {it l : Addr} {items : Array Value} (hh : A.handled = none) (hne : l ≠ it) (hit : s.heap.IsRevIter it l ((items.size : Int) - 1)) (hl : s.heap.IsList l items) (hn : items.size ≤ sizeLine)
  (hQ : ∀ h' tk acc' c', (∀ b o, b ≠ it → s.heap.get? b = some o → h'.get? b = some o) → h'.get? s.heap.objs.size = some { cls := .type "list", dict := none, data := .seq acc' c', slots := #[] } →
   ItemsOf (fun i v => items[items.size - 1 - i]? = some v) acc' items.size → Q (.ref s.heap.objs.size) { s with heap := h', toks := tk }) :
  wpAny (model prog w) A (call (.type "list") [.ref it]) Q E s := by
 obtain ⟨oi, hoi, _⟩ := id hit
 obtain ⟨ol, hol, _⟩ := id hl
 refine callType_codes (Q₁ := fun obj s₁ => obj = .ref s.heap.objs.size ∧ s₁ = { s with heap := s.heap.push { cls := .type "list", data := .seq #[] } }) F.called_list (F.typeCall_list_1 _) F.entry_list_init
  (code_list_new _ ⟨rfl, rfl⟩) fun obj s₁ h₁ => ?_
 obtain ⟨rfl, rfl⟩ := h₁
 have hS : (s.heap.push { cls := .type "list", data := .seq #[] }).get? s.heap.objs.size = some { cls := .type "list", data := .seq #[] } := Heap.get?_push_size _ rfl
 refine ⟨⟨_, hS, rfl⟩, F.args_list_init_2 _ _, j0 (A := A.in1) hh hne _ (hit.at fun o e => Heap.get?_push_of_some _ e) (hl.at fun o e => Heap.get?_push_of_some _ e) (Nat.ne_of_gt (Heap.lt_size hoi)) (Nat.ne_of_gt (Heap.lt_size hol)) hS (fun h' tk acc' c' hk hS' hacc => ?_) hn⟩
 exact ⟨rfl, hQ h' tk acc' c' (fun b o hb e => hk b o (Nat.ne_of_lt (Heap.lt_size e)) hb (Heap.get?_push_of_some _ e)) hS' hacc⟩
end
end PySem
namespace L2
open PySem PySem.Spec PyProof.Rows PySem.W
section
variable {X : Cx}
def Gp (K : PySem.W.Frag) (ta : TA) : TE := fun σ H Q => ta σ H fun vs H1 => ∃ p ys, vs = [.ref p] ∧ SqL K H1 p ys ∧ ∀ l, H1 l = none → Q (.ref l) (upd H1 l (.lst ys.reverse))
theorem xG {a : Expr} {ta : TA} {p p2 pos pos2 : Pos} (hc : X.calm = true) (hg : Gl X "list") (hm : X.mg "list" = none) (hv : bootBuiltins "list" = some (.type "list")) (hg2 : Gl X "reversed") (hm2 : X.mg "reversed" = none) (hv2 : bootBuiltins "reversed" = some (.type "reversed"))
  (ha : PA X [a] ta) (hs : starEach [a] X.env = [(false, eval a X.env)] := by rfl)
  (he : starEach [.Call (.Name "reversed" p2) [a] [] pos2] X.env = (false, eval (.Call (.Name "reversed" p2) [a] [] pos2) X.env) :: starEach [] X.env := by rfl) (hpl : (backTo pos (starEach [] X.env)).any (·.1) = false := by rfl) :
  PE X (.Call (.Name "list" p) [.Call (.Name "reversed" p2) [a] [] pos2] [] pos) (Gp X.K ta) := by
 intro pins s σ H Q I h
 refine wpAny_Call_Name_kw (c7 I hg hm hv ?_)
 refine PyProof.Rows.callWith_type1 ?_ he hpl
 rw [he]
 show wpAny _ _ (spliced ((false, eval (.Call (.Name "reversed" p2) [a] [] pos2) X.env) :: backTo pos (starEach [] X.env))) _ _ s
 refine Calls.spliced_cons ?_
 refine Call_ (c7 I hg2 hm2 hv2 (PyProof.Rows.callWith_type1 (thn (ha pos2 pins s σ H _ I h) fun us s1 ⟨vs, H1, I1, r1, q1⟩ => ?_) hs rfl))
 obtain ⟨b, xs, e, hq, q⟩ := q1
 subst e
 obtain ⟨u, rfl, rx⟩ := vals1 r1
 cases rx
 obtain ⟨its, rv, pl, hz⟩ := I1.list hq
 have hl := rv.length
 obtain ⟨ob, hob, hobc, hobn, hobd⟩ := id pl.isList
 have blt : b < s1.heap.objs.size := Heap.lt_size hob
 refine call_reversed_list pl.isList ?_
 refine Calls.spliced_nil ?_
 refine rM (I.ok.hd hc) (l := b) (items := its.toArray) (Nat.ne_of_lt blt) ⟨_, Heap.get?_push_size _ rfl, rfl, rfl⟩ (pl.isList.push _) (by rw [List.size_toArray]; omega) fun h' tk acc' c' hk hS hacc => ?_
 have eacc : acc' = its.reverse.toArray := by
  obtain ⟨e1, e2⟩ := hacc
  apply Array.ext
  ·rw [e1, List.size_toArray, List.size_toArray, List.length_reverse]
  ·intro i h1 h2
   have := e2 i acc'[i] (Array.getElem?_eq_getElem h1)
   rw [List.size_toArray, List.getElem?_toArray, ← List.getElem?_reverse (by rw [e1, List.size_toArray] at h1; exact h1)] at this
   rw [List.getElem_toArray]
   exact (Option.some.inj ((List.getElem?_eq_getElem _).symm.trans this)).symm
 subst eacc
 refine ⟨.ref _, _, I1.laid (t' := tk) (o := .lst xs.reverse) (fun c o e => hk c o (Nat.ne_of_lt (Heap.lt_size e)) (Heap.get?_push_of_some _ e)) ?_ ⟨by rw [List.length_reverse]; exact hz, its.reverse, c', rv.reverse, hS⟩, rfl, q _ (I1.hok.fresh ?_)⟩
 ·show s1.heap.objs.size ≤ (s1.heap.push _).objs.size
  simp [Heap.push]
 ·show s1.heap.objs.size ≤ (s1.heap.push _).objs.size
  simp [Heap.push]
end
end L2
set_option Elab.async false
set_option linter.all false
set_option maxRecDepth 100000
set_option maxHeartbeats 4000000
namespace Tw
def Tree (ns : List Int) : Prop := 2 ≤ ns.length ∧ ht ns ns.length = 0 ∧ ∀ k, 0 < k → k < ns.length → 0 < ht ns k
end Tw
set_option Elab.async false
set_option linter.all false
set_option maxRecDepth 100000
set_option maxHeartbeats 4000000
namespace Tw
def jb (n S : Nat) : Prop := ∃ h, S = 2 ^ h ∧ n ≤ S ∧ ∀ j, j < h → 2 ^ j < n
theorem jb.uniq {n S S' : Nat} (a : jb n S) (b : jb n S') : S = S' := by
 obtain ⟨h, rfl, h1, h2⟩ := a
 obtain ⟨k, rfl, k1, k2⟩ := b
 rcases Nat.lt_trichotomy h k with q | q | q
 ·have := k2 h q
  omega
 ·rw [q]
 ·have := h2 k q
  omega
theorem jb.pos {n S : Nat} (a : jb n S) : 1 ≤ S := by
 obtain ⟨h, rfl, _⟩ := a
 exact Nat.one_le_two_pow
theorem jb.le {n S : Nat} (a : jb n S) (h : n ≤ 4096) : S ≤ 4096 := by
 obtain ⟨k, rfl, k1, k2⟩ := a
 rcases Nat.lt_or_ge 12 k with q | q
 ·have := k2 12 q
  omega
 ·exact Nat.le_trans (Nat.pow_le_pow_right (by decide) q) (by decide)
def NodeOk (S st sp n e : Nat) : Prop := 1 ≤ n ∧ S ≤ n * 2 ^ e ∧ (n + 1) * 2 ^ e ≤ S + sp ∧ (1 < n → S ≤ n / 2 * 2 ^ (e + 1) ∧ (n / 2 + 1) * 2 ^ (e + 1) ≤ 2 * S ∧ (n / 2 * 2 ^ (e + 1) < S + st ∨ S + sp < (n / 2 + 1) * 2 ^ (e + 1)))
def Chain (S st sp : Nat) : List Nat → Nat → Nat → Prop
 | [], x, y => x = y
 | n :: r, x, y => ∃ e, n * 2 ^ e = x ∧ NodeOk S st sp n e ∧ Chain S st sp r ((n + 1) * 2 ^ e) y
theorem Chain.append {S st sp : Nat} : ∀ {l m : List Nat} {x y z : Nat}, Chain S st sp l x y → Chain S st sp m y z → Chain S st sp (l ++ m) x z
 | [], m, x, y, z, h, k => by
  cases h
  exact k
 | n :: r, m, x, y, z, h, k => by
  obtain ⟨e, h1, h2, h3⟩ := h
  exact ⟨e, h1, h2, h3.append k⟩
theorem Chain.one {S st sp n e : Nat} (h : NodeOk S st sp n e) : Chain S st sp [n] (n * 2 ^ e) ((n + 1) * 2 ^ e) := ⟨e, rfl, h, rfl⟩
structure Cov (S st sp e low high : Nat) (ls rs : List Nat) : Prop where
 lo1 : S + st ≤ low * 2 ^ e
 lo2 : low * 2 ^ e < S + st + 2 ^ e
 hi1 : high * 2 ^ e ≤ S + sp
 hi2 : S + sp < high * 2 ^ e + 2 ^ e
 le : low ≤ high
 left : Chain S st sp ls (S + st) (low * 2 ^ e)
 right : Chain S st sp rs.reverse (high * 2 ^ e) (S + sp)
theorem Cov.start {S st sp : Nat} (h : st ≤ sp) : Cov S st sp 0 (S + st) (S + sp) [] [] := by
 refine ⟨by omega, by omega, by omega, by omega, by omega, ?_, ?_⟩
 ·show S + st = (S + st) * 2 ^ 0
  omega
 ·show (S + sp) * 2 ^ 0 = S + sp
  omega
theorem vo {h e n : Nat} (h1 : 2 ^ h ≤ n * 2 ^ e) (h2 : n * 2 ^ e < 2 * 2 ^ h) (h3 : 1 < n) : e < h := by
 rcases Nat.lt_or_ge e h with q | q
 ·exact q
 ·exfalso
  have : 2 ^ h ≤ 2 ^ e := Nat.pow_le_pow_right (by decide) q
  have : 2 * 2 ^ e ≤ n * 2 ^ e := Nat.mul_le_mul_right _ h3
  omega
theorem BK {h e m : Nat} (he : e < h) (h1 : 2 ^ h ≤ (2 * m + 1) * 2 ^ e) : 2 ^ h ≤ m * 2 ^ (e + 1) := by
 have e1 : 2 ^ h = 2 ^ (h - e - 1) * 2 ^ (e + 1) := by
  rw [← Nat.pow_add]
  congr 1
  omega
 rw [e1] at h1 ⊢
 refine Nat.mul_le_mul_right _ ?_
 rw [Nat.pow_succ] at h1
 have h2 : 2 ^ (h - e - 1) * (2 ^ e * 2) = (2 * 2 ^ (h - e - 1)) * 2 ^ e := by
  rw [Nat.mul_comm (2 ^ e) 2, ← Nat.mul_assoc, Nat.mul_comm _ 2]
 rw [h2] at h1
 have := Nat.le_of_mul_le_mul_right h1 (Nat.two_pow_pos e)
 omega
theorem Cov.leftOdd {S st sp e low high : Nat} {ls rs : List Nat} (c : Cov S st sp e low high ls rs) (hS : ∃ h, S = 2 ^ h) (hsp : sp ≤ S) (h0 : 1 ≤ S) (hlt : low < high) (ho : low % 2 = 1) : Chain S st sp (ls ++ [low]) (S + st) ((low + 1) * 2 ^ e) := by
 obtain ⟨h, eS⟩ := hS
 obtain ⟨m, rfl⟩ : ∃ m, low = 2 * m + 1 := ⟨low / 2, by omega⟩
 have hp : 0 < 2 ^ e := Nat.two_pow_pos e
 have k1 : (2 * m + 1 + 1) * 2 ^ e ≤ high * 2 ^ e := Nat.mul_le_mul_right _ hlt
 have l1 := c.lo1
 have l2 := c.lo2
 have g1 := c.hi1
 have e1 : (2 * m + 1) / 2 = m := by omega
 have e2 : m * 2 ^ (e + 1) = 2 * (m * 2 ^ e) := by rw [Nat.pow_succ, ← Nat.mul_assoc, Nat.mul_comm]
 have e3 : (2 * m + 1) * 2 ^ e = 2 * (m * 2 ^ e) + 2 ^ e := by rw [Nat.add_mul, Nat.mul_assoc, Nat.one_mul]
 have e4 : (2 * m + 1 + 1) * 2 ^ e = 2 * (m * 2 ^ e) + 2 ^ e + 2 ^ e := by rw [Nat.add_mul, e3, Nat.one_mul]
 have e5 : (m + 1) * 2 ^ (e + 1) = 2 * (m * 2 ^ e) + 2 * 2 ^ e := by rw [Nat.add_mul, e2, Nat.one_mul, Nat.pow_succ]; omega
 refine c.left.append (.one ⟨by omega, by omega, by omega, fun h1 => ?_⟩)
 rw [e1]
 have ht : e < h := by
  refine vo (n := 2 * m + 1) ?_ ?_ h1
  ·rw [← eS]; omega
  ·rw [← eS]; omega
 have o := BK (m := m) ht (by rw [← eS]; omega)
 rw [← eS] at o
 exact ⟨o, by omega, .inl (by omega)⟩
theorem Cov.rightOdd {S st sp e low high : Nat} {ls rs : List Nat} (c : Cov S st sp e low high ls rs) (hS : ∃ h, S = 2 ^ h) (hsp : sp ≤ S) (h0 : 1 ≤ S) (hlt : low < high) (ho : high % 2 = 1) : Chain S st sp (rs ++ [high - 1]).reverse ((high - 1) * 2 ^ e) (S + sp) := by
 obtain ⟨m, rfl⟩ : ∃ m, high = 2 * m + 1 := ⟨high / 2, by omega⟩
 have hp : 0 < 2 ^ e := Nat.two_pow_pos e
 have k1 : low * 2 ^ e ≤ (2 * m) * 2 ^ e := Nat.mul_le_mul_right _ (by omega)
 have l1 := c.lo1
 have g1 := c.hi1
 have g2 := c.hi2
 have hl0 : 1 ≤ low := by
  rcases Nat.eq_zero_or_pos low with q | q
  ·rw [q, Nat.zero_mul] at l1
   omega
  ·exact q
 have e2 : m * 2 ^ (e + 1) = 2 * (m * 2 ^ e) := by rw [Nat.pow_succ, ← Nat.mul_assoc, Nat.mul_comm]
 have e3 : (2 * m + 1) * 2 ^ e = 2 * (m * 2 ^ e) + 2 ^ e := by rw [Nat.add_mul, Nat.mul_assoc, Nat.one_mul]
 have e4 : (2 * m) * 2 ^ e = 2 * (m * 2 ^ e) := by rw [Nat.mul_assoc]
 have e5 : (m + 1) * 2 ^ (e + 1) = 2 * (m * 2 ^ e) + 2 * 2 ^ e := by rw [Nat.add_mul, e2, Nat.one_mul, Nat.pow_succ]; omega
 have e6 : 2 * m + 1 - 1 = 2 * m := by omega
 have e7 : 2 * m / 2 = m := by omega
 have hr := c.right
 rw [List.reverse_append, e6]
 refine Chain.append (l := [2 * m]) (.one ⟨by omega, by omega, by omega, fun h1 => ?_⟩) hr
 rw [e7]
 obtain ⟨h, eS⟩ := hS
 have ht : e < h := by
  refine vo (n := 2 * m) ?_ ?_ h1
  ·rw [← eS]; omega
  ·rw [← eS]; omega
 have e8 : 2 * S = 2 ^ (h - e) * 2 ^ (e + 1) := by
  rw [eS, ← Nat.pow_add, Nat.mul_comm, ← Nat.pow_succ]
  congr 1
  omega
 refine ⟨by omega, ?_, .inr (by omega)⟩
 rw [e8]
 refine Nat.mul_le_mul_right _ ?_
 have : m * 2 ^ (e + 1) < 2 ^ (h - e) * 2 ^ (e + 1) := by omega
 have := Nat.lt_of_mul_lt_mul_right this
 omega
theorem Cov.step {S st sp e low high : Nat} {ls rs : List Nat} (c : Cov S st sp e low high ls rs) (hS : ∃ h, S = 2 ^ h) (hsp : sp ≤ S) (h0 : 1 ≤ S) (hlt : low < high) :
  Cov S st sp (e + 1) ((low + low % 2) / 2) ((high - high % 2) / 2) (if low % 2 = 1 then ls ++ [low] else ls) (if high % 2 = 1 then rs ++ [high - 1] else rs) := by
 have l1 := c.lo1
 have l2 := c.lo2
 have g1 := c.hi1
 have g2 := c.hi2
 have hp : 0 < 2 ^ e := Nat.two_pow_pos e
 have ep : 2 ^ (e + 1) = 2 * 2 ^ e := by rw [Nat.pow_succ, Nat.mul_comm]
 have twice : ∀ m, m * 2 ^ (e + 1) = (2 * m) * 2 ^ e := fun m => by rw [ep, ← Nat.mul_assoc, Nat.mul_comm m 2]
 have el : 2 * ((low + low % 2) / 2) = low + low % 2 := by omega
 have eh : 2 * ((high - high % 2) / 2) = high - high % 2 := by omega
 have q1 : (low + low % 2) * 2 ^ e = low * 2 ^ e + (low % 2) * 2 ^ e := Nat.add_mul ..
 have q2 : (high - high % 2) * 2 ^ e + (high % 2) * 2 ^ e = high * 2 ^ e := by
  rw [← Nat.add_mul]
  congr 1
  omega
 have r1 : (low % 2) * 2 ^ e = if low % 2 = 1 then 2 ^ e else 0 := by
  split
  ·rename_i z; rw [z, Nat.one_mul]
  ·rename_i z; rw [show low % 2 = 0 from by omega, Nat.zero_mul]
 have r2 : (high % 2) * 2 ^ e = if high % 2 = 1 then 2 ^ e else 0 := by
  split
  ·rename_i z; rw [z, Nat.one_mul]
  ·rename_i z; rw [show high % 2 = 0 from by omega, Nat.zero_mul]
 refine ⟨?_, ?_, ?_, ?_, by omega, ?_, ?_⟩
 ·rw [twice, el, q1]
  omega
 ·rw [twice, el, q1, ep, r1]
  split <;> omega
 ·rw [twice, eh]
  omega
 ·rw [twice, eh, ep]
  rw [r2] at q2
  split at q2 <;> omega
 ·rw [twice, el]
  split
  ·rename_i z
   rw [z]
   exact c.leftOdd hS hsp h0 hlt z
  ·rename_i z
   rw [show low % 2 = 0 from by omega, Nat.add_zero]
   exact c.left
 ·rw [twice, eh]
  split
  ·rename_i z
   rw [z]
   exact c.rightOdd hS hsp h0 hlt z
  ·rename_i z
   rw [show high % 2 = 0 from by omega, Nat.sub_zero]
   exact c.right
theorem Cov.fin {S st sp e low high : Nat} {ls rs : List Nat} (c : Cov S st sp e low high ls rs) (h : high ≤ low) : Chain S st sp (ls ++ rs.reverse) (S + st) (S + sp) := by
 have : low = high := Nat.le_antisymm c.le h
 subst this
 exact c.left.append c.right
end Tw
namespace Tw
def vK : Nat → Nat → Nat → List Nat → List Nat → List Nat
 | 0, _, _, ls, rs => ls ++ rs.reverse
 | f + 1, low, high, ls, rs => if low < high then vK f ((low + low % 2) / 2) ((high - high % 2) / 2) (if low % 2 = 1 then ls ++ [low] else ls) (if high % 2 = 1 then rs ++ [high - 1] else rs) else ls ++ rs.reverse
theorem Bw {f low high : Nat} {ls rs : List Nat} (h : high ≤ low) : vK f low high ls rs = ls ++ rs.reverse := by
 cases f with
 | zero => rfl
 | succ f =>
  unfold vK
  rw [if_neg (by omega)]
theorem qd {S st sp : Nat} (hS : ∃ h, S = 2 ^ h) (hsp : sp ≤ S) (h0 : 1 ≤ S) : ∀ (f e low high : Nat) (ls rs : List Nat), Cov S st sp e low high ls rs → high - low ≤ f → Chain S st sp (vK f low high ls rs) (S + st) (S + sp)
 | 0, e, low, high, ls, rs, c, h => c.fin (by omega)
 | f + 1, e, low, high, ls, rs, c, h => by
  unfold vK
  by_cases q : low < high
  ·rw [if_pos q]
   exact qd hS hsp h0 f (e + 1) _ _ _ _ (c.step hS hsp h0 q) (by omega)
  ·rw [if_neg q]
   exact c.fin (by omega)
def cover (S st sp : Nat) : List Nat := vK (sp - st) (S + st) (S + sp) [] []
theorem oY {S st sp : Nat} (hS : ∃ h, S = 2 ^ h) (h : st ≤ sp) (hsp : sp ≤ S) (h0 : 1 ≤ S) : Chain S st sp (cover S st sp) (S + st) (S + sp) :=
 qd hS hsp h0 _ 0 _ _ _ _ (.start h) (by omega)
end Tw
set_option Elab.async false
set_option linter.all false
set_option maxRecDepth 100000
set_option maxHeartbeats 4000000
namespace PySem
open PyProof.Rows
namespace F
end F
section
variable {prog : Program} {w : World} {A : Around} {E : Value → Shared → Prop} {s : Shared}
end
end PySem
namespace L2
open PySem PySem.Spec PyProof.Rows
section
variable {X : Cx} {tg : Expr}
theorem Du (a b : Nat) : Builtin.Range.rangeSize a b (-1) = ((a - b : Nat) : Int) := by
 unfold Builtin.Range.rangeSize
 rw [if_neg (by decide), show (- -1 : Int) = 1 from rfl, Int.ediv_one]
 split <;> omega
theorem wA {a b : Nat} (ha : a < 536870912) (hb : b < 536870912) : Builtin.Range.small a b (-1) = true := by
 unfold Builtin.Range.small Builtin.Range.rangeFitsLong
 rw [Du]
 have e : (2 : Int) ^ 63 = 9223372036854775808 := by decide
 rw [e, if_neg (by decide)]
 refine kh (kh (kh (kh (kh (decide_eq_true ?_) (decide_eq_true ?_)) (kh (decide_eq_true ?_) (decide_eq_true ?_))) (by decide)) (kh (decide_eq_true ?_) (decide_eq_true ?_))) ?_
 ·omega
 ·omega
 ·omega
 ·omega
 ·omega
 ·omega
 ·rw [Bool.or_eq_true]
  exact .inr (kh (decide_eq_true (by omega)) (decide_eq_true (by omega)))
def Dz (ta : TA) : TI := fun σ H R => ta σ H fun vs H1 => ∃ a b : Nat, vs = [.int (a : Int), .int (b : Int), .int (-1)] ∧ a < 536870912 ∧ b < 536870912 ∧ R (Its a (-1) (a - b)) H1
theorem wZ {a b c : Expr} {ta : TA} {p pos : Pos} (hg : Gl X "range") (hm : X.mg "range" = none) (ha : PA X [a, b, c] ta) (hs : starEach [a, b, c] X.env = [(false, eval a X.env), (false, eval b X.env), (false, eval c X.env)] := by rfl)
  (hs2 : starEach [b, c] X.env = [(false, eval b X.env), (false, eval c X.env)] := by rfl) : PI X tg (.Call (.Name "range" p) [a, b, c] [] pos) (Dz ta) := by
 intro pins s σ H R I h
 refine Call_ (c7 I hg hm boot_range (PyProof.Rows.callWith_type1 (thn (ha pos pins s σ H _ I h) fun us s1 ⟨vs, H1, I1, r1, q1⟩ => ?_) (by rw [hs, hs2]) (by rw [hs2]; rfl)))
 obtain ⟨x, y, e, l0, l1, q⟩ := q1
 subst e
 cases r1 with
 | cons r rr =>
  cases rr with
  | cons r' rr =>
   cases rr with
   | cons r'' rr =>
    cases rr
    obtain ⟨t, rfl⟩ := r
    obtain ⟨t', rfl⟩ := r'
    obtain ⟨t'', rfl⟩ := r''
    refine call_range_3 (by decide) ?_ (.inl (PyProof.noPylong_small (by decide)))
    refine wpAny_pyIter_range (IsRange.new ..) (wA l0 l1) ?_
    have I2 : Inv X pins σ H1 { s1 with heap := s1.heap.push { cls := .type "range", data := .fields #[.int x t, .int y t', .int (-1) t''] }, toks := s1.toks } := I1.kept fun b o e => Heap.get?_push_of_some _ e
    refine ⟨(s1.heap.push { cls := .type "range", data := .fields #[.int x t, .int y t', .int (-1) t''] }).objs.size, [(s1.heap.push { cls := .type "range", data := .fields #[.int x t, .int y t', .int (-1) t''] }).objs.size], _, _, H1, rfl,
     I2.kept (t' := s1.toks) fun b o e => Heap.get?_push_of_some _ e, sO _ x (-1) (x - y), ?_, fun b hb => ?_, q⟩
    ·have e1 : (x : Int) + ((0 : Nat) : Int) * (-1) = x := by omega
     have e2 : ((x - y : Nat) : Int) - ((0 : Nat) : Int) = Builtin.Range.rangeSize x y (-1) := by rw [Du]; omega
     show IsRangeIter _ _ ((x : Int) + ((0 : Nat) : Int) * (-1)) (((x - y : Nat) : Int) - ((0 : Nat) : Int)) (-1)
     rw [e1, e2]
     exact Heap.get?_push_size _ rfl
    ·have e : b = (s1.heap.push { cls := .type "range", data := .fields #[.int x t, .int y t', .int (-1) t''] }).objs.size := by simpa using hb
     subst e
     exact I2.fpOk (Nat.le_refl _) (I2.hok.fresh (Nat.le_refl _))
end
end L2
set_option Elab.async false
set_option linter.all false
set_option maxRecDepth 100000
set_option maxHeartbeats 4000000
namespace Tw
open L2
def NI (x : V) : Prop := x = .non ∨ ∃ i, x = .int i
def sH : V → V → V
 | .non, y => y
 | .int a, .int b => .int (if b < a then b else a)
 | x, _ => x
theorem sZ (y : V) : sH .non y = y := by cases y <;> rfl
theorem Bq {x y : V} (hx : NI x) (hy : NI y) : NI (sH x y) := by
 rcases hx with rfl | ⟨i, rfl⟩
 ·rw [sZ]
  exact hy
 ·rcases hy with rfl | ⟨j, rfl⟩
  ·exact .inr ⟨i, rfl⟩
  ·exact .inr ⟨_, rfl⟩
def vI (ns : List Int) (i : Nat) : V := match ns[i]? with | some c => .int c | none => .non
theorem qT {ns : List Int} {i : Nat} {c : Int} (h : ns[i]? = some c) : vI ns i = .int c := by
 unfold vI
 rw [h]
theorem xR {ns : List Int} {i : Nat} (h : ns.length ≤ i) : vI ns i = .non := by
 unfold vI
 rw [List.getElem?_eq_none h]
structure fZ (ns : List Int) (S k : Nat) (xs : List V) : Prop where
 len : xs.length = 2 * S
 zero : xs[0]? = some .non
 leaf : ∀ i, i < S → xs[S + i]? = some (vI ns i)
 node : ∀ j, k ≤ j → 1 ≤ j → j < S → ∃ x y, xs[2 * j]? = some x ∧ xs[2 * j + 1]? = some y ∧ xs[j]? = some (sH x y)
 ni : ∀ x ∈ xs, NI x
theorem fZ.start {ns : List Int} {S : Nat} (h0 : 1 ≤ S) (hl : ns.length ≤ S) : fZ ns S S (List.replicate S V.non ++ ns.map V.int ++ List.replicate (S - ns.length) V.non) := by
 refine ⟨?_, ?_, fun i hi => ?_, fun j h1 h2 h3 => by omega, fun x hx => ?_⟩
 ·simp only [List.length_append, List.length_replicate, List.length_map]
  omega
 ·rw [List.append_assoc, List.getElem?_append_left (by rw [List.length_replicate]; omega), List.getElem?_replicate, if_pos (by omega)]
 ·rw [List.append_assoc, List.getElem?_append_right (by rw [List.length_replicate]; omega), List.length_replicate, Nat.add_sub_cancel_left]
  by_cases h : i < ns.length
  ·rw [List.getElem?_append_left (by rw [List.length_map]; exact h), List.getElem?_map, List.getElem?_eq_getElem h, qT (List.getElem?_eq_getElem h)]
   rfl
  ·rw [List.getElem?_append_right (by rw [List.length_map]; omega), List.length_map, List.getElem?_replicate, if_pos (by omega), xR (by omega)]
 ·rcases List.mem_append.mp hx with hx | hx
  ·rcases List.mem_append.mp hx with hx | hx
   ·exact .inl (List.eq_of_mem_replicate hx)
   ·obtain ⟨i, _, rfl⟩ := List.mem_map.mp hx
    exact .inr ⟨i, rfl⟩
  ·exact .inl (List.eq_of_mem_replicate hx)
theorem fZ.step {ns : List Int} {S k : Nat} {xs : List V} {x y : V} (h : fZ ns S (k + 1) xs) (h1 : 1 ≤ k) (hk : k < S) (hx : xs[2 * k]? = some x) (hy : xs[2 * k + 1]? = some y) : fZ ns S k (xs.set k (sH x y)) := by
 have hl := h.len
 have oth : ∀ j, j ≠ k → (xs.set k (sH x y))[j]? = xs[j]? := fun j hj => List.getElem?_set_ne (Ne.symm hj)
 refine ⟨by rw [List.length_set]; exact hl, ?_, fun i hi => ?_, fun j a b c => ?_, fun z hz => ?_⟩
 ·rw [oth 0 (by omega)]
  exact h.zero
 ·rw [oth (S + i) (by omega)]
  exact h.leaf i hi
 ·by_cases e : j = k
  ·subst e
   refine ⟨x, y, ?_, ?_, ?_⟩
   ·rw [oth (2 * j) (by omega)]
    exact hx
   ·rw [oth (2 * j + 1) (by omega)]
    exact hy
   ·exact List.getElem?_set_self (by omega)
  ·obtain ⟨u, v, e1, e2, e3⟩ := h.node j (by omega) b c
   refine ⟨u, v, ?_, ?_, ?_⟩
   ·rw [oth (2 * j) (by omega)]
    exact e1
   ·rw [oth (2 * j + 1) (by omega)]
    exact e2
   ·rw [oth j e]
    exact e3
 ·rcases List.mem_or_eq_of_mem_set hz with hz | rfl
  ·exact h.ni z hz
  ·exact Bq (h.ni x (List.mem_of_getElem? hx)) (h.ni y (List.mem_of_getElem? hy))
theorem mD {xs : List V} {j : Nat} {x : V} (h : xs[j]? = some x) : atI xs (j : Int) = some x := yd h
end Tw
set_option Elab.async false
set_option linter.all false
set_option maxRecDepth 100000
set_option maxHeartbeats 4000000
namespace Tw
open L2
def ql (ns : List Int) (a b : Nat) (M : Int) : Prop := (∃ i, a ≤ i ∧ i < b ∧ ns[i]? = some M) ∧ ∀ i c, a ≤ i → i < b → ns[i]? = some c → M ≤ c
theorem ql.join {ns : List Int} {a b c : Nat} {M N : Int} (h : ql ns a b M) (k : ql ns b c N) (hab : a ≤ b) (hbc : b ≤ c) : ql ns a c (if N < M then N else M) := by
 obtain ⟨⟨i, i1, i2, i3⟩, h2⟩ := h
 obtain ⟨⟨j, j1, j2, j3⟩, k2⟩ := k
 constructor
 ·split
  ·exact ⟨j, by omega, j2, j3⟩
  ·exact ⟨i, i1, by omega, i3⟩
 ·intro t x t1 t2 e
  rcases Nat.lt_or_ge t b with q | q
  ·have := h2 t x t1 q e
   split <;> omega
  ·have := k2 t x q t2 e
   split <;> omega
theorem fZ.least {ns : List Int} {S : Nat} {xs : List V} (h : fZ ns S 1 xs) (hl : ns.length ≤ S) : ∀ e n a : Nat, n * 2 ^ e = S + a → a + 2 ^ e ≤ ns.length → 1 ≤ n → ∃ M, xs[n]? = some (.int M) ∧ ql ns a (a + 2 ^ e) M
 | 0, n, a, h1, h2, h3 => by
  rw [Nat.pow_zero] at h2
  rw [Nat.pow_zero, Nat.mul_one] at h1
  have hg : ns[a]? = some ns[a] := List.getElem?_eq_getElem (by omega)
  have := h.leaf a (by omega)
  rw [← h1, qT hg] at this
  refine ⟨_, this, ⟨a, Nat.le_refl _, by omega, hg⟩, fun i c i1 i2 e => ?_⟩
  have : i = a := by omega
  subst this
  rw [hg] at e
  cases e
  exact Int.le_refl _
 | e + 1, n, a, h1, h2, h3 => by
  have hp : 0 < 2 ^ e := Nat.two_pow_pos e
  have ep : 2 ^ (e + 1) = 2 * 2 ^ e := by rw [Nat.pow_succ, Nat.mul_comm]
  rw [ep] at h1 h2
  have c1 : 2 * n * 2 ^ e = S + a := by rw [← h1, ← Nat.mul_assoc, Nat.mul_comm n 2]
  have c2 : (2 * n + 1) * 2 ^ e = S + (a + 2 ^ e) := by rw [Nat.add_mul, c1, Nat.one_mul]; omega
  have hn : n < S := by
   rcases Nat.lt_or_ge n S with z | z
   ·exact z
   ·exfalso
    have : S * (2 * 2 ^ e) ≤ n * (2 * 2 ^ e) := Nat.mul_le_mul_right _ z
    have : 2 * S ≤ S * (2 * 2 ^ e) := by
     rw [Nat.mul_comm 2 S]
     exact Nat.mul_le_mul_left _ (by omega)
    omega
  obtain ⟨M, e1, m1⟩ := fZ.least h hl e (2 * n) a c1 (by omega) (by omega)
  obtain ⟨N, e2, m2⟩ := fZ.least h hl e (2 * n + 1) (a + 2 ^ e) c2 (by omega) (by omega)
  obtain ⟨x, y, f1, f2, f3⟩ := h.node n h3 h3 hn
  rw [e1] at f1
  rw [e2] at f2
  cases f1
  cases f2
  refine ⟨_, f3, ?_⟩
  have := m1.join m2 (by omega) (by omega)
  rw [ep, show a + 2 * 2 ^ e = a + 2 ^ e + 2 ^ e from by omega]
  exact this
def lG (xs : List V) (n : Nat) : Int := match xs[n]? with | some (.int M) => M | _ => 0
theorem eY {xs : List V} {n : Nat} {M : Int} (h : xs[n]? = some (.int M)) : lG xs n = M := by
 unfold lG
 rw [h]
theorem lg {ns : List Int} {S st sp : Nat} {xs : List V} (h : fZ ns S 1 xs) (hl : ns.length ≤ S) (hsp : sp ≤ ns.length) : ∀ {l : List Nat} {a b : Nat}, Chain S st sp l (S + a) (S + b) → b ≤ sp →
  a ≤ b ∧ (∀ n ∈ l, 1 ≤ n ∧ n < 2 * S ∧ xs[n]? = some (.int (lG xs n))) ∧ (∀ v ∈ l.map (lG xs), ∃ i, a ≤ i ∧ i < b ∧ ns[i]? = some v) ∧ ∀ i c, a ≤ i → i < b → ns[i]? = some c → ∃ v ∈ l.map (lG xs), v ≤ c
 | [], a, b, hc, _ => by
  have hc : S + a = S + b := hc
  exact ⟨by omega, nofun, nofun, fun i c i1 i2 _ => by omega⟩
 | n :: r, a, b, hc, hb => by
  obtain ⟨e, e1, ⟨n1, n2, n3, _⟩, ch⟩ := hc
  have hp : 0 < 2 ^ e := Nat.two_pow_pos e
  have e5 : (n + 1) * 2 ^ e = S + (a + 2 ^ e) := by rw [Nat.succ_mul, e1]; omega
  rw [e5] at ch n3
  obtain ⟨i1, i2, i3, i4⟩ := lg h hl hsp ch hb
  obtain ⟨M, m1, m2, m3⟩ := h.least hl e n a e1 (by omega) n1
  have ev := eY m1
  have hnl : n ≤ n * 2 ^ e := Nat.le_mul_of_pos_right _ hp
  refine ⟨by omega, fun k hk => ?_, fun v hv => ?_, fun i c j1 j2 ec => ?_⟩
  ·rcases List.mem_cons.mp hk with rfl | hk
   ·exact ⟨n1, by omega, by rw [ev]; exact m1⟩
   ·exact i2 k hk
  ·rw [List.map_cons] at hv
   rcases List.mem_cons.mp hv with rfl | hv
   ·obtain ⟨i, a1, a2, a3⟩ := m2
    exact ⟨i, a1, by omega, by rw [ev]; exact a3⟩
   ·obtain ⟨i, a1, a2, a3⟩ := i3 v hv
    exact ⟨i, by omega, a2, a3⟩
  ·rcases Nat.lt_or_ge i (a + 2 ^ e) with q | q
   ·exact ⟨M, by rw [List.map_cons, ev]; exact .head _, m3 i c j1 q ec⟩
   ·obtain ⟨v, v1, v2⟩ := i4 i c q j2 ec
    exact ⟨v, by rw [List.map_cons]; exact .tail _ v1, v2⟩
end Tw
set_option Elab.async false
set_option linter.all false
set_option maxRecDepth 100000
set_option maxHeartbeats 4000000
namespace Tw
open L2
theorem fZ.kids {ns : List Int} {S : Nat} {xs : List V} (h : fZ ns S 1 xs) (hl : ns.length ≤ S) {e m b : Nat} (h1 : m * 2 ^ (e + 1) = S + b) (h2 : b + 2 ^ (e + 1) ≤ ns.length) (h3 : 1 ≤ m) :
  ∃ M N, xs[2 * m]? = some (.int M) ∧ xs[2 * m + 1]? = some (.int N) ∧ ql ns b (b + 2 ^ e) M ∧ ql ns (b + 2 ^ e) (b + 2 ^ (e + 1)) N ∧ lG xs m = (if N < M then N else M) ∧ 2 * m * 2 ^ e = S + b ∧ (2 * m + 1) * 2 ^ e = S + (b + 2 ^ e) ∧ m < S := by
 have hp : 0 < 2 ^ e := Nat.two_pow_pos e
 have ep : 2 ^ (e + 1) = 2 * 2 ^ e := by rw [Nat.pow_succ, Nat.mul_comm]
 rw [ep] at h1 h2 ⊢
 have c1 : 2 * m * 2 ^ e = S + b := by rw [← h1, ← Nat.mul_assoc, Nat.mul_comm m 2]
 have c2 : (2 * m + 1) * 2 ^ e = S + (b + 2 ^ e) := by rw [Nat.add_mul, c1, Nat.one_mul]; omega
 have hn : m < S := by
  rcases Nat.lt_or_ge m S with z | z
  ·exact z
  ·exfalso
   have : S * (2 * 2 ^ e) ≤ m * (2 * 2 ^ e) := Nat.mul_le_mul_right _ z
   have : 2 * S ≤ S * (2 * 2 ^ e) := by
    rw [Nat.mul_comm 2 S]
    exact Nat.mul_le_mul_left _ (by omega)
   omega
 obtain ⟨M, e1, m1⟩ := h.least hl e (2 * m) b c1 (by omega) (by omega)
 obtain ⟨N, e2, m2⟩ := h.least hl e (2 * m + 1) (b + 2 ^ e) c2 (by omega) (by omega)
 obtain ⟨x, y, f1, f2, f3⟩ := h.node m h3 h3 hn
 rw [e1] at f1
 rw [e2] at f2
 cases f1
 cases f2
 refine ⟨M, N, e1, e2, m1, ?_, eY f3, c1, c2, hn⟩
 rw [show b + 2 * 2 ^ e = b + 2 ^ e + 2 ^ e from by omega]
 exact m2
def Hit (ns : List Int) (s x y : Nat) (g : Int) (i : Nat) : Prop := x ≤ i ∧ i < y ∧ (∃ c, ns[i]? = some c ∧ c ≤ g) ∧ ∀ j c, x ≤ j → j < y → (if s = 0 then j < i else i < j) → ns[j]? = some c → g < c
structure rE (ns : List Int) (xs : List V) (S s x y : Nat) (g : Int) (e m b : Nat) : Prop where
 at_ : m * 2 ^ e = S + b
 lo : x ≤ b
 hi : b + 2 ^ e ≤ y
 one : 1 ≤ m
 low : lG xs m ≤ g
 out : ∀ j c, x ≤ j → j < y → (if s = 0 then j < b else b + 2 ^ e ≤ j) → ns[j]? = some c → g < c
theorem rE.hit {ns : List Int} {xs : List V} {S s x y m b : Nat} {g : Int} (h : fZ ns S 1 xs) (hl : ns.length ≤ S) (hy : y ≤ ns.length) (hs : s ≤ 1) (d : rE ns xs S s x y g 0 m b) : m = S + b ∧ Hit ns s x y g b := by
 have h1 := d.at_
 have h2 := d.hi
 rw [Nat.pow_zero] at h1 h2
 obtain ⟨M, e1, ⟨i, i1, i2, i3⟩, _⟩ := h.least hl 0 m b d.at_ (by rw [Nat.pow_zero]; omega) d.one
 have ei : i = b := by rw [Nat.pow_zero] at i2; omega
 subst ei
 have hlow := d.low
 rw [eY e1] at hlow
 refine ⟨by omega, d.lo, by omega, ⟨M, i3, hlow⟩, fun j c j1 j2 j3 ec => d.out j c j1 j2 ?_ ec⟩
 split
 ·rename_i z
  rw [if_pos z] at j3
  exact j3
 ·rename_i z
  rw [if_neg z] at j3
  rw [Nat.pow_zero]
  omega
theorem rE.step {ns : List Int} {xs : List V} {S s x y m b e : Nat} {g : Int} (h : fZ ns S 1 xs) (hl : ns.length ≤ S) (hy : y ≤ ns.length) (hs : s ≤ 1) (d : rE ns xs S s x y g (e + 1) m b) :
  ∃ v, xs[2 * m + s]? = some (.int v) ∧ m < S ∧ 2 * m + s < 2 * S ∧ (v ≤ g → ∃ b', rE ns xs S s x y g e (2 * m + s) b') ∧ (g < v → ∃ b', rE ns xs S s x y g e (2 * m + 1 - s) b') := by
 have hhi := d.hi
 have hlo := d.lo
 have hone := d.one
 have hp : 0 < 2 ^ e := Nat.two_pow_pos e
 have ep : 2 ^ (e + 1) = 2 * 2 ^ e := by rw [Nat.pow_succ, Nat.mul_comm]
 obtain ⟨M, N, e1, e2, m1, m2, ev, c1, c2, hm⟩ := h.kids hl d.at_ (by omega) hone
 have hlow := d.low
 rw [ev] at hlow
 have hout := d.out
 rw [ep] at hhi hout m2
 rcases (show s = 0 ∨ s = 1 by omega) with rfl | rfl
 ·refine ⟨M, e1, hm, by omega, fun hv => ⟨b, c1, hlo, by omega, by omega, by rw [Nat.add_zero, eY e1]; exact hv, fun j c j1 j2 j3 ec => hout j c j1 j2 j3 ec⟩, fun hv => ⟨b + 2 ^ e, c2, by omega, by omega, by omega, ?_, fun j c j1 j2 j3 ec => ?_⟩⟩
  ·show lG xs (2 * m + 1 - 0) ≤ g
   rw [Nat.sub_zero, eY e2]
   split at hlow <;> omega
  ·rw [if_pos rfl] at j3
   rcases Nat.lt_or_ge j b with z | z
   ·exact hout j c j1 j2 (by rw [if_pos rfl]; exact z) ec
   ·have := m1.2 j c z j3 ec
    omega
 ·refine ⟨N, e2, hm, by omega, fun hv => ⟨b + 2 ^ e, c2, by omega, by omega, by omega, by rw [eY e2]; exact hv, fun j c j1 j2 j3 ec => hout j c j1 j2 ?_ ec⟩, fun hv => ⟨b, ?_, hlo, by omega, by omega, ?_, fun j c j1 j2 j3 ec => ?_⟩⟩
  ·rw [if_neg (by decide)] at j3 ⊢
   omega
  ·rw [Nat.add_sub_cancel]
   exact c1
  ·rw [Nat.add_sub_cancel, eY e1]
   split at hlow <;> omega
  ·rw [if_neg (by decide)] at j3
   rcases Nat.lt_or_ge j (b + 2 * 2 ^ e) with z | z
   ·have := m2.2 j c j3 z ec
    omega
   ·exact hout j c j1 j2 (by rw [if_neg (by decide)]; exact z) ec
theorem rE.start {ns : List Int} {xs : List V} {S s n a e : Nat} {g : Int} (h1 : n * 2 ^ e = S + a) (h2 : 1 ≤ n) (h3 : lG xs n ≤ g) : rE ns xs S s a (a + 2 ^ e) g e n a :=
 ⟨h1, Nat.le_refl _, Nat.le_refl _, h2, h3, fun j c j1 j2 j3 _ => by split at j3 <;> omega⟩
theorem oR {S st sp : Nat} : ∀ {l : List Nat} {x y : Nat} (k : Nat), Chain S st sp l x y → ∃ z, Chain S st sp (l.take k) x z ∧ Chain S st sp (l.drop k) z y
 | l, x, y, 0, h => ⟨x, rfl, h⟩
 | [], x, y, k + 1, h => ⟨x, rfl, h⟩
 | n :: r, x, y, k + 1, h => by
  obtain ⟨e, h1, h2, h3⟩ := h
  obtain ⟨z, z1, z2⟩ := oR k h3
  exact ⟨z, ⟨e, h1, h2, z1⟩, z2⟩
theorem vY {S st sp : Nat} : ∀ {l : List Nat} {x y : Nat}, Chain S st sp l x y → x ≤ y
 | [], x, y, h => Nat.le_of_eq h
 | n :: r, x, y, h => by
  obtain ⟨e, h1, _, h3⟩ := h
  have := vY h3
  have : n * 2 ^ e ≤ (n + 1) * 2 ^ e := Nat.mul_le_mul_right _ (Nat.le_succ _)
  omega
end Tw
set_option Elab.async false
set_option linter.all false
set_option maxRecDepth 100000
set_option maxHeartbeats 4000000
namespace Tw
def ahd (ns : List Int) (n : Nat) : List Int := (List.range (n + 1)).map fun k => (ns.take (32 * k)).sum
theorem dz (ns : List Int) (n : Nat) : (ahd ns n).length = n + 1 := by simp [ahd]
theorem jQ {ns : List Int} {n k : Nat} (h : k ≤ n) : (ahd ns n)[k]? = some (ns.take (32 * k)).sum := by
 have : k < n + 1 := by omega
 simp [ahd, this]
def gk (bs : List Int) (k : Nat) : Int := ((bs.take k).map fun b => ones b 32).sum
theorem oG {bs : List Int} {k : Nat} {b : Int} (h : bs[k]? = some b) : gk bs (k + 1) = gk bs k + ones b 32 := by
 unfold gk
 rw [List.take_add_one, h]
 simp [List.sum_append]
def dZ (bs : List Int) (n : Nat) : List Int := (List.range (n + 1)).map (gk bs)
theorem rQ (bs : List Int) (n : Nat) : (dZ bs n).length = n + 1 := by simp [dZ]
theorem uT (bs : List Int) (n : Nat) : dZ bs (n + 1) = dZ bs n ++ [gk bs (n + 1)] := by
 unfold dZ
 rw [List.range_succ, List.map_append]
 rfl
theorem uF (bs : List Int) (n : Nat) : dZ bs n = (List.range n).map (gk bs) ++ [gk bs n] := by
 unfold dZ
 rw [List.range_succ, List.map_append]
 rfl
theorem lZ {ns : List Int} (h : aP ns) : ∀ k : Nat, k ≤ many ns.length → gk (cW ns) k = (ns.take (32 * k)).sum
 | 0, _ => by simp [gk]
 | k + 1, hk => by
  rw [oG (cV (by omega)), lZ h k (by omega), eZ h k 32 (by omega)]
  rfl
theorem ul {ns : List Int} (h : aP ns) : dZ (cW ns) (cW ns).length = ahd ns (many ns.length) := by
 rw [eX]
 unfold dZ ahd
 refine List.map_congr_left fun k hk => ?_
 have := List.mem_range.mp hk
 exact lZ h k (by omega)
def wide (n j : Nat) : Nat := min 32 (n - 32 * j)
def sJ (ns : List Int) (j : Nat) (m : Int) : Prop := (∃ k, 32 * j < k ∧ k ≤ 32 * j + 32 ∧ k ≤ ns.length ∧ m = ht ns k) ∧ ∀ k, 32 * j < k → k ≤ 32 * j + 32 → k ≤ ns.length → m ≤ ht ns k
theorem sJ.of {ns : List Int} (h : aP ns) {j : Nat} {M : Int} (hM : M ∈ nets (bA ns j) (wide ns.length j)) (hle : ∀ a ∈ nets (bA ns j) (wide ns.length j), M ≤ a) : sJ ns j (ht ns (32 * j) + M) := by
 unfold wide at *
 constructor
 ·obtain ⟨k, k1, k2, rfl⟩ := uK.mp hM
  refine ⟨32 * j + k, by omega, by omega, by omega, ?_⟩
  rw [lN h j k (by omega)]
 ·intro k k1 k2 k3
  have := hle _ (uK.mpr ⟨k - 32 * j, by omega, by omega, rfl⟩)
  have e := lN h j (k - 32 * j) (by omega)
  rw [show 32 * j + (k - 32 * j) = k from by omega] at e
  omega
structure xq (ns ls : List Int) : Prop where
 len : ls.length = many ns.length
 low : ∀ j m, ls[j]? = some m → sJ ns j m
theorem Tree.pos {ns : List Int} (t : Tree ns) {k : Nat} (h : k ≤ ns.length) : 0 ≤ ht ns k := by
 obtain ⟨t1, t2, t3⟩ := t
 rcases Nat.eq_zero_or_pos k with rfl | h0
 ·rw [eU]
  decide
 rcases Nat.lt_or_ge k ns.length with q | q
 ·have := t3 k h0 q
  omega
 ·have : k = ns.length := by omega
  rw [this, t2]
  decide
end Tw
set_option Elab.async false
set_option linter.all false
set_option maxRecDepth 100000
set_option maxHeartbeats 4000000
namespace Tw
def cO (ns : List Int) (a b : Nat) (g : Int) (k : Nat) : Prop := a < k ∧ k ≤ b ∧ ht ns k ≤ g ∧ ∀ i, a < i → i < k → g < ht ns i
def gM (ns : List Int) (a b : Nat) (g : Int) (k : Nat) : Prop := a < k ∧ k ≤ b ∧ ht ns k ≤ g ∧ ∀ i, k < i → i ≤ b → g < ht ns i
def bT (ns : List Int) (a b : Nat) (g : Int) : Prop := ∀ i, a < i → i ≤ b → g < ht ns i
theorem mF {ns : List Int} (h : aP ns) {j st sp k : Nat} {g : Int} (hsp : sp ≤ 32) : Due (bA ns j) st sp (g - ht ns (32 * j)) k ↔ st < k ∧ k ≤ sp ∧ ht ns (32 * j + k) ≤ g := by
 unfold Due
 constructor
 ·rintro ⟨a, b, c⟩
  have := lN h j k (by omega)
  exact ⟨a, b, by omega⟩
 ·rintro ⟨a, b, c⟩
  have := lN h j k (by omega)
  exact ⟨a, b, by omega⟩
theorem first_within {ns : List Int} (h : aP ns) {j st sp k : Nat} {g : Int} (hsp : sp ≤ 32) (hd : Due (bA ns j) st sp (g - ht ns (32 * j)) k) (hm : ∀ i, Due (bA ns j) st sp (g - ht ns (32 * j)) i → k ≤ i) : cO ns (32 * j + st) (32 * j + sp) g (32 * j + k) := by
 obtain ⟨a, b, c⟩ := (mF h hsp).mp hd
 refine ⟨by omega, by omega, c, fun i i1 i2 => ?_⟩
 rcases Int.lt_or_le g (ht ns i) with q | q
 ·exact q
 ·have := hm (i - 32 * j) ((mF h hsp).mpr ⟨by omega, by omega, by rw [show 32 * j + (i - 32 * j) = i from by omega]; exact q⟩)
  omega
theorem last_within {ns : List Int} (h : aP ns) {j st sp k : Nat} {g : Int} (hsp : sp ≤ 32) (hd : Due (bA ns j) st sp (g - ht ns (32 * j)) k) (hm : ∀ i, Due (bA ns j) st sp (g - ht ns (32 * j)) i → i ≤ k) : gM ns (32 * j + st) (32 * j + sp) g (32 * j + k) := by
 obtain ⟨a, b, c⟩ := (mF h hsp).mp hd
 refine ⟨by omega, by omega, c, fun i i1 i2 => ?_⟩
 rcases Int.lt_or_le g (ht ns i) with q | q
 ·exact q
 ·have := hm (i - 32 * j) ((mF h hsp).mpr ⟨by omega, by omega, by rw [show 32 * j + (i - 32 * j) = i from by omega]; exact q⟩)
  omega
theorem oH {ns : List Int} (h : aP ns) {j st sp : Nat} {g : Int} (hsp : sp ≤ 32) (hm : ∀ i, ¬ Due (bA ns j) st sp (g - ht ns (32 * j)) i) : bT ns (32 * j + st) (32 * j + sp) g := fun i i1 i2 => by
 rcases Int.lt_or_le g (ht ns i) with q | q
 ·exact q
 ·exact absurd ((mF h hsp).mpr ⟨by omega, by omega, by rw [show 32 * j + (i - 32 * j) = i from by omega]; exact q⟩) (hm (i - 32 * j))
theorem bT.join {ns : List Int} {a b c : Nat} {g : Int} (h : bT ns a b g) (k : bT ns b c g) : bT ns a c g := fun i i1 i2 => by
 rcases Nat.lt_or_ge b i with q | q
 ·exact k i q i2
 ·exact h i i1 q
theorem bT.empty {ns : List Int} {a b : Nat} {g : Int} (h : b ≤ a) : bT ns a b g := fun i i1 i2 => by omega
theorem xq.none {ns ls : List Int} (h : xq ns ls) {i j : Nat} {g : Int} (h2 : ∀ t c, i ≤ t → t < j → ls[t]? = some c → g < c) {b : Nat} (hb : b ≤ 32 * j) (hn : b ≤ ns.length) : bT ns (32 * i) b g := fun k k1 k2 => by
 have hl := h.len
 have ht : (k - 1) / 32 < ls.length := by
  rw [hl]
  unfold many
  omega
 have e := List.getElem?_eq_getElem ht
 have a1 := h2 ((k - 1) / 32) _ (by omega) (by omega) e
 have a2 := (h.low _ _ e).2 k (by omega) (by omega) (by omega)
 omega
theorem xq.some {ns ls : List Int} (h : xq ns ls) {t : Nat} {c g : Int} (e : ls[t]? = .some c) (hc : c ≤ g) : ¬ bT ns (32 * t) (min (32 * t + 32) ns.length) g := fun z => by
 obtain ⟨⟨k, k1, k2, k3, ek⟩, _⟩ := h.low t c e
 have := z k k1 (by omega)
 omega
theorem cO.after {ns : List Int} {a b c k : Nat} {g : Int} (h : bT ns a b g) (f : cO ns b c g k) (hab : a ≤ b) : cO ns a c g k := by
 obtain ⟨f1, f2, f3, f4⟩ := f
 refine ⟨by omega, f2, f3, fun i i1 i2 => ?_⟩
 rcases Nat.lt_or_ge b i with q | q
 ·exact f4 i q i2
 ·exact h i i1 q
theorem cO.wider {ns : List Int} {a b c k : Nat} {g : Int} (f : cO ns a b g k) (h : b ≤ c) : cO ns a c g k := ⟨f.1, by have := f.2.1; omega, f.2.2⟩
theorem gM.ahead {ns : List Int} {a b c k : Nat} {g : Int} (h : bT ns b c g) (f : gM ns a b g k) (hbc : b ≤ c) : gM ns a c g k := by
 obtain ⟨f1, f2, f3, f4⟩ := f
 refine ⟨f1, by omega, f3, fun i i1 i2 => ?_⟩
 rcases Nat.lt_or_ge b i with q | q
 ·exact h i q i2
 ·exact f4 i i1 q
theorem gM.wider {ns : List Int} {a a' b k : Nat} {g : Int} (f : gM ns a b g k) (h : a' ≤ a) : gM ns a' b g k := ⟨by have := f.1; omega, f.2⟩
def gr (ns : List Int) (b : Nat) (g : Int) (k : Nat) : Prop := k < b ∧ ht ns k ≤ g ∧ ∀ i, k < i → i < b → g < ht ns i
def Ec (ns : List Int) (b : Nat) (g : Int) : Prop := ∀ i, i < b → g < ht ns i
theorem Bh {ns : List Int} (h : aP ns) {k : Nat} (hk : k < ns.length) : (ns[k]? = some 1 ∧ ht ns (k + 1) = ht ns k + 1) ∨ (ns[k]? = some 0 ∧ ht ns (k + 1) = ht ns k - 1) := by
 have e := List.getElem?_eq_getElem hk
 rcases h _ (List.getElem_mem hk) with z | z
 ·right
  rw [z] at e
  exact ⟨e, by rw [cJ e]; omega⟩
 ·left
  rw [z] at e
  exact ⟨e, by rw [cJ e]; omega⟩
end Tw
set_option Elab.async false
set_option linter.all false
set_option maxRecDepth 100000
set_option maxHeartbeats 4000000
namespace L2
open PySem PySem.Spec PyProof.Rows
structure um (X : Cx) (x z : Str) (caps : List (Str × Nat)) (scope : Scope) (cl : List (Str × Addr)) : Prop where
 o : cP X x caps scope cl
 hz : scope.names.lookup z = some .local
 nd : (x :: z :: caps.map (·.1)).Nodup
section
variable {X : Cx} {pins : List (Addr × Obj)} {σ : St} {H : Hp} {s : Shared}
theorem Inv.comp2 {x z : Str} {caps : List (Str × Nat)} {scope : Scope} {cl : List (Str × Addr)} {fp : List Addr} {h' : Heap} {tk : Nat} {m : Str → Option Value} {D C : Addr} (I : Inv X pins σ H s) (K0 : um X x z caps scope cl) (hf : ∀ b ∈ fp, iD X pins H b)
    (hfs : ∀ b ∈ fp, b < s.heap.objs.size) (hD : s.heap.objs.size ≤ D) (hC : s.heap.objs.size ≤ C) (hDC : D ≠ C) (hk : ∀ b o, s.heap.get? b = some o → h'.get? b = some o) (hn : h'.Ns C m) (hL : h'.get? D = some { cls := .type "list", data := .seq #[] }) :
    Inv (bh X (x :: z :: caps.map (·.1)) scope cl C s H fp) [] (none :: none :: eV caps σ) (upd H D (.lst [])) { s with heap := h', toks := tk } := by
  have hnD := I.hok.fresh hD
  have hnC := I.hok.fresh hC
  have lkc : ∀ y c, (bh X (x :: z :: caps.map (·.1)) scope cl C s H fp).env.cells.lookup y = some c → X.env.cells.lookup y = some c := fun y c e => K0.o.cls y c e
  have clt : ∀ y c, X.env.cells.lookup y = some c → c < s.heap.objs.size := fun y c e => by
    obtain ⟨v, q⟩ := I.cell y c e
    exact q.lt
  have up : ∀ b u, H b = some u → upd H D (.lst []) b = some u := fun b u q => by rw [aC (aJ q hnD)]; exact q
  have ok : (bh X (x :: z :: caps.map (·.1)) scope cl C s H fp).Ok := by
    refine ⟨I.ok.mod, K0.o.kind, I.ok.glob, I.ok.blt, hC, fun y z c h1 h2 => I.ok.inj y z c (lkc y c h1) (lkc z c h2), fun y hy => K0.o.has y hy, fun y c h => absurd (show false = true from h) Bool.false_ne_true, I.ok.hd, I.ok.frames, .inl rfl, fun b hb => ?_, I.bs, Nat.le_trans I.ok.bsz I.sz, fun b o e hb => ?_, fun b hb hz => ?_, I.stack, I.stkFree⟩
    · obtain ⟨f0, f1, f2, f3, f4, f5⟩ := hf b hb
      exact ⟨Nat.ne_of_lt (Nat.lt_of_lt_of_le (hfs b hb) hC), fun y c e => f4 y c (lkc y c e)⟩
    · obtain ⟨f0, f1, f2, f3, f4, f5⟩ := hf b hb
      rcases f3 with z | z
      · exact I.ok.noex b o e z
      · exact absurd (Nat.lt_of_lt_of_le (Nat.lt_of_lt_of_le (Heap.lt_size e) I.ok.bsz) z) (Nat.lt_irrefl _)
    · obtain ⟨f0, f1, f2, f3, f4, f5⟩ := hf b hb
      rcases List.mem_cons.mp (I.stkSub b hz) with z | z
      · exact f1 z
      · exact f2 z
  refine ⟨ok, rfl, I.bare, ?_, ⟨m, hn, fun i y v e1 e2 e3 => ?_⟩, fun y c e => ?_, ?_, fun y c e => ?_, fun p hp => absurd (show p ∈ ([] : List (Addr × Obj)) from hp) (by simp), ?_, ?_⟩
  · exact Un.laid hk hD hnD
  · cases i with
    | zero => cases e2
    | succ i =>
     cases i with
     | zero => cases e2
     | succ i =>
      have e1' : (caps.map (·.1))[i]? = some y := e1
      have e2' : (eV caps σ)[i]? = some (some v) := e2
      rw [List.getElem?_map] at e1'
      unfold eV at e2'
      rw [List.getElem?_map] at e2'
      cases ec : caps[i]? with
      | none => rw [ec] at e1'; cases e1'
      | some p =>
        rw [ec] at e1' e2'
        obtain ⟨y', j⟩ := p
        have ey : y' = y := Option.some.inj e1'
        subst ey
        have ev : (σ[j]?).getD none = some v := Option.some.inj e2'
        have ev' : σ[j]? = some (some v) := by
          cases q : σ[j]? with
          | none => rw [q] at ev; cases ev
          | some w => rw [q] at ev; exact congrArg some ev
        obtain ⟨c1, c2, c3⟩ := K0.o.cap y' j (List.mem_of_getElem? ec)
        obtain ⟨m0, hn0, hl⟩ := I.loc
        obtain ⟨u, r, l⟩ := hl j y' v c1 ev' (by rcases c2 with z | z; exact .inr (.inl z); exact .inr (.inr z))
        refine ⟨u, r, .inr ⟨c3, ?_⟩⟩
        rcases l with ⟨k, _⟩ | ⟨k, c, ec, z⟩
        · have k' : X.env.scope.names.lookup y' = some .local := k
          rcases c2 with z | z
          · rw [z] at k'; cases k'
          · rw [z] at k'; cases k'
        · obtain ⟨c', hc'⟩ := K0.o.has y' c3
          have e4 := K0.o.cls y' c' hc'
          rw [ec] at e4
          cases e4
          obtain ⟨o, ho, hd⟩ := z
          exact ⟨c, hc', o, hk _ _ ho, hd⟩
  · obtain ⟨v, o, ho, hd⟩ := I.cell y c (lkc y c e)
    exact ⟨v, o, hk _ _ ho, hd⟩
  · show upd H D (.lst []) C = none
    rw [aC (Ne.symm hDC)]
    exact hnC
  · have hlt := clt y c (lkc y c e)
    rw [aC (Nat.ne_of_lt (Nat.lt_of_lt_of_le hlt hD))]
    exact I.freeC y c (lkc y c e)
  · exact I.hok.laid hk hD ⟨Nat.zero_le _, [], _, .nil, hL⟩
  · show (none :: none :: eV caps σ).length = (x :: z :: caps.map (·.1)).length
    simp [oK]
def t8 (K : PySem.W.Frag) (J : It) (cap : St) (te : TE) (Qf : Addr → Hp → Prop) (H : Hp) : Prop :=
 ∀ D, H D = none → ∃ W : Nat → Nat → List V → Hp → Prop, (∃ m, W 0 m [] (upd H D (.lst []))) ∧ ∀ i m ys H1, W i m ys H1 →
  (J.stop i H1 ∧ Qf D H1) ∨ (J.go i H1 ∧ ∀ v H2, J.yld i H1 v H2 → ∃ ta v1 v2, v = .ref ta ∧ SqT K H2 ta [v1, v2] ∧
   te (some v1 :: some v2 :: cap) H2 fun y H4 => H4 D = some (.lst ys) ∧ ys.length < sizeLine ∧ ∃ m', m' < m ∧ W (i + 1) m' (ys ++ [y]) (upd H4 D (.lst (ys ++ [y]))))
theorem wk {x z : Str} {px pz tp pos : Pos} {tx : Nat} {caps : List (Str × Nat)} {scope : Scope} {cl : List (Str × Addr)} {elt iter : Expr} {J : It} {fp : List Addr} {it : Addr} {tn : Nat → Heap → Prop} {te : TE} {Qf : Addr → Hp → Prop}
  {RR : Value → Addr → Result → Shared → Prop} {E : Value → Shared → Prop} (I : Inv X pins σ H s) (hc : X.calm = true) (K0 : um X x z caps scope cl) (T : Turn X.prog X.w X.K (.Tuple [.Name x px, .Name z pz] tx tp) J fp it tn) (st : tn 0 s.heap) (hf : ∀ b ∈ fp, iD X pins H b)
  (he : ∀ C s1 H1 fp1, PE (bh X (x :: z :: caps.map (·.1)) scope cl C s1 H1 fp1) elt te) (rd : t8 X.K J (eV caps σ) te Qf H)
  (hRR : ∀ D C s' H' m, Inv X pins σ H' s' → s'.heap.Ns C m → iD X pins H' C → Qf D H' → RR (.ref D) C (.ok .next) s') :
  wpAny (model X.prog X.w) X.A (newList []) (fun acc s3 => wpAny (model X.prog X.w) X.A (newFunctionEnv scope X.env.globals cl [] X.env.qual none .none (some X.env)) (fun cenv s4 =>
   codeAny (model X.prog X.w) X.A (.compStart (.ListComp elt [⟨.Tuple [.Name x px, .Name z pz] tx tp, iter, [], 0⟩] scope pos) 0 (.ref it) acc { cenv with scope := relabel scope X.env }) (RR acc cenv.locals) s4) E s3) E s := by
 have hfs : ∀ b ∈ fp, b < s.heap.objs.size := fun b hb => by
  obtain ⟨o, e, _⟩ := T.obj _ _ st b hb
  exact Heap.lt_size e
 refine wpAny_newObj_type (wpAny_newFunctionEnv K0.o.nocell (by intro y hy; simp at hy) (fun h1 hn1 hb1 => ?_) K0.o.kind)
 dsimp only at hn1 hb1 ⊢
 obtain ⟨D, eD⟩ : ∃ D : Nat, D = s.heap.objs.size := ⟨_, rfl⟩
 obtain ⟨H2, eH2⟩ : ∃ g, g = s.heap.push { cls := .type "list", dict := none, data := .seq ([] : List Value).toArray } := ⟨_, rfl⟩
 rw [← eH2] at hn1 hb1 ⊢
 rw [← eD]
 have hC : H2.objs.size = D + 1 := by rw [eH2, Heap.size_push, eD]
 have hle : s.heap.objs.size ≤ H2.objs.size := by rw [hC, eD]; exact Nat.le_succ _
 have hDC : D ≠ H2.objs.size := by rw [hC]; exact Nat.ne_of_lt (Nat.lt_succ_self _)
 have hk : ∀ b o, s.heap.get? b = some o → h1.get? b = some o := fun b o e => by
  refine hb1.extBut b o (Nat.ne_of_lt (Nat.lt_of_lt_of_le (Heap.lt_size e) hle)) (Heap.get?_push_of_some _ ?_)
  rw [eH2]
  exact Heap.get?_push_of_some _ e
 have hL : h1.get? D = some { cls := .type "list", data := .seq #[] } := by
  refine hb1.extBut D _ (by omega) (Heap.get?_push_of_some _ ?_)
  rw [eH2, eD]
  exact Heap.get?_push_size _ rfl
 have st1 : tn 0 h1 := T.keep _ _ _ st fun b _ o e => hk b o e
 obtain ⟨W, ⟨m0, w0⟩, turn⟩ := rd D (I.hok.fresh (by omega))
 have loop : codeAny (model X.prog X.w) X.A (.compLoop (.ListComp elt [⟨.Tuple [.Name x px, .Name z pz] tx tp, iter, [], 0⟩] scope pos) 0 (.ref it) (.ref D) (compEnvC scope cl H2.objs.size X.env)) (RR (.ref D) H2.objs.size) { s with heap := h1, toks := s.toks + ([] : List (Str × Value)).length } := by
  refine LCp.codeAny_compLoop_pair (fun n s' => ∃ i ys sl sm H', Inv (bh X (x :: z :: caps.map (·.1)) scope cl H2.objs.size s H fp) [] (sl :: sm :: eV caps σ) H' s' ∧ tn i s'.heap ∧ (∀ b ∈ fp, H' b = none) ∧ W i n ys H') ?_ m0
   ⟨0, [], none, none, _, I.comp2 K0 hf hfs (by omega) (by omega) hDC hk hn1 hL, st1, fun b hb => ?_, w0⟩
  ·rintro n s3 ⟨i, ys, sl, sm, H3, I3, st3, fr3, w3⟩
   have fpc : ∀ {H' : Hp} {pi : List (Addr × Obj)}, (∀ b ∈ fp, H' b = none) → (∀ p ∈ pi, p.1 ∉ fp) → ∀ b ∈ fp, iD (bh X (x :: z :: caps.map (·.1)) scope cl H2.objs.size s H fp) pi H' b := fun {H' pi} hn hp b hb => by
    obtain ⟨f0, f1, f2, f3, f4, f5⟩ := hf b hb
    refine ⟨hn b hb, ?_, fun z => ?_, .inl hb, fun y c e => f4 y c (K0.o.cls y c e), fun p hpp z => ?_⟩
    ·exact Nat.ne_of_lt (Nat.lt_of_lt_of_le (hfs b hb) hle)
    ·rcases List.mem_cons.mp (I.stkSub b z) with q | q
     ·exact f1 q
     ·exact f2 q
    ·exact hp p (by simpa [bh] using hpp) (by rw [z]; exact hb)
   have clear : ∀ {α : Type} {t : Sem α} {Q : α → Shared → Prop} {E' : Value → Shared → Prop} {s : Shared}, wpAny (model X.prog X.w) X.A t Q (fun _ _ => False) s → wpAny (model X.prog X.w) X.A t Q E' s := fun h => wpAny_mono h (fun _ _ z => z) fun _ _ z => z.elim
   rcases turn i n ys H3 w3 with ⟨stop, qf⟩ | ⟨go, step⟩
   ·refine thn (T.done (bh X (x :: z :: caps.map (·.1)) scope cl H2.objs.size s H fp) rfl rfl rfl hc i [] s3 _ H3 _ I3 (fpc fr3 (by simp)) st3 stop) fun r s4 ⟨hr, I4⟩ => ?_
    subst hr
    obtain ⟨m4, hn4, _⟩ := id I4.loc
    refine hRR D _ s4 H3 m4 (I.comped hf I4) hn4 ?_ qf
    have gC : s.heap.objs.size ≤ H2.objs.size := by omega
    exact I.fpOk gC I4.free
   ·refine clear (thn (T.item (bh X (x :: z :: caps.map (·.1)) scope cl H2.objs.size s H fp) rfl rfl rfl hc i [] s3 _ H3 (fun _ _ => False) I3 (fpc fr3 (by simp)) st3 go) fun r s4 ⟨u, hr, h4⟩ => ?_)
    subst hr
    refine clear (thn h4 fun _ s5 ⟨v, H5, I5, r5, y5, st5, fr5⟩ => ?_)
    have I5' := I5.pinned (fpc fr5 (by simp)) (T.obj _ _ st5)
    obtain ⟨ta, v1, v2, ev, ht5, q6⟩ := step v _ y5
    subst ev
    have hg : PG (bh X (x :: z :: caps.map (·.1)) scope cl H2.objs.size s H fp) (.Tuple [.Name x px, .Name z pz] tx tp) (Gd X.K 2 (Bu (qF 0) (Bu (qF 1) GK))) :=
     lq hc (bK (aV (i := 0) K0.nd rfl (Or.inl (lookup_relabel_local K0.o.hx)) (Or.inr (lookup_relabel_local K0.o.hx))) (bK (aV (i := 1) K0.nd rfl (Or.inl (lookup_relabel_local K0.hz)) (Or.inr (lookup_relabel_local K0.hz))) iu))
    refine clear (thn (hg _ s5 (sl :: sm :: eV caps σ) H5 (.ref ta) u (fun σ2 H2 => σ2 = some v1 :: some v2 :: eV caps σ ∧ H2 = H5) I5' r5 ⟨ta, [v1, v2], rfl, ht5, rfl, v1, [v2], rfl, v2, [], rfl, rfl, (show _ ∧ _ from ⟨rfl, rfl⟩)⟩) fun _ s6 ⟨σ6, H6, I6, e6, e7⟩ => ?_)
    subst e6 e7
    have again : ∀ {H7 : Hp} {s7 : Shared} {sl sm : Option V} {zs : List V} {m' : Nat}, Inv (bh X (x :: z :: caps.map (·.1)) scope cl H2.objs.size s H fp) ([] ++ nT fp s5.heap) (sl :: sm :: eV caps σ) H7 s7 → m' < n → W (i + 1) m' zs H7 →
      ∃ m, m < n ∧ ∃ i ys sl sm H', Inv (bh X (x :: z :: caps.map (·.1)) scope cl H2.objs.size s H fp) [] (sl :: sm :: eV caps σ) H' s7 ∧ tn i s7.heap ∧ (∀ b ∈ fp, H' b = none) ∧ W i m ys H' := fun {H7 s7 sl sm zs m'} I7 hm w7 => by
     refine ⟨m', hm, i + 1, zs, sl, sm, H7, I7.unpinned, T.keep _ _ _ st5 fun b hb o e => (I7.pin (b, o) (List.mem_append_right _ (List.mem_append_right _ (dF hb e)))).1, fun b hb => ?_, w7⟩
     obtain ⟨o, e, d⟩ := T.obj _ _ st5 b hb
     exact (I7.pin (b, o) (List.mem_append_right _ (List.mem_append_right _ (dF hb e)))).2.1
    refine clear (thn (he H2.objs.size s H fp _ s6 _ H6 _ I6 q6) fun xv s8 ⟨y, H8, I8, r8, hD8, hz8, m', hm, w8⟩ => ?_)
    refine clear (thn (bY _ s8 _ H8 (.ref D) [y] (.ref D) [xv] (fun _ H9 => H9 = upd H8 D (.lst (ys ++ [y]))) I8 rfl (.cons r8 .nil) ⟨D, ys, y, rfl, rfl, hD8, hz8, rfl⟩) fun _ s9 ⟨_, H9, I9, _, e9⟩ => ?_)
    subst e9
    exact again I9 hm w8
  ·rw [aC (by rw [eD]; exact Nat.ne_of_lt (hfs b hb))]
   exact (hf b hb).1
 exact codeAny_compStart_list loop (T.self _ 0 _ _ _ st1 loop)
def Fd (K : PySem.W.Frag) (wi : TI) (caps : List (Str × Nat)) (te : TE) : TE := fun σ H Q => wi σ H fun J H1 => t8 K J (eV caps σ) te (fun D H' => Q (.ref D) H') H1
theorem vJ {i : Nat} {y x z : Str} {px pz tp py pos spos : Pos} {tx : Nat} {caps : List (Str × Nat)} {scope : Scope} {cl : List (Str × Addr)} {elt iter : Expr} {wi : TI} {te : TE} (hN : X.N.Nodup) (hiN : X.N[i]? = some y) (hy : X.env.scope.names.lookup y = some .local) (hc : X.calm = true)
  (K0 : um X x z caps scope cl) (hi : PI X (.Tuple [.Name x px, .Name z pz] tx tp) iter wi)
  (he : ∀ C s1 H1 fp1, PE (bh X (x :: z :: caps.map (·.1)) scope cl C s1 H1 fp1) elt te)
  (hsw : swapsWith (.ListComp elt [⟨.Tuple [.Name x px, .Name z pz] tx tp, iter, [], 0⟩] scope pos) (some (.Name y py)) spos.line X.env = pure true := by rfl) (hs : ∀ x, foldedSetIterable iter X.env x = pure x := by intro _; rfl) :
  PS X (.Assign [.Name y py] (.ListComp elt [⟨.Tuple [.Name x px, .Name z pz] tx tp, iter, [], 0⟩] scope pos) spos) (Dg (Fd X.K wi caps te) (qF i)) := by
 intro pins s σ H D0 I h
 rw [exec_Assign_Name_used _ _ _ _ hsw]
 refine wpAny_bind (wpAny_standAt (wpAny_bind ?_))
 show wpAny _ X.A (do let _ ← comprehension (.ListComp elt [⟨.Tuple [.Name x px, .Name z pz] tx tp, iter, [], 0⟩] scope pos) scope X.env _ (newList []) false (eval iter X.env) (some (assign (.Name y py) X.env))) _ _ s
 refine wpAny_bind (wpAny_mono (wpAny_comprehension_free (use := some (assign (.Name y py) X.env)) (Q := fun _ s' => SP X pins D0 .next s') rfl hs K0.o.clos K0.o.kind K0.o.names
  (thn (hi pins s σ H _ I h) fun v s1 h1 => thn h1 fun itv s2 h2 => ?_)) (fun _ s' hq => wpAny_pure (wpAny_pure hq)) fun _ _ e => e)
 obtain ⟨it, fp, tn, J, H2, e, I2, T, st2, f2, rd⟩ := h2
 subst e
 refine wk (RR := fun acc C => compPost (model X.prog X.w) X.A X.xe (some (assign (.Name y py) X.env)) (fun _ s' => SP X pins D0 .next s') acc C) I2 hc K0 T st2 f2 he rd ?_
 intro D C s' H' m I' hn fC q
 show wpAny _ X.A (assign (.Name y py) X.env (.ref D)) _ _ _
 refine wpAny_assign_Name (nj (v := .ref D) I' hN hiN (.inl hy) rfl (fun s'' I'' ch => ⟨m, ?_, fun h'' hs'' => ?_⟩) (.inr hy))
 ·obtain ⟨a, sb, ha⟩ := ch
  refine hn.sameBut sb fun z => ?_
  rcases ha with ha | ha
  ·exact fC.2.1 (z.trans ha)
  ·exact fC.2.2.2.2.1 _ a ha z.symm
 ·exact ⟨_, H', I''.turned (h' := h'') (t' := s''.toks) (fun b o hb e => hs''.extBut b o hb e) fC.1 fC.2.1 fC.2.2.2.1 fC.2.2.2.2.1 fC.2.2.2.2.2, q⟩
end
section
variable {X : Cx} {x : Str} {scope : Scope}
end
end L2
namespace Tw
open PySem L2
theorem xK {K : PySem.W.Frag} {a : Addr} {ns : List Int} {cap : L2.St} {te : TE} {Qf : Addr → Hp → Prop} {H : Hp} (R : Nat → Int → Prop) (hS : SqL K H a (ns.map V.int)) (hl : ns.length < sizeLine)
  (hte : ∀ (i : Nat) (b : Int) (H' : Hp) (Q : VK), ns[i]? = some b → aR H H' → (∀ m H2, R i m → aR H' H2 → Q (.int m) H2) → te (some (.int (i : Int)) :: some (.int b) :: cap) H' Q)
  (q : ∀ D H' (ls : List Int), H D = none → aR H H' → H' D = some (.lst (ls.map V.int)) → ls.length = ns.length → (∀ i m, ls[i]? = some m → R i m) → Qf D H') : t8 K (Ite K a) cap te Qf H := by
 intro D hD
 refine ⟨fun i m ys H1 => m = ns.length - i ∧ i ≤ ns.length ∧ aR H H1 ∧ H1 D = some (.lst ys) ∧ ∃ ls : List Int, ys = ls.map V.int ∧ ls.length = i ∧ ∀ i m, ls[i]? = some m → R i m, ⟨_, rfl, Nat.zero_le _, az hD _, ao, [], rfl, rfl, fun i m e => by cases e⟩, ?_⟩
 rintro i m ys H1 ⟨rfl, hi, sm, hD1, ls, rfl, hll, hR⟩
 have hS1 := sm.seq hS
 by_cases hlt : i < ns.length
 ·have hb : ns[i]? = some ns[i] := List.getElem?_eq_getElem hlt
  have hg : (ns.map V.int)[i]? = some (.int ns[i]) := by
   rw [List.getElem?_map, hb]
   rfl
  refine .inr ⟨⟨_, _, hS1, hg⟩, fun v H2 y => ?_⟩
  obtain ⟨p, y, hp, rfl, rfl, e⟩ := y
  have e := e _ hS1
  rw [hg] at e
  cases e
  have s2 := az hp (.tup [.int (i : Int), .int ns[i]])
  refine ⟨p, _, _, rfl, SqT.of ao, ?_⟩
  refine hte i ns[i] _ _ hb (sm.trans s2) fun m H2 hm s3 => ⟨s3 _ _ (s2 _ _ hD1), ?_, ns.length - (i + 1), by omega, rfl, hlt, ?_, ao, ls ++ [m], ?_, ?_, ?_⟩
  ·rw [List.length_map]
   omega
  ·exact bW (sm.trans (s2.trans s3)) hD _
  ·rw [List.map_append]
   rfl
  ·rw [List.length_append, hll]
   rfl
  ·intro j n e
   rcases Nat.lt_or_ge j ls.length with c | c
   ·rw [List.getElem?_append_left c] at e
    exact hR j n e
   ·rw [List.getElem?_append_right c] at e
    have : j - ls.length = 0 := by
     have := (List.getElem?_eq_some_iff.mp e).1
     simp at this
     omega
    rw [this] at e
    cases e
    have : j = i := by omega
    subst this
    exact hm
 ·have e : i = ns.length := by omega
  exact .inl ⟨⟨_, hS1, by rw [List.length_map, e]; exact Nat.le_refl _⟩, q D H1 ls hD sm hD1 (by omega) hR⟩
end Tw
set_option Elab.async false
set_option linter.all false
set_option maxRecDepth 100000
set_option maxHeartbeats 4000000
namespace L2
open PySem PySem.Spec PyProof.Rows PySem.W
structure qW where
 qual : Str
 params : Arguments
 body : Expr
 scope : Scope
 ps : List Str
 xs : List Str
def lamOf (st : Stmt) (qual : Str) (ps xs : List Str) : qW := match st with
 | .Return (some (.Lambda a b sc _)) _ => ⟨qual, a, b, sc, ps, xs⟩
 | _ => ⟨qual, defArgs st, .Name "" ⟨0, 0, 0, 0⟩, defScope st, ps, xs⟩
def jd : Stmt → Pos
 | .Return (some (.Lambda _ _ _ p)) _ => p
 | _ => ⟨0, 0, 0, 0⟩
structure jh (H : Hp) (f : Addr) (c : qW) (cs : List Addr) (fvs : List V) : Prop where
 ex : ∃ (cd : Addr) (pm ctv : Value) (oc : Obj) (vs : Array Value) (t : Tok), H f = some (aK f (kla_obj "<lambda>" c.qual c.params c.body c.scope (c.xs.zip cs) pm cd ctv)) ∧ H cd = some (aK cd oc) ∧ oc.data = .fields vs ∧ vs[1]? = some (.str c.qual t)
 cells : ∀ (i : Nat) (a : Addr), cs[i]? = some a → ∃ (co : Obj) (v : V) (u : Value), fvs[i]? = some v ∧ H a = some (aK a co) ∧ co.data = .cell (some u) ∧ RelV v u
 nd : cs.Nodup
 len : cs.length = c.xs.length
 lenV : fvs.length = c.xs.length
theorem jh.same {H H' : Hp} {f : Addr} {c : qW} {cs : List Addr} {fvs : List V} (h : jh H f c cs fvs) (s : ∀ b o, H b = some (aK b o) → H' b = some (aK b o)) : jh H' f c cs fvs := by
 obtain ⟨⟨cd, pm, ctv, oc, vs, t, h1, h2, h3, h4⟩, hc, nd, len, lenV⟩ := h
 refine ⟨⟨cd, pm, ctv, oc, vs, t, s _ _ h1, s _ _ h2, h3, h4⟩, fun i a e => ?_, nd, len, lenV⟩
 obtain ⟨co, v, u, e1, e2, e3⟩ := hc i a e
 exact ⟨co, v, u, e1, s _ _ e2, e3⟩
structure p8 (N : List Str) (c : qW) : Prop where
 kind : c.scope.kind = .function
 co : c.scope.isCoroutine = false
 gen : c.scope.isGenerator = false
 nocell : ∀ x ∈ c.scope.names, x.2 ≠ .cell
 pre : N.take (c.ps.length + c.xs.length) = c.ps ++ c.xs
 nd : N.Nodup
 par : ∀ n ∈ c.ps, c.scope.names.lookup n = some .local
 fr : ∀ x ∈ c.scope.names, x.2 = .free → x.1 ∈ c.xs
 frn : ∀ n ∈ c.xs, c.scope.names.lookup n ≠ some .local
section
variable {P : Program} {w : World} {K : PySem.W.Frag} {mg : Str → Option Value} {base : Heap} {A : Around} {outer : List Env} {s : Shared} {H : Hp} {f : Addr} {c : qW} {cs : List Addr} {fvs vs : List V} {us : List Value} {N : List Str} {k : Nat} {Q : VK} {E : XK}
theorem Ca (S : p8 N c) (hr : cz (k + 1) A) (e0 : rH P w K mg base A outer s H) (ca : jh H f c cs fvs) (hb : ∀ (cl : List (Str × Addr)) (pm cd ctv : Value), bindArgs (kla_fn "<lambda>" c.qual c.params c.body c.scope cl pm cd ctv) ⟨us, []⟩ = pure (c.ps.zip us)) (r : Vals vs us) (hl : vs.length = c.ps.length)
  (body : ∀ cd : Addr, cz k (A.deeper (envX c.qual c.scope s.heap.objs.size f (.ref cd) (c.xs.zip cs))) → ∃ t, PE (oZ P w K mg base N c.qual c.scope f (.ref cd) (c.xs.zip cs) A outer s (hide H cs)) c.body t ∧ t (start N (vs ++ fvs)) (hide H cs) fun v H' => Q v (over H cs H')) :
  codeAny (model P w) A (.call (.ref f) ⟨us, []⟩) (CR CX0 outer P w H s Q E) s := by
 obtain ⟨⟨cd, pm, ctv, oc, ws, tk, h1, h2, h3, h4⟩, hc, nd, len, lenV⟩ := ca
 have hx : ∀ a ∈ cs, ∃ o, H a = some (aK a o) := fun a ha => by
  obtain ⟨i, hi⟩ := List.getElem?_of_mem ha
  obtain ⟨co, v, u, _, e, _⟩ := hc i a hi
  exact ⟨co, e⟩
 have lim : s.heap.NoLimit := e0.mod.nolimit.keeps fun b o e => (e0.bs b o e).1
 have ndP : c.ps.Nodup := by
  have : c.ps.Sublist N := by
   have h5 : (c.ps ++ c.xs).Sublist N := by rw [← S.pre]; exact List.take_sublist _ _
   exact (List.sublist_append_left _ _).trans h5
  exact S.nd.sublist this
 have ndX : c.xs.Nodup := by
  have : c.xs.Sublist N := by
   have h5 : (c.ps ++ c.xs).Sublist N := by rw [← S.pre]; exact List.take_sublist _ _
   exact (List.sublist_append_right _ _).trans h5
  exact S.nd.sublist this
 have hpl : c.ps.length + c.xs.length ≤ N.length := by
  have := congrArg List.length S.pre
  rw [List.length_take, List.length_append] at this
  omega
 refine kla_callFunE hr.depth (cu e0.hok h1) rfl S.co S.gen rfl ⟨cd, oc, ws, tk, rfl, cu e0.hok h2, h3, h4⟩ ?_
 rw [hb]
 refine wpAny_pure (wpAny_newFunctionEnv S.nocell (fun y hy => S.par _ (List.of_mem_zip hy).1) (fun h0 hns hsb => ⟨lim.fresh _ hsb, ?_⟩) S.kind)
 show codeAny _ _ (.expr c.body (envX c.qual c.scope s.heap.objs.size f (.ref cd) (c.xs.zip cs))) _ _
 have hk : ∀ b o, s.heap.get? b = some o → h0.get? b = some o := fun b o e => hsb.extBut b o (Nat.ne_of_lt (Heap.lt_size e)) (Heap.get?_push_of_some _ e)
 refine kla_codeExpr ?_
 obtain ⟨t, ht, hq⟩ := body cd (hr.deeper _)
 have hok0 := yu e0.hok hx
 have I : Inv (oZ P w K mg base N c.qual c.scope f (.ref cd) (c.xs.zip cs) A outer s (hide H cs)) [] (start N (vs ++ fvs)) (hide H cs) { s with heap := h0, toks := s.toks + (c.ps.zip us).length } := by
  refine ⟨⟨e0.mod, S.kind, rfl, rfl, Nat.le_refl _, fun y z b h5 h6 => ?_, fun y hy => ?_, fun y b h5 _ => absurd h5 Bool.false_ne_true, fun _ => hr.hd, Around.frames_deeper e0.frames, .inr ⟨rfl, rfl⟩, fun b z => absurd (show b ∈ ([] : List Addr) from z) (by simp), fun b o e => ⟨(e0.bs b o e).1, ?_⟩, e0.bsz, fun b _ _ z => absurd (show b ∈ ([] : List Addr) from z) (by simp), fun b z => absurd (show b ∈ ([] : List Addr) from z) (by simp), e0.funs, fun b hb' => ?_⟩,
   rfl, e0.bare, Un.kept hk, ⟨_, hns, fun i y v h5 h6 h7 => ?_⟩, fun y b h5 => ?_, hok0.fresh (Nat.le_refl _), fun y b h5 => ?_, fun p hp => absurd (show p ∈ ([] : List (Addr × Obj)) from hp) (by simp), hok0.kept hk, ?_⟩
  ·obtain ⟨i, i1, i2⟩ := cg h5
   obtain ⟨j, j1, j2⟩ := cg h6
   have := (List.getElem?_inj (List.getElem?_eq_some_iff.mp i2).1 nd).mp (i2.trans j2.symm)
   subst this
   exact Option.some.inj (i1.symm.trans j1)
  ·have hy : c.scope.names.lookup y = some .cell ∨ c.scope.names.lookup y = some .free := hy
   rcases hy with hy | hy
   ·exact absurd rfl (S.nocell _ (PySem.mem_of_lookup hy))
   ·exact tW len (S.fr _ (PySem.mem_of_lookup hy) rfl)
  ·have n := (e0.bs b o e).2
   show hide H cs b = none
   rw [bG]
   ·exact n
   ·intro z
    obtain ⟨o', e'⟩ := hx b z
    rw [n] at e'
    cases e'
  ·have n := e0.frf b hb'
   show hide H cs b = none
   rw [bG]
   ·exact n
   ·intro z
    obtain ⟨o', e'⟩ := hx b z
    rw [n] at e'
    cases e'
  ·have hi : i < (vs ++ fvs).length := by
    unfold start at h6
    by_cases hi : i < (vs ++ fvs).length
    ·exact hi
    ·rw [List.getElem?_append_right (by simpa using hi)] at h6
     rw [List.getElem?_replicate] at h6
     split at h6 <;> cases h6
   have ha : (vs ++ fvs)[i]? = some v := by
    unfold start at h6
    rw [List.getElem?_append_left (by simpa using hi), List.getElem?_map] at h6
    cases e : (vs ++ fvs)[i]? with
    | none => rw [e] at h6; cases h6
    | some a => rw [e] at h6; cases h6; rfl
   rw [List.length_append] at hi
   have hp : (c.ps ++ c.xs)[i]? = some y := by
    rw [← S.pre, List.getElem?_take_of_lt (by omega)]
    exact h5
   by_cases hi2 : i < vs.length
   ·rw [List.getElem?_append_left hi2] at ha
    rw [List.getElem?_append_left (by omega)] at hp
    obtain ⟨u, hu, rv⟩ := r.get ha
    exact ⟨u, rv, .inl ⟨S.par y (List.mem_of_getElem? hp), yz ndP hp hu⟩⟩
   ·rw [List.getElem?_append_right (by omega)] at ha
    rw [List.getElem?_append_right (by omega), ← hl] at hp
    have hj : i - vs.length < cs.length := by
     have := (List.getElem?_eq_some_iff.mp hp).1
     omega
    obtain ⟨b, hb5⟩ : ∃ b, cs[i - vs.length]? = some b := ⟨_, List.getElem?_eq_getElem hj⟩
    obtain ⟨co, v', u, q1, q2, q3, q4⟩ := hc _ b hb5
    rw [ha] at q1
    cases q1
    have hfree : c.scope.names.lookup y = some .free := by
     rcases h7 with q | q | q
     ·exact absurd q (S.frn y (List.mem_of_getElem? hp))
     ·exact absurd rfl (S.nocell _ (PySem.mem_of_lookup q))
     ·exact q
    exact ⟨u, q4, .inr ⟨.inr hfree, b, v8 ndX hp hb5, co, hk _ _ (cu e0.hok q2), q3⟩⟩
  ·obtain ⟨i, i1, i2⟩ := cg h5
   obtain ⟨co, v', u, q1, q2, q3, q4⟩ := hc _ b i2
   exact ⟨_, co, hk _ _ (cu e0.hok q2), q3⟩
  ·obtain ⟨i, i1, i2⟩ := cg h5
   exact lJ (List.mem_of_getElem? i2)
  ·unfold start
   show _ = N.length
   rw [List.length_append, List.length_map, List.length_replicate, List.length_append]
   omega
 have fin : ∀ {s' : Shared} {σ' : St} {H' : Hp} {v : V} {u : Value}, Inv (oZ P w K mg base N c.qual c.scope f (.ref cd) (c.xs.zip cs) A outer s (hide H cs)) [] σ' H' s' → RelV v u → Q v (over H cs H') → CE outer P w H s Q u s' := fun {s' σ' H' v u} J rv q => by
  obtain ⟨k1, k2⟩ := xZ e0.hok J.hok hx e0.frf J.base
  exact ⟨v, over H cs H', J.os, J.bare, k2, k1, rv, q⟩
 refine wpAny_mono (ht [] _ (start N (vs ++ fvs)) (hide H cs) _ I hq) (fun u s' hs => ?_) fun e s' hs => False.elim hs
 obtain ⟨v, H', J, rv, q⟩ := hs
 exact fin J rv q
end
section
variable {X : Cx} {pins : List (Addr × Obj)} {σ : St} {H : Hp} {s : Shared} {c P : Addr} {name qual : Str} {params : Arguments} {body : Expr} {scope : Scope} {clos : List (Str × Addr)} {pos : Pos} {n : Nat}
theorem Ab {M : Model} {A : Around} {E : Value → Shared → Prop} {Q : Value → Shared → Prop} (I : Inv X pins σ H s) (bm : BMain X.mg X.base) (hcode : X.env.code = .ref c) (C : CodeHd X.base c P) (hT : TabAt H P pos qual) (hcl : closureFor scope X.env = pure clos)
  (h : ∀ (fi cd : Addr) (pm ctv : Value) (oc : Obj) (vs : Array Value) (t : Tok) (H1 : Hp) (s1 : Shared), Inv X pins σ H1 s1 → H fi = none → (∀ b o, H b = some o → b ≠ P → H1 b = some o) → TabAt H1 P pos qual →
   H1 fi = some (aK fi (kla_obj name qual params body scope clos pm cd ctv)) → H1 cd = some (aK cd oc) → oc.data = .fields vs → vs[1]? = some (.str qual t) → Q (.ref fi) s1) :
  wpAny M A (makeFunction name qual params (.expr body) scope X.env [] [] [] pos n) Q E s := by
 obtain ⟨ps, hP, htr, hcase⟩ := hT
 have hPs : s.heap.get? P = some (tabObj ps) := I.hok P _ hP
 have G := I.mod.glob.keeps I.bk
 obtain ⟨bm, ob, b1, b2, b3, b4, b5, b6⟩ := bm
 have b3' := I.bk _ _ b3
 have hgP : mainGlobals ≠ P := fun q => by
  obtain ⟨o, es, ep, e, hd, _⟩ := G
  rw [q, hPs] at e; cases e; cases hd
 have hbP : bm ≠ P := fun q => by
  rw [q, hPs] at b3'; cases b3'; cases b4
 have hbG : bm ≠ mainGlobals := fun q => by
  obtain ⟨o, es, ep, e, hd, _⟩ := G
  rw [q, e] at b3'; cases b3'; rw [hd] at b6; cases b6
 have hbu : s.heap.BuiltinsAt X.mg P := ⟨bm, ob, b1, b2, hbG, hbP, b3', b4, b5, b6⟩
 rcases hcase with hnf | ⟨cd, oc, vs, t, hf, hcd, hd, hv⟩
 ·refine kla_makeFunction (mg := X.mg) hcl I.ok.glob G hcode (C.keeps I.bk) hPs htr hnf hgP hbu fun c' ctv h' tk hx hge hlt hrec htb => ?_
  obtain ⟨c2, oc, vs, t, e2, hoc, hd, hv⟩ := hrec
  cases e2
  have nc : H c' = none := I.hok.fresh hge
  have nf : H h'.objs.size = none := I.hok.fresh (Nat.le_trans hge (Nat.le_of_lt hlt))
  have nPc : P ≠ c' := aJ hP nc
  have nPf : P ≠ h'.objs.size := aJ hP nf
  have ncf : c' ≠ h'.objs.size := Nat.ne_of_lt hlt
  have k1 : ∀ b, b ≠ P → b ≠ c' → b ≠ h'.objs.size → upd (upd (upd H P (.tbl (ps ++ #[rawInt pos.line, rawInt pos.col, .ref c']))) c' (aK c' oc)) h'.objs.size (aK h'.objs.size (kla_obj name qual params body scope clos ((X.mg "__name__").getD .none) c' ctv)) b = H b := fun b e1 e2 e3 => by
   rw [aC e3, aC e2, aC e1]
  have kS : ∀ b o, H b = some o → b ≠ P → upd (upd (upd H P (.tbl (ps ++ #[rawInt pos.line, rawInt pos.col, .ref c']))) c' (aK c' oc)) h'.objs.size (aK h'.objs.size (kla_obj name qual params body scope clos ((X.mg "__name__").getD .none) c' ctv)) b = some o := fun b o e n => by
   rw [k1 b n (aJ e nc) (aJ e nf)]
   exact e
  have kP : upd (upd (upd H P (.tbl (ps ++ #[rawInt pos.line, rawInt pos.col, .ref c']))) c' (aK c' oc)) h'.objs.size (aK h'.objs.size (kla_obj name qual params body scope clos ((X.mg "__name__").getD .none) c' ctv)) P = some (.tbl (ps ++ #[rawInt pos.line, rawInt pos.col, .ref c'])) := by
   rw [aC nPf, aC nPc, ao]
  have kc : upd (upd (upd H P (.tbl (ps ++ #[rawInt pos.line, rawInt pos.col, .ref c']))) c' (aK c' oc)) h'.objs.size (aK h'.objs.size (kla_obj name qual params body scope clos ((X.mg "__name__").getD .none) c' ctv)) c' = some (aK c' oc) := by
   rw [aC ncf, ao]
  have kf : upd (upd (upd H P (.tbl (ps ++ #[rawInt pos.line, rawInt pos.col, .ref c']))) c' (aK c' oc)) h'.objs.size (aK h'.objs.size (kla_obj name qual params body scope clos ((X.mg "__name__").getD .none) c' ctv)) h'.objs.size = some (aK h'.objs.size (kla_obj name qual params body scope clos ((X.mg "__name__").getD .none) c' ctv)) := ao
  generalize upd (upd (upd H P (.tbl (ps ++ #[rawInt pos.line, rawInt pos.col, .ref c']))) c' (aK c' oc)) h'.objs.size (aK h'.objs.size (kla_obj name qual params body scope clos ((X.mg "__name__").getD .none) c' ctv)) = H1 at *
  have old : ∀ b o, s.heap.get? b = some o → b ≠ P → (h'.push (kla_obj name qual params body scope clos ((X.mg "__name__").getD .none) c' ctv)).get? b = some o := fun b o e n => Heap.get?_push_of_some _ (hx b o n e)
  have tabP : (h'.push (kla_obj name qual params body scope clos ((X.mg "__name__").getD .none) c' ctv)).get? P = some (tabObj (ps ++ #[rawInt pos.line, rawInt pos.col, .ref c'])) := Heap.get?_push_of_some _ htb
  have hl : (ps ++ #[rawInt pos.line, rawInt pos.col, .ref c']).toList = ps.toList ++ [rawInt pos.line, rawInt pos.col, .ref c'] := by simp
  refine h h'.objs.size c' _ ctv oc vs t H1 _ (I.call' (ch := []) rfl ⟨fun b o e n hb hx' => ?_, fun b o e n hb hx' => ?_, fun b o e n hx' => ?_, fun b o e hx' => ?_, fun b xs e => ?_, fun b o u e => ?_, fun b qs e => ?_⟩ (fun b u e => ?_) I.bare fun b z => absurd z (by simp)) nf kS ⟨_, kP, by rw [hl]; exact TriplesOk_snoc _ _ _ _ htr, .inr ⟨c', oc, vs, t, by rw [hl]; exact codeAmong_snoc _ htr hnf, kc, hd, hv⟩⟩ kf kc hd hv
  ·exact old b o e fun z => by rw [z, hP] at n; cases n
  ·exact ⟨o.slots, old b o e fun z => by rw [z, hP] at n; cases n⟩
  ·rw [k1 b (fun z => by rw [z, hP] at n; cases n) (Nat.ne_of_lt (Nat.lt_of_lt_of_le (Heap.lt_size e) hge)) (Nat.ne_of_lt (Nat.lt_of_lt_of_le (Heap.lt_size e) (Nat.le_trans hge (Nat.le_of_lt hlt))))]
   exact n
  ·by_cases z : b = P
   ·exact ⟨_, by rw [z]; exact tabP⟩
   ·exact ⟨o, old b o e z⟩
  ·exact kS b _ e fun z => by rw [z, hP] at e; cases e
  ·exact kS b _ e fun z => by rw [z, hP] at e; cases e
  ·by_cases z : b = P
   ·rw [z, hP] at e
    cases e
    exact ⟨_, by rw [z]; exact kP⟩
   ·exact ⟨#[], by rw [kS b _ e z]; simp⟩
  ·by_cases z1 : b = h'.objs.size
   ·rw [z1, kf] at e
    cases e
    rw [z1]
    exact cY (Heap.get?_push_size _ rfl)
   by_cases z2 : b = c'
   ·rw [z2, kc] at e
    cases e
    rw [z2]
    exact cY (Heap.get?_push_of_some _ hoc)
   by_cases z3 : b = P
   ·rw [z3, kP] at e
    cases e
    rw [z3]
    exact tabP
   rw [k1 b z3 z2 z1] at e
   refine (I.hok b u e).stay (fun d o hd' q => old d o q ?_) (fun d q => kS d _ q ?_) fun d xs q => kS d _ q ?_
   ·rcases hd' with rfl | hd'
    ·exact z3
    ·exact fun z => by rw [z, hP] at hd'; cases hd'
   ·exact fun z => by rw [z, hP] at q; cases q
   ·exact fun z => by rw [z, hP] at q; cases q
 ·refine kla_makeFunctionHit (mg := X.mg) hcl I.ok.glob G hcode (C.keeps I.bk) hPs htr hf hbu fun ctv h' tk hk hsz => ?_
  have nf : H h'.objs.size = none := I.hok.fresh hsz
  have kS : ∀ b o, H b = some o → upd H h'.objs.size (aK h'.objs.size (kla_obj name qual params body scope clos ((X.mg "__name__").getD .none) cd ctv)) b = some o := fun b o e => by
   rw [aC (aJ e nf)]
   exact e
  have old : ∀ b o, s.heap.get? b = some o → (h'.push (kla_obj name qual params body scope clos ((X.mg "__name__").getD .none) cd ctv)).get? b = some o := fun b o e => Heap.get?_push_of_some _ (hk b o e)
  refine h h'.objs.size cd _ ctv oc vs t _ _ (I.call' (ch := []) rfl (Un.laid old hsz nf) (fun b u e => ?_) I.bare fun b z => absurd z (by simp)) nf (fun b o e _ => kS b o e) ⟨ps, kS _ _ hP, htr, .inr ⟨cd, oc, vs, t, hf, kS _ _ hcd, hd, hv⟩⟩ ao (kS _ _ hcd) hd hv
  by_cases z1 : b = h'.objs.size
  ·rw [z1, ao] at e
   cases e
   rw [z1]
   exact cY (Heap.get?_push_size _ rfl)
  rw [aC z1] at e
  exact (I.hok b u e).stay (fun d o _ q => old d o q) (fun d q => kS d _ q) fun d xs q => kS d _ q
end
section
variable {CX : CXT} {P : Program} {w : World} {K : PySem.W.Frag} {mg : Str → Option Value} {base : Heap} {N : List Str} {qual : Str} {scope : Scope} {f c Pt : Addr} {A : Around} {outer : List Env} {s0 s : Shared} {H0 H : Hp} {E : XK} {σ : St} {Q : VK}
theorem CP {T : qW} {cs : List Addr} {fvs : List V} {pos p2 : Pos} (I : Inv (fG CX P w K mg base N qual scope f (.ref c) A outer s0 H0 E) [] σ H s) (bm : BMain mg base) (C : CodeHd base c Pt) (hT : TabAt H Pt pos T.qual)
  (hq : (envOfC qual scope s0.heap.objs.size f (.ref c)).qual ++ "<lambda>" = T.qual)
  (hcl : closureFor T.scope (envOfC qual scope s0.heap.objs.size f (.ref c)) = pure (T.xs.zip cs)) (hd0 : defaultsOf T.params (envOfC qual scope s0.heap.objs.size f (.ref c)) = ([], []))
  (hndC : cs.Nodup) (hlen : cs.length = T.xs.length) (hlenV : fvs.length = T.xs.length)
  (hfv : ∀ (j : Nat) (a : Addr), cs[j]? = some a → ∃ (x : Str) (m : Nat) (v : V), (envOfC qual scope s0.heap.objs.size f (.ref c)).cells.lookup x = some a ∧ scope.names.lookup x = some .cell ∧ N[m]? = some x ∧ σ[m]? = some (some v) ∧ fvs[j]? = some v)
  (hQ : ∀ (fi : Addr) (H2 : Hp), H fi = none → (∀ a ∈ cs, H a = none) → (∀ b o, H b = some o → b ≠ Pt → H2 b = some o) → TabAt H2 Pt pos T.qual → jh H2 fi T cs fvs → Q (.ref fi) H2) :
  wpAny (model P w) (A.deeper (envOfC qual scope s0.heap.objs.size f (.ref c))) (execs [.Return (some (.Lambda T.params T.body T.scope pos)) p2] (envOfC qual scope s0.heap.objs.size f (.ref c)))
   (fun fl s' => ∃ u, fl = .ret u ∧ CE outer P w H0 s0 Q u s') (fG CX P w K mg base N qual scope f (.ref c) A outer s0 H0 E).xe s := by
 refine wpAny_execs_cons (wpAny_Return_some (kla_eval hd0 ?_))
 rw [hq]
 refine Ab (X := fG CX P w K mg base N qual scope f (.ref c) A outer s0 H0 E) (n := pos.line) I bm rfl C hT hcl fun fi cd pm ctv oc vs t H1 s1 I1 nfi keep hT1 hf1 hc1 hd hv => ?_
 refine ⟨.ref fi, rfl, .ref fi, fun b => if b ∈ cs then (s1.heap.get? b).map (aK b) else H1 b, I1.os, I1.bare, ?_, ?_, rfl, ?_⟩
 all_goals
  have cellsOf : ∀ a ∈ cs, ∃ x, (envOfC qual scope s0.heap.objs.size f (.ref c)).cells.lookup x = some a := fun a ha' => by
   obtain ⟨j, hj⟩ := List.getElem?_of_mem ha'
   obtain ⟨x, m, v, h1, _⟩ := hfv j a hj
   exact ⟨x, h1⟩
  have fresh : ∀ a ∈ cs, s0.heap.objs.size ≤ a := fun a ha' => by
   obtain ⟨x, hx⟩ := cellsOf a ha'
   exact I1.ok.cab x a rfl hx
  have gone : ∀ a ∈ cs, H1 a = none := fun a ha' => by
   obtain ⟨x, hx⟩ := cellsOf a ha'
   exact I1.freeC x a hx
  have out : ∀ b o, H1 b = some o → b ∉ cs := fun b o e z => by
   rw [gone b z] at e
   cases e
 ·have U : Un (frs outer) [] H0 H1 s0.heap s1.heap := I1.base
  refine ⟨U.keep, U.slot, fun b o e n hx' => ?_, U.there, fun b xs e => ?_, fun b o v e => ?_, fun b ps e => ?_⟩
  ·show (if b ∈ cs then _ else H1 b) = none
   rw [if_neg (fun z => absurd (Nat.lt_of_lt_of_le (Heap.lt_size e) (fresh b z)) (Nat.lt_irrefl _))]
   exact U.free b o e n hx'
  ·have e1 := U.tups b xs e
   show (if b ∈ cs then _ else H1 b) = _
   rw [if_neg (out b _ e1)]
   exact e1
  ·have e1 := U.frzs b o v e
   show (if b ∈ cs then _ else H1 b) = _
   rw [if_neg (out b _ e1)]
   exact e1
  ·obtain ⟨more, e1⟩ := U.tbls b ps e
   refine ⟨more, ?_⟩
   show (if b ∈ cs then _ else H1 b) = _
   rw [if_neg (out b _ e1)]
   exact e1
 ·intro b u' e
  have e : (if b ∈ cs then (s1.heap.get? b).map (aK b) else H1 b) = some u' := e
  by_cases hb : b ∈ cs
  ·rw [if_pos hb] at e
   cases q : s1.heap.get? b with
   | none => rw [q] at e; cases e
   | some o =>
    rw [q] at e
    cases e
    exact cY q
  ·rw [if_neg hb] at e
   refine (I1.hok b u' e).stay (fun _ _ _ q => q) (fun d q => ?_) fun d xs q => ?_
   ·show (if d ∈ cs then _ else H1 d) = _
    rw [if_neg (out d _ q)]
    exact q
   ·show (if d ∈ cs then _ else H1 d) = _
    rw [if_neg (out d _ q)]
    exact q
 ·have kp : ∀ b o, H1 b = some o → (fun b => if b ∈ cs then (s1.heap.get? b).map (aK b) else H1 b) b = some o := fun b o e => by
   show (if b ∈ cs then _ else H1 b) = _
   rw [if_neg (out b _ e)]
   exact e
  refine hQ fi _ nfi (fun a ha' => ?_) (fun b o e n => kp b o (keep b o e n)) ?_ ⟨⟨cd, pm, ctv, oc, vs, t, kp _ _ hf1, kp _ _ hc1, hd, hv⟩, fun j a hj => ?_, hndC, hlen, hlenV⟩
  ·obtain ⟨x, hx⟩ := cellsOf a ha'
   exact I.freeC x a hx
  ·obtain ⟨ps, e1, e2, e3⟩ := hT1
   refine ⟨ps, kp _ _ e1, e2, ?_⟩
   rcases e3 with e3 | ⟨cd', oc', vs', t', e4, e5, e6⟩
   ·exact .inl e3
   ·exact .inr ⟨cd', oc', vs', t', e4, kp _ _ e5, e6⟩
  ·obtain ⟨x, m, v, h1, h2, h3, h4, h5⟩ := hfv j a hj
   obtain ⟨mm, _, hl⟩ := I1.loc
   obtain ⟨u', r', l⟩ := hl m x v h3 h4 (.inr (.inl h2))
   have l' : ∃ c', (envOfC qual scope s0.heap.objs.size f (.ref c)).cells.lookup x = some c' ∧ s1.heap.IsCell c' (some u') := by
    rcases l with ⟨l1, _⟩ | ⟨_, l2⟩
    ·have l1 : scope.names.lookup x = some .local := l1
     rw [h2] at l1
     cases l1
    ·exact l2
   obtain ⟨c', l1, co, l2, l3⟩ := l'
   rw [h1] at l1
   cases l1
   refine ⟨co, v, u', h5, ?_, l3, r'⟩
   show (if a ∈ cs then (s1.heap.get? a).map (aK a) else H1 a) = _
   rw [if_pos (List.mem_of_getElem? hj), l2]
   rfl
end
structure Ag (N : List Str) (qual : Str) (scope : Scope) (T : qW) (slots : List Nat) (csF : Addr → List Addr) : Prop where
 qn : ∀ (L f : Addr) (c : Value), (envOfC qual scope L f c).qual ++ "<lambda>" = T.qual
 cl : ∀ (L f : Addr) (c : Value), closureFor T.scope (envOfC qual scope L f c) = pure (T.xs.zip (csF L))
 d0 : ∀ (L f : Addr) (c : Value), defaultsOf T.params (envOfC qual scope L f c) = ([], [])
 ndC : ∀ L : Addr, (csF L).Nodup
 len : ∀ L : Addr, (csF L).length = T.xs.length
 fv : ∀ (L f : Addr) (c : Value) (j : Nat) (a : Addr), (csF L)[j]? = some a → ∃ (x : Str) (m : Nat), (envOfC qual scope L f c).cells.lookup x = some a ∧ scope.names.lookup x = some .cell ∧ N[m]? = some x ∧ slots[j]? = some m
def Do (H : Hp) (Pt : Addr) (pos : Pos) (T : qW) (slots : List Nat) (σ : St) (Q : VK) : Prop :=
 TabAt H Pt pos T.qual ∧ ∃ fvs : List V, (∀ j m : Nat, slots[j]? = some m → ∃ v, σ[m]? = some (some v) ∧ fvs[j]? = some v) ∧ fvs.length = T.xs.length ∧
  ∀ (fi : Addr) (cs : List Addr) (H2 : Hp), H fi = none → (∀ a ∈ cs, H a = none) → (∀ b o, H b = some o → b ≠ Pt → H2 b = some o) → TabAt H2 Pt pos T.qual → jh H2 fi T cs fvs → Q (.ref fi) H2
section
variable {P : Program} {w : World} {K : PySem.W.Frag} {mg : Str → Option Value} {base : Heap} {x qual : Str} {st : Stmt} {f c Pt : Addr} {fd : FuncData} {N ps : List Str} {k i : Nat} {sp : Sp} {T : qW} {slots : List Nat} {csF : Addr → List Addr} {pos p1 p2 : Pos}
theorem zu {A : Around} {outer : List Env} {s s1 : Shared} {H H1 : Hp} {Q : VK} {E : XK} {σ : St} (M : Ag N qual (defScope st) T slots csF) (bm : BMain mg base) (C : CodeHd base c Pt) (I : Inv (fG CX0 P w K mg base N qual (defScope st) f (.ref c) A outer s H E) [] σ H1 s1) (h : Do H1 Pt pos T slots σ Q) :
  wpAny (model P w) (A.deeper (envOfC qual (defScope st) s.heap.objs.size f (.ref c))) (execs [.Return (some (.Lambda T.params T.body T.scope pos)) p2] (envOfC qual (defScope st) s.heap.objs.size f (.ref c)))
   (fun fl s' => ∃ u, fl = .ret u ∧ CE outer P w H s Q u s') (fG CX0 P w K mg base N qual (defScope st) f (.ref c) A outer s H E).xe s1 := by
 obtain ⟨hT, fvs, h1, h2, h3⟩ := h
 refine CP (cs := csF s.heap.objs.size) (fvs := fvs) I bm C hT (M.qn _ _ _) (M.cl _ _ _) (M.d0 _ _ _) (M.ndC _) (M.len _) h2 (fun j a e => ?_) (fun fi H2 n1 n2 n3 n4 n5 => h3 fi _ H2 n1 n2 n3 n4 n5)
 obtain ⟨y, m, e1, e2, e3, e4⟩ := M.fv s.heap.objs.size f (.ref c) j a e
 obtain ⟨v, e6, e7⟩ := h1 j m e4
 exact ⟨y, m, v, e1, e2, e3, e6, e7⟩
theorem Fun.makerL1 {st0 : Stmt} (F : Fun K x qual st f fd) (S : aA N ps (defScope st)) (M : Ag N qual (defScope st) T slots csF) (bm : BMain mg base) (hcode : fd.code = .ref c) (C : CodeHd base c Pt) (len : ∀ vs H Q E, sp vs H Q E → vs.length = ps.length)
  (hb : defBody st = [st0, .Return (some (.Lambda T.params T.body T.scope pos)) p2])
  (h : ∀ (cdv : Value) (A : Around) (outer : List Env) (s : Shared) (H : Hp) (vs : List V) (Q : VK) (E : XK), cz k (A.deeper (envOfC qual (defScope st) s.heap.objs.size f cdv)) → sp vs H Q E →
   ∃ t, PS (fG CX0 P w K mg base N qual (defScope st) f cdv A outer s H E).nox st0 t ∧ t { nx := fun σ H' => Do H' Pt pos T slots σ Q, rt := fun _ _ => False } (start N vs) H) : aU P w K mg base CX0 (k + 1) f fd ps sp := by
 obtain ⟨oc, od, kV, doc, pm, an, cdv, ct, osl, rfl, lk, hcd⟩ := F.ex
 obtain rfl : cdv = .ref c := hcode
 refine Aw lk hcd S len fun A outer s H vs Q E s1 hr hsp I => ?_
 rw [hb]
 obtain ⟨t, h1, h2⟩ := h _ A outer s H vs Q E hr hsp
 refine wpAny_execs_cons (wpAny_mono (h1 [] s1 (start N vs) H _ (I.wish _) h2) (fun fl s2 q => ?_) fun _ _ z => False.elim z)
 cases fl with
 | next =>
  obtain ⟨σ, H1, I1, q⟩ := q
  exact zu M bm C I1.unwish q
 | ret u => obtain ⟨_, _, _, _, _, z⟩ := q; exact False.elim z
 | brk => obtain ⟨_, _, _, z⟩ := q; exact False.elim z
 | cont => obtain ⟨_, _, _, z⟩ := q; exact False.elim z
theorem FQ {sp : Addr → Sp} (S : p8 N T) (hb : ∀ (cl : List (Str × Addr)) (pm cd ctv : Value) (us : List Value), us.length = T.ps.length → bindArgs (kla_fn "<lambda>" T.qual T.params T.body T.scope cl pm cd ctv) ⟨us, []⟩ = pure (T.ps.zip us))
  (h : ∀ (f : Addr) (vs : List V) (H : Hp) (Q : VK), sp f vs H Q E0 → vs.length = T.ps.length ∧ ∃ cs fvs, jh H f T cs fvs ∧
   ∀ (cd : Addr) (A : Around) (outer : List Env) (s : Shared), cz k (A.deeper (envX T.qual T.scope s.heap.objs.size f (.ref cd) (T.xs.zip cs))) → ∃ t, PE (oZ P w K mg base N T.qual T.scope f (.ref cd) (T.xs.zip cs) A outer s (hide H cs)) T.body t ∧ t (start N (vs ++ fvs)) (hide H cs) fun v H' => Q v (over H cs H')) :
  oU P w K mg base (k + 1) sp := by
 intro f A outer s H us vs Q hr e0 r hsp
 obtain ⟨hl, cs, fvs, ca, hbody⟩ := h f vs H Q hsp
 exact Ca S hr e0 ca (fun cl pm cd ctv => hb cl pm cd ctv us (by rw [← r.length]; exact hl)) r hl fun cd hr' => hbody cd A outer s hr'
end
end L2
set_option Elab.async false
set_option linter.all false
set_option maxRecDepth 100000
set_option maxHeartbeats 4000000
namespace L2
open PySem PySem.Spec PyProof.Rows
section
variable {X : Cx} {pins : List (Addr × Obj)} {σ : St} {H : Hp} {s : Shared} {h' : Heap}
theorem Inv.turnN {ch : List Addr} {p : Addr} {o : HO} {t' : Nat} (I : Inv X pins σ H s) (hf : ∀ b ∈ ch, iD X pins H b)
  (k : ∀ b u, b ∉ ch → s.heap.get? b = some u → h'.get? b = some u) (hp : s.heap.objs.size ≤ p)
  (new : bU X.prog X.w (upd H p o) h' p o) : Inv X pins σ (upd H p o) { s with heap := h', toks := t' } := by
 have hn := I.hok.fresh hp
 have ne : ∀ b u, H b = some u → b ∉ ch := fun b u q z => by rw [(hf b z).1] at q; cases q
 have up : ∀ b u, H b = some u → upd H p o b = some u := fun b u q => by rw [aC (aJ q hn)]; exact q
 refine I.step (g' := s.gens) (d' := s.drawn) (ch := ch) (fun b hb => ?_) (fun b u _ _ hx q _ => k b u hx q) (fun b u _ _ hx q _ => ⟨u.slots, k b u hx q⟩)
  (fun b u _ q n => by rw [aC (Nat.ne_of_lt (Nat.lt_of_lt_of_le (Heap.lt_size q) hp))]; exact n) (fun b u hx q => ⟨u, k b u hx q⟩)
  (fun b xs q => up _ _ q) (fun b ob u q => up _ _ q) (fun b ps q => ⟨#[], by rw [up _ _ q]; simp⟩) (fun m hm => ?_) (fun b u q => ?_) I.bare
 ·have fe := hf b hb
  exact ⟨fe.2.2.2.1, fe.2.1, fe.2.2.2.2.1, fe.2.2.2.2.2⟩
 ·obtain ⟨ob, es, ep, ho, r⟩ := hm
  exact ⟨ob, es, ep, k _ ob (fun z => (hf _ z).2.1 rfl) ho, r⟩
 ·by_cases hb : b = p
  ·subst hb
   rw [ao] at q
   cases q
   exact new
  ·rw [aC hb] at q
   refine (I.hok b u q).stay (fun c v hc r => k c v ?_ r) (fun c r => up _ _ r) fun c xs r => up _ _ r
   rcases hc with rfl | z
   ·exact ne _ _ q
   ·exact ne _ _ z
theorem Inv.turnedN {ch : List Addr} {t' : Nat} (I : Inv X pins σ H s) (hf : ∀ b ∈ ch, iD X pins H b)
  (k : ∀ b u, b ∉ ch → s.heap.get? b = some u → h'.get? b = some u) : Inv X pins σ H { s with heap := h', toks := t' } := by
 have ne : ∀ b u, H b = some u → b ∉ ch := fun b u q z => by rw [(hf b z).1] at q; cases q
 refine I.step (g' := s.gens) (d' := s.drawn) (ch := ch) (fun b hb => ?_) (fun b u _ _ hx q _ => k b u hx q) (fun b u _ _ hx q _ => ⟨u.slots, k b u hx q⟩)
  (fun _ _ _ _ n => n) (fun b u hx q => ⟨u, k b u hx q⟩)
  (fun _ _ q => q) (fun _ _ _ q => q) (fun b ps q => ⟨#[], by rw [q]; simp⟩) (fun m hm => ?_) (fun b u q => ?_) I.bare
 ·have fe := hf b hb
  exact ⟨fe.2.2.2.1, fe.2.1, fe.2.2.2.2.1, fe.2.2.2.2.2⟩
 ·obtain ⟨ob, es, ep, ho, r⟩ := hm
  exact ⟨ob, es, ep, k _ ob (fun z => (hf _ z).2.1 rfl) ho, r⟩
 ·refine (I.hok b u q).stay (fun c v hc r => k c v ?_ r) (fun c r => r) fun c xs r => r
  rcases hc with rfl | z
  ·exact ne _ _ q
  ·exact ne _ _ z
end
def Itz (K : PySem.W.Frag) (a b : Addr) : It :=
  ⟨fun i H => ∃ xs ys x y, SqL K H a xs ∧ SqL K H b ys ∧ xs[i]? = some x ∧ ys[i]? = some y,
   fun i H v H' => ∃ p x y, H p = none ∧ v = .ref p ∧ H' = upd H p (.tup [x, y]) ∧ (∀ xs, SqL K H a xs → xs[i]? = some x) ∧ ∀ ys, SqL K H b ys → ys[i]? = some y,
   fun i H => ∃ xs ys, SqL K H a xs ∧ SqL K H b ys ∧ (xs.length ≤ i ∨ ys.length ≤ i)⟩
structure v5 (z TI TO i1 i2 : Addr) : Prop where
 TIz : TI ≠ z
 TOz : TO ≠ z
 i1z : i1 ≠ z
 i2z : i2 ≠ z
 TITO : TI ≠ TO
 TIi1 : TI ≠ i1
 TIi2 : TI ≠ i2
 TOi1 : TO ≠ i1
 TOi2 : TO ≠ i2
 i12 : i1 ≠ i2
def Dl (a b z TI TO i1 i2 : Addr) (i : Nat) (h : Heap) : Prop := IsZip h z TI TO .none ∧ IsPair h TI (.ref i1) (.ref i2) ∧ (∃ x y, IsPair h TO x y) ∧ h.IsListIter i1 a i ∧ h.IsListIter i2 b i
theorem jN {h : Heap} {a b : Addr} {o u : Obj} (ho : h.get? a = some o) (hu : h.get? b = some u) (hc : o.cls ≠ u.cls) : a ≠ b := fun z => by
 subst z
 rw [ho] at hu
 cases hu
 exact hc rfl
theorem uR {h : Heap} {a b z TI TO i1 i2 : Addr} {i : Nat} {xs ys : Array Value} (D : v5 z TI TO i1 i2) (st : Dl a b z TI TO i1 i2 i h) (h1 : h.IsList a xs) (h2 : h.IsList b ys) : ZipApart z TI TO i1 i2 a b := by
 obtain ⟨hz, hTI, ⟨x, y, hTO⟩, ⟨o1, e1, c1, _⟩, ⟨o2, e2, c2, _⟩⟩ := st
 obtain ⟨oa, ea, ca, _⟩ := h1
 obtain ⟨ob, eb, cb, _⟩ := h2
 exact ⟨D.TIz, D.TOz, D.i1z, D.i2z, D.TITO, D.TIi1, D.TIi2, D.TOi1, D.TOi2, D.i12,
  jN ea hz (by rw [ca]; show Value.type "list" ≠ Value.type "zip"; decide), jN ea hTO (by rw [ca]; show Value.type "list" ≠ Value.type "tuple"; decide), jN ea e1 (by rw [ca, c1]; decide), jN ea e2 (by rw [ca, c2]; decide),
  jN eb hz (by rw [cb]; show Value.type "list" ≠ Value.type "zip"; decide), jN eb hTO (by rw [cb]; show Value.type "list" ≠ Value.type "tuple"; decide), jN eb e1 (by rw [cb, c1]; decide), jN eb e2 (by rw [cb, c2]; decide)⟩
theorem Am {P : Program} {w : World} {K : PySem.W.Frag} {elts : List Expr} {x1 : Nat} {tpos : Pos} (a b z TI TO i1 i2 : Addr) (D : v5 z TI TO i1 i2) :
  Turn P w K (.Tuple elts x1 tpos) (Itz K a b) [z, TI, TO, i1, i2] z (Dl a b z TI TO i1 i2) where
 mem := by simp
 obj := fun i h st c hc => by
  obtain ⟨hz, hTI, ⟨x, y, hTO⟩, ⟨o1, e1, c1, d1⟩, ⟨o2, e2, c2, d2⟩⟩ := st
  have hc' : c = z ∨ c = TI ∨ c = TO ∨ c = i1 ∨ c = i2 := by simpa using hc
  rcases hc' with rfl | rfl | rfl | rfl | rfl
  ·exact ⟨_, hz, fun v q => by cases q⟩
  ·exact ⟨_, hTI, fun v q => by cases q⟩
  ·exact ⟨_, hTO, fun v q => by cases q⟩
  ·exact ⟨_, e1, fun v q => by rw [d1] at q; cases q⟩
  ·exact ⟨_, e2, fun v q => by rw [d2] at q; cases q⟩
 keep := fun i h h' st k => by
  obtain ⟨hz, hTI, ⟨x, y, hTO⟩, h1, h2⟩ := st
  exact ⟨k z (by simp) _ hz, k TI (by simp) _ hTI, ⟨x, y, k TO (by simp) _ hTO⟩, h1.at fun o q => k i1 (by simp) o q, h2.at fun o q => k i2 (by simp) o q⟩
 item := by
  intro X hP hw hK hc i pins s σ H E I hf st hg
  subst hP hw hK
  obtain ⟨xs, ys, x, y, hq1, hq2, hx, hy⟩ := hg
  obtain ⟨is1, rv1, p1, hz1⟩ := I.list hq1
  obtain ⟨is2, rv2, p2, hz2⟩ := I.list hq2
  obtain ⟨u1, hu1, ru1⟩ := rv1.get hx
  obtain ⟨u2, hu2, ru2⟩ := rv2.get hy
  have D7 := uR D st p1.isList p2.isList
  obtain ⟨hz, hTI, ⟨v1, v2, hTO⟩, st1, st2⟩ := id st
  refine wpAny_pyNext_zip_item D7 hz hTI hTO st1 st2 p1.isList p2.isList (x := u1) (by simpa using hu1) (y := u2) (by simpa using hu2) fun h1 a1 a2 a3 a4 a5 a6 hk => ?_
  refine ⟨_, rfl, wpAny_letOwnedTupleGo_zip a1 fun h2 he2 hs2 => ?_⟩
  have lt : ∀ {c o}, s.heap.get? c = some o → s.heap.objs.size ≠ c := fun e => Nat.ne_of_gt (Heap.lt_size e)
  have g2 : h2.get? s.heap.objs.size = some { cls := .type "tuple", data := .seq #[u1, u2] } := (hs2.2 _ (lt hz)).trans a5
  have kk : ∀ b o, b ∉ [z, TI, TO, i1, i2] → s.heap.get? b = some o → h2.get? b = some o := fun b o hb q =>
   (hs2.2 b (fun e => hb (by simp [e]))).trans (hk b o (fun e => hb (by simp [e])) (fun e => hb (by simp [e])) (fun e => hb (by simp [e])) (fun e => hb (by simp [e])) q)
  have new : bU X.prog X.w (upd H s.heap.objs.size (.tup [x, y])) h2 s.heap.objs.size (.tup [x, y]) :=
   ⟨(by show 2 ≤ sizeLine; decide), [u1, u2], .cons ru1 (.cons ru2 .nil), _, g2, rfl, _, rfl⟩
  have I2 := I.turnN (h' := h2) (t' := s.toks) hf kk (Nat.le_refl _) new
  have hn : H s.heap.objs.size = none := I.hok.fresh (Nat.le_refl _)
  refine ⟨.ref s.heap.objs.size, _, I2, rfl, ⟨_, x, y, hn, rfl, rfl, fun zs hq => by rw [I.list_inj hq hq1]; exact hx, fun zs hq => by rw [I.list_inj hq hq2]; exact hy⟩,
   ⟨he2, (hs2.2 _ D.TIz).trans (hk _ _ D.TIz D.TITO D.TIi1 D.TIi2 hTI), ⟨u1, u2, (hs2.2 _ D.TOz).trans a2⟩, a3.extBut hs2.extBut D.i1z, a4.extBut hs2.extBut D.i2z⟩, fun b hb => ?_⟩
  have hbs : b ≠ s.heap.objs.size := by
   obtain ⟨o1, e1, _⟩ := st1
   obtain ⟨o2, e2, _⟩ := st2
   have hc' : b = z ∨ b = TI ∨ b = TO ∨ b = i1 ∨ b = i2 := by simpa using hb
   rcases hc' with rfl | rfl | rfl | rfl | rfl
   ·exact (lt hz).symm
   ·exact (lt hTI).symm
   ·exact (lt hTO).symm
   ·exact (lt e1).symm
   ·exact (lt e2).symm
  rw [aC hbs]
  exact (hf b hb).1
 done := by
  intro X hP hw hK hc i pins s σ H E I hf st hg
  subst hP hw hK
  obtain ⟨xs, ys, hq1, hq2, hx⟩ := hg
  obtain ⟨is1, rv1, p1, hz1⟩ := I.list hq1
  obtain ⟨is2, rv2, p2, hz2⟩ := I.list hq2
  have D7 := uR D st p1.isList p2.isList
  obtain ⟨hz, hTI, ⟨v1, v2, hTO⟩, st1, st2⟩ := id st
  have l1 := rv1.length
  have l2 := rv2.length
  refine wpAny_pyNext_zip_end (I.ok.hd hc) D7 hz hTI hTO st1 st2 p1.isList p2.isList ?_ fun h' hk => ⟨rfl, I.turnedN (t' := s.toks) hf fun b o hb q => hk b o (fun e => hb (by simp [e])) (fun e => hb (by simp [e])) (fun e => hb (by simp [e])) (fun e => hb (by simp [e])) q⟩
  rcases hx with hx | hx
  ·exact .inl (by simp; omega)
  ·exact .inr (by simp; omega)
 self := fun _ _ _ _ _ st h => wpAny_pyIter_zip st.1 h
section
variable {X : Cx}
def Hl (K : PySem.W.Frag) (ta : TA) : TI := fun σ H R => ta σ H fun vs H1 => ∃ a b xs ys, vs = [.ref a, .ref b] ∧ SqL K H1 a xs ∧ SqL K H1 b ys ∧ R (Itz K a b) H1
theorem Fq {a b : Expr} {ta : TA} {p pos : Pos} {elts : List Expr} {x1 : Nat} {tpos : Pos} (hg : Gl X "zip") (hm : X.mg "zip" = none) (hv : bootBuiltins "zip" = some (.type "zip")) (ha : PA X [a, b] ta)
  (hs : starEach [a, b] X.env = [(false, eval a X.env), (false, eval b X.env)] := by rfl) (hs2 : starEach [b] X.env = [(false, eval b X.env)] := by rfl) :
  PI X (.Tuple elts x1 tpos) (.Call (.Name "zip" p) [a, b] [] pos) (Hl X.K ta) := by
 intro pins s σ H R I h
 refine Call_ (c7 I hg hm hv (PyProof.Rows.callWith_type1 (thn (ha pos pins s σ H _ I h) fun us s1 ⟨vs, H1, I1, r1, q1⟩ => ?_) (by rw [hs, hs2]) (by rw [hs2]; rfl)))
 obtain ⟨l1, l2, xs, ys, e, hq1, hq2, q⟩ := q1
 subst e
 cases r1 with
 | cons r rr =>
  cases rr with
  | cons r' rr =>
   cases rr
   cases r
   cases r'
   obtain ⟨is1, rv1, p1, hz1⟩ := I1.list hq1
   obtain ⟨is2, rv2, p2, hz2⟩ := I1.list hq2
   refine call_zip_2 p1.isList p2.isList fun h' hz hTI hTO hi1 hi2 hsz hk => ?_
   refine wpAny_pyIter_zip hz ?_
   have I2 : Inv X pins σ H1 { s1 with heap := h' } := I1.kept (t' := s1.toks) hk
   have D : v5 (s1.heap.objs.size + 4) (s1.heap.objs.size + 2) (s1.heap.objs.size + 3) s1.heap.objs.size (s1.heap.objs.size + 1) := by
    have k : ∀ n i j : Nat, i ≠ j → n + i ≠ n + j := fun n i j h => by omega
    exact ⟨k _ 2 4 (by decide), k _ 3 4 (by decide), k _ 0 4 (by decide), k _ 1 4 (by decide), k _ 2 3 (by decide), k _ 2 0 (by decide), k _ 2 1 (by decide), k _ 3 0 (by decide), k _ 3 1 (by decide), k _ 0 1 (by decide)⟩
   refine ⟨s1.heap.objs.size + 4, _, _, Itz X.K l1 l2, H1, rfl, I2, Am l1 l2 _ _ _ _ _ D, ⟨hz, hTI, ⟨_, _, hTO⟩, hi1, hi2⟩, fun c hc => ?_, q⟩
   have hle : s1.heap.objs.size ≤ c := by
    have hc' : c = s1.heap.objs.size + 4 ∨ c = s1.heap.objs.size + 2 ∨ c = s1.heap.objs.size + 3 ∨ c = s1.heap.objs.size ∨ c = s1.heap.objs.size + 1 := by simpa using hc
    rcases hc' with rfl | rfl | rfl | rfl | rfl
    ·exact Nat.le_add_right _ _
    ·exact Nat.le_add_right _ _
    ·exact Nat.le_add_right _ _
    ·exact Nat.le_refl _
    ·exact Nat.le_add_right _ _
   exact I1.fpOk hle (I1.hok.fresh hle)
end
theorem Cj {K : PySem.W.Frag} {a b : Addr} {xs ys : List V} {g : TG} {tb : TS} {D : Ends} {σ : St} {H : Hp} (Pv : Nat → St → Hp → Prop) (h0 : Pv 0 σ H) (hl : ∀ i σ H, i ≤ min xs.length ys.length → Pv i σ H → SqL K H a xs ∧ SqL K H b ys)
  (hs : ∀ i x y σ H p, xs[i]? = some x → ys[i]? = some y → Pv i σ H → H p = none → g (.ref p) σ (upd H p (.tup [x, y])) fun σ2 H2 => tb { D with nx := Pv (i + 1), ct := Pv (i + 1), bk := D.nx } σ2 H2) (hd : ∀ σ H, Pv (min xs.length ys.length) σ H → D.nx σ H) :
  ∃ W : Nat → Nat → St → Hp → Prop, (∃ m, W 0 m σ H) ∧ ∀ i m σ H, W i m σ H →
   ((Itz K a b).stop i H ∧ D.nx σ H) ∨ ((Itz K a b).go i H ∧ ∃ N : St → Hp → Prop, (∀ σ' H', N σ' H' → ∃ m', m' < m ∧ W (i + 1) m' σ' H') ∧ ∀ x H', (Itz K a b).yld i H x H' → g x σ H' fun σ2 H2 => tb { D with nx := N, ct := N, bk := D.nx } σ2 H2) := by
 refine ⟨fun i m σ H => m = min xs.length ys.length - i ∧ i ≤ min xs.length ys.length ∧ Pv i σ H, ⟨min xs.length ys.length, rfl, Nat.zero_le _, h0⟩, ?_⟩
 rintro i m σ H ⟨rfl, hi, p⟩
 obtain ⟨q1, q2⟩ := hl i σ H hi p
 by_cases hlt : i < min xs.length ys.length
 ·have k1 : i < xs.length := by omega
  have k2 : i < ys.length := by omega
  refine .inr ⟨⟨xs, ys, xs[i], ys[i], q1, q2, List.getElem?_eq_getElem k1, List.getElem?_eq_getElem k2⟩, Pv (i + 1), fun σ' H' p' => ⟨min xs.length ys.length - (i + 1), by omega, rfl, hlt, p'⟩, fun x H' y => ?_⟩
  obtain ⟨c, x, y, hn, e1, e2, hx, hy⟩ := y
  subst e1 e2
  exact hs i x y σ H c (hx xs q1) (hy ys q2) p hn
 ·have e : i = min xs.length ys.length := by omega
  subst e
  exact .inl ⟨⟨xs, ys, q1, q2, by omega⟩, hd σ H p⟩
end L2
set_option Elab.async false
set_option linter.all false
set_option maxRecDepth 100000
set_option maxHeartbeats 4000000
namespace Tw
def brk : List Int → Int → List Int
 | [], u => List.replicate u.toNat 0
 | d :: r, u => List.replicate (u - d).toNat 0 ++ 1 :: brk r (d + 1)
def Dp : List Int → Int → Prop
 | [], u => 0 ≤ u
 | d :: r, u => 0 ≤ d ∧ d ≤ u ∧ Dp r (d + 1)
theorem Dp.pos : ∀ {l : List Int} {u : Int}, Dp l u → 0 ≤ u
 | [], _, h => h
 | _ :: _, _, h => Int.le_trans h.1 h.2.1
theorem iM : ∀ {l : List Int} {u : Int}, Dp l u → (brk l u).length = u.toNat + 2 * l.length
 | [], u, _ => by simp [brk]
 | d :: r, u, h => by
  have := iM h.2.2
  have h1 := h.1
  have h2 := h.2.1
  simp only [brk, List.length_append, List.length_replicate, List.length_cons, this]
  omega
theorem vQ {l : List Int} {u x : Int} {t : List Int} (h : Dp l u) (e : brk l u = x :: t) :
  (x = 0 ∧ 1 ≤ u ∧ t = brk l (u - 1) ∧ Dp l (u - 1)) ∨ ∃ r, l = u :: r ∧ x = 1 ∧ t = brk r (u + 1) ∧ Dp r (u + 1) := by
 cases l with
 | nil =>
  have hu : 0 ≤ u := h
  rcases Int.lt_or_le 0 u with z | z
  ·refine .inl ?_
   have e1 : u.toNat = (u - 1).toNat + 1 := by omega
   simp only [brk] at e ⊢
   rw [e1, List.replicate_succ] at e
   injection e with e2 e3
   exact ⟨e2.symm, z, e3.symm, show 0 ≤ u - 1 by omega⟩
  ·have : u.toNat = 0 := by omega
   simp only [brk] at e
   rw [this] at e
   cases e
 | cons d r =>
  obtain ⟨h1, h2, h3⟩ := h
  rcases Int.lt_or_le d u with z | z
  ·refine .inl ?_
   have e1 : (u - d).toNat = (u - 1 - d).toNat + 1 := by omega
   simp only [brk] at e ⊢
   rw [e1, List.replicate_succ, List.cons_append] at e
   injection e with e2 e3
   exact ⟨e2.symm, by omega, e3.symm, h1, by omega, h3⟩
  ·have : u = d := by omega
   subst this
   refine .inr ⟨r, rfl, ?_⟩
   simp only [brk] at e
   rw [Int.sub_self] at e
   injection e with e2 e3
   exact ⟨e2.symm, e3.symm, h3⟩
theorem Cg {l : List Int} {u : Int} (h : Dp l u) (e : brk l u = []) : l = [] ∧ u = 0 := by
 have := iM h
 rw [e] at this
 have hp := h.pos
 cases l with
 | nil =>
  refine ⟨rfl, ?_⟩
  have : 0 = u.toNat + 2 * 0 := this
  omega
 | cons d r =>
  rw [List.length_cons] at this
  have : 0 = u.toNat + 2 * (r.length + 1) := this
  omega
def bu (ds : List Int) : Prop := ds[0]? = some 0 ∧ ∀ i x y, ds[i]? = some x → ds[i + 1]? = some y → 1 ≤ y ∧ y ≤ x + 1
theorem Dr : ∀ (r : List Int) (a : Int), (∀ (i : Nat) (x y : Int), (a :: r)[i]? = some x → (a :: r)[i + 1]? = some y → 1 ≤ y ∧ y ≤ x + 1) → 0 ≤ a → Dp r (a + 1)
 | [], a, _, ha => by show 0 ≤ a + 1; omega
 | d :: r, a, h, ha => by
  have h0 := h 0 a d rfl rfl
  exact ⟨by omega, h0.2, Dr r d (fun i x y h1 h2 => h (i + 1) x y h1 h2) (by omega)⟩
theorem bu.dp {ds : List Int} (h : bu ds) : Dp ds 0 := by
 cases ds with
 | nil => exact absurd h.1 (by simp)
 | cons d r =>
  have : d = 0 := by
   have := h.1
   exact Option.some.inj this
  subst this
  exact ⟨by decide, by decide, Dr r 0 h.2 (by decide)⟩
theorem bu.one {ds : List Int} (h : bu ds) {i : Nat} {d : Int} (hi : 0 < i) (hd : ds[i]? = some d) : 1 ≤ d := by
 obtain ⟨j, rfl⟩ : ∃ j, i = j + 1 := ⟨i - 1, by omega⟩
 have hl := (List.getElem?_eq_some_iff.mp hd).1
 have := h.2 j ds[j] d (List.getElem?_eq_getElem (by omega)) hd
 exact this.1
theorem bu.root : bu [0] := ⟨rfl, fun i x y _ h2 => by simp at h2⟩
theorem bu.snoc {ds : List Int} {a d : Int} (h : bu ds) (hl : ds[ds.length - 1]? = some a) (h1 : 1 ≤ d) (h2 : d ≤ a + 1) : bu (ds ++ [d]) := by
 have h0 : 0 < ds.length := by
  have := (List.getElem?_eq_some_iff.mp h.1).1
  exact this
 refine ⟨by rw [List.getElem?_append_left h0]; exact h.1, fun i x y e1 e2 => ?_⟩
 rcases Nat.lt_or_ge (i + 1) ds.length with z | z
 ·rw [List.getElem?_append_left (by omega)] at e1
  rw [List.getElem?_append_left z] at e2
  exact h.2 i x y e1 e2
 ·have hz := (List.getElem?_eq_some_iff.mp e2).1
  rw [List.length_append, List.length_singleton] at hz
  have ei : i = ds.length - 1 := by omega
  rw [List.getElem?_append_left (by omega), ei, hl] at e1
  rw [List.getElem?_append_right z, show i + 1 - ds.length = 0 from by omega] at e2
  have e2 : d = y := Option.some.inj e2
  have e1 : a = x := Option.some.inj e1
  subst e1 e2
  exact ⟨h1, h2⟩
end Tw
set_option Elab.async false
set_option linter.all false
set_option maxRecDepth 100000
set_option maxHeartbeats 4000000
namespace L2
open PySem PySem.Spec PyProof.Rows
end L2
namespace L2
open PySem PySem.Spec PyProof.Rows
section
variable (P : Program) (w : World)
end
section
variable {P : Program} {w : World} {H H' : Hp} {h h' : Heap} {a : Addr} {o : HO}
end
section
variable {P : Program} {w : World} {H : Hp} {h h' : Heap} {x e : Addr} {o' : HO}
end
section
variable {fs fs' ex ex' : List Addr} {H H1 H2 : Hp} {h h1 h2 h' : Heap} {a x e : Addr} {o : HO}
end
end L2
namespace L2
open PySem PySem.Spec PyProof.Rows
section
variable {X : Cx} {pins : List (Addr × Obj)} {σ : List (Option V)} {H H' : Hp} {s : Shared} {h' : Heap}
end
end L2
namespace L2
open PySem PySem.Spec PyProof.Rows
section
variable {X : Cx}
variable {a b : Expr} {ta tb : TE} {pos : Pos}
variable {tA tB' : TT} {rest : List Expr}
end
end L2
namespace L2
open PySem PySem.Spec PyProof.Rows
section
variable {X : Cx} {pins : List (Addr × Obj)} {σ : St} {H : Hp} {s : Shared} {a : Addr} {xs ys : List V}
end
section
variable {X : Cx} {pins : List (Addr × Obj)} {σ : St} {H : Hp} {s : Shared} {E : Value → Shared → Prop}
end
section
variable {X : Cx} {st : Stmt} {rest : List Stmt} {t u : TS} {e : Expr} {te : TE} {pos : Pos}
end
section
variable {X : Cx} {pos : Pos}
end
section
variable {X : Cx} {pos : Pos}
end
end L2
namespace L2
open PySem PySem.Spec PyProof.Rows
section
variable {X : Cx} {tg : Expr}
end
end L2
namespace L2
open PySem PySem.Spec PyProof.Rows
section
variable {X : Cx} {a b c : Expr} {ta tb tc : TE} {pos : Pos}
end
section
variable {X : Cx} {a b c : Expr} {ta tb tc : TE} {pos : Pos}
end
end L2
namespace L2
open PySem PySem.Spec PyProof.Rows
section
variable {prog : Program} {w : World} {A : Around} {E : Value → Shared → Prop} {s : Shared} {K : PySem.W.Frag} {x dx C f : Addr} {mA : Str → Option Value} {name : Str} {v : Value}
end
section
variable {P : Program} {w : World} {H H' : Hp} {h h' : Heap} {a C dx : Addr} {fs fs' : List (Str × V)}
end
section
variable {X : Cx} {pins : List (Addr × Obj)} {σ : St} {H : Hp} {s : Shared} {a C dx : Addr} {fs : List (Str × V)} {f : Str} {v : V} {A : Around} {E : Value → Shared → Prop}
end
section
variable {X : Cx} {o e value : Expr} {f : Str} {pos pos' tpos : Pos} {ta tv : TE}
end
section
variable {X : Cx} {pins : List (Addr × Obj)} {σ : St} {H : Hp} {s : Shared} {A : Around} {E : Value → Shared → Prop} {Q : Value → Shared → Prop} {c : Value} {b : Bool}
end
end L2
namespace L2
open PySem PySem.Spec PyProof.Rows
section
variable {X : Cx} {e : Expr} {es : List Expr} {te : TE} {t : TA} {pos : Pos}
end
section
variable {X : Cx} {pins : List (Addr × Obj)} {σ : St} {H : Hp} {s s' : Shared}
end
section
variable {X : Cx} {CX : CXT} {k : Nat} {f C : Addr} {fd : FuncData} {ps : List Str} {sp : Sp} {dvs : List V} {ds : List Value} {E : XK} {x m : Str} {p pos apos : Pos} {e o : Expr} {es : List Expr} {ta : TE} {t : TA}
end
section
variable {X : Cx} {CX : CXT} {k : Nat} {f C : Addr} {fd : FuncData} {ps ks : List Str} {sp : Sp} {E : XK} {x m : Str} {p pos apos kpos : Pos} {e o : Expr} {es : List Expr} {kws : List Keyword} {te ta : TE} {t tk : TA} {nm : Option Str}
variable {g : List Value → List Value → List Value} {gV : List V → List V → List V}
end
end L2
namespace L2
open PySem PySem.Spec PyProof.Rows
section
variable {X : Cx} {x : Str} {p pos : Pos} {e : Expr} {es : List Expr} {t : TA} {id T : String} {r : List V → Hp → VK → Prop}
end
end L2
namespace L2
open PySem PySem.Spec PyProof.Rows
section
variable {κ : Type} [DecidableEq κ]
def Dt (kvs : List (κ × V)) (k : κ) : List (κ × V) := kvs.filter fun kv => decide (kv.1 ≠ k)
theorem KV.drop {kvs : List (κ × V)} {vs : List (κ × Value)} (r : KV kvs vs) (k : κ) : KV (Dt kvs k) (without vs k) := by
 unfold KV at r ⊢
 unfold Dt without
 induction r with
 | nil => exact .nil
 | @cons p q ps qs h t ih =>
  obtain ⟨h1, h2⟩ := h
  rw [List.filter_cons, List.filter_cons]
  by_cases e : p.1 = k
  ·have a : ¬ decide (p.1 ≠ k) = true := by simp [e]
   have b : ¬ decide (q.1 ≠ k) = true := by simp [h1.symm.trans e]
   rw [if_neg a, if_neg b]; exact ih
  ·have e' : ¬ q.1 = k := fun z => e (h1.trans z)
   have a : decide (p.1 ≠ k) = true := by simp [e]
   have b : decide (q.1 ≠ k) = true := by simp [e']
   rw [if_pos a, if_pos b]; exact .cons ⟨h1, h2⟩ ih
end
section
variable {P : Program} {w : World} {H : Hp} {h : Heap} {a : Addr}
end
section
variable {X : Cx} {pins : List (Addr × Obj)} {σ : St} {H : Hp} {s : Shared} {a : Addr} {y v : V} {u r : Value} {o : Option V} {A : Around} {E : Value → Shared → Prop}
end
section
variable {X : Cx} {pins : List (Addr × Obj)} {σ : St} {H : Hp} {s : Shared} {a : Addr} {kvs : List (Key × V)} {k : Key} {u : Value} {A : Around} {E : Value → Shared → Prop}
end
section
variable {X : Cx} {o i e value : Expr} {pos pos' tpos : Pos} {td ty tv : TE}
end
section
variable {X : Cx} {pos : Pos}
end
section
variable {X : Cx} {pins : List (Addr × Obj)} {σ : St} {H : Hp} {s : Shared} {a : Addr} {y d : V} {u r : Value} {o : Option V} {A : Around} {E : Value → Shared → Prop}
end
section
variable {X : Cx} {o e f : Expr} {apos cpos : Pos} {td ty tx : TE}
end
section
variable {X : Cx} {pins : List (Addr × Obj)} {σ : St} {H : Hp} {s : Shared} {a : Addr} {kvs : List (Key × V)} {A : Around} {E : Value → Shared → Prop}
end
section
variable {X : Cx} {pins : List (Addr × Obj)} {σ : St} {H : Hp} {s : Shared} {a : Addr} {y : V} {u : Value} {A : Around} {E : Value → Shared → Prop}
end
end L2
namespace Att
open PySem PySem.W PySem.Calls PyProof.Rows
section
variable {prog : Program} {w : World} {A : Around} {E : Value → Shared → Prop} {s : Shared} {K : Frag}
end
end Att
namespace L2
open PySem PySem.Spec PyProof.Rows
end L2
namespace L2
open PySem PySem.Spec PyProof.Rows
end L2
/- THE LAST THEOREM (shape; LID, My.* are yours):
   My.Adr: a structure of the addresses that your layer names (classes, functions); My.Txt K t: a structure (Prop) of the equations over K;
   My.txt_mk : {K} {implicit addresses ..} (e1 : nsIn K mainGlobals "law" = some (some (.ref f))) (e2 : K.lookup f = some ⟨oc, od, .func (fnOf "law" "law" params body scope dV kV doc pm an cdv ct), sl⟩) (e3 : codeIn K cdv "law" = true) .. : ∃ t, My.Txt K t
set_option maxRecDepth 100000 in
set_option maxHeartbeats 0 in
theorem PySem.Challenge.cw_LID_holds : PySem.Challenge.rw_LID.Holds := by
 w_on; o_law; k_head; (case hw => w_witness2)
 k_fill
 refine L2.walk_of (l := PySem.Challenge.rw_LID) (n := 63) (k := 40) (x := "script") (CX := fun w => ..) (sp := fun _ => My.sp_law) rfl (by decide) rfl ⟨rfl, by decide, by decide⟩ (fun w h Y => PySem.W.kIn_of Y) ?F ?S ?C
 case F =>
  intro w mg fa h KX G hmg
  have T : ∃ t, My.Txt (L2.KOf KX) t := by
   dsimp only [L2.KOf]                          -- K must stand as «<heap const> w.params» for k_is
   refine' My.txt_mk ?e1 ?e2 ?e3 ..
   (case e1 => PySem.W.k_is)                    -- in the order: a name -> its address -> its object -> its parts
   (case e2 => PySem.W.k_is)
   ..
  obtain ⟨t, T⟩ := T
  have e0 := hmg.symm.trans (PySem.W.mg_of KX G T.law)
  cases e0                                       -- fa is the law's own address
  exact ⟨_, fun s u => .of_eq rfl, fun base kb nb => My.law_fn T kb nb⟩     -- if «.of_eq rfl» comes too early: refine' ⟨_, ?b, fun base kb nb => My.law_fn T kb nb⟩; exact fun s u => .of_eq rfl
 case S => exact fun w H a ns hl hO hS => ..
 case C => exact ..
(the tactic k_is has no namespace: write k_is) -/
namespace L2
open PySem PySem.Spec PyProof.Rows
section
variable {P : Program} {w : World} {K : PySem.W.Frag} {mg : Str → Option Value} {base : Heap}
end
section
variable {X : Cx}
end
section
variable {κ : Type} [DecidableEq κ]
end
end L2
set_option Elab.async false
set_option linter.all false
set_option maxRecDepth 100000
set_option maxHeartbeats 4000000
namespace L2
open PySem PySem.Spec PyProof.Rows
section
variable {X : Cx} {st : Stmt} {rest : List Stmt} {t u : TS}
def Hk (t u : TS) : TS := fun D σ H => ∃ R : St → Hp → Prop, t { D with nx := R } σ H ∧ ∀ σ' H', R σ' H' → u D σ' H'
theorem BV (h1 : PS X st t) (h2 : PSs X rest u) : PSs X (st :: rest) (Hk t u) := by
 rintro pins s σ H D I ⟨R, h, hR⟩
 refine wpAny_execs_cons (thn (h1 pins s σ H { D with nx := R } I h) fun f s1 q => ?_)
 cases f with
 | next =>
  obtain ⟨σ', H', I', q⟩ := q
  exact h2 pins s1 σ' H' D I' (hR _ _ q)
 | ret v => exact q
 | brk => exact q
 | cont => exact q
theorem aG {CX : CXT} {x : Str} {sd : Stmt} {ps : List Str} {f : Addr} {fd : FuncData} {sp : Sp} {j k : Nat} {E : XK} {e : Expr} {es : List Expr} {p pos : Pos} {t : TA} (D : Tw.Df X.K X.mg x sd ps f fd) (F : aU X.prog X.w X.K X.mg X.base CX j f fd ps sp) (hj : j ≤ k) (hr : cz k X.A) (hx : gJ CX X E) (hg : Gl X x)
  (ha : PA X (e :: es) t) (hdb : (x == ("__debug__" : Str)) = false := by decide) (he : starEach (e :: es) X.env = (false, eval e X.env) :: starEach es X.env := by rfl) (hpl : (backTo pos (starEach es X.env)).any (·.1) = false := by rfl) :
  PE X (.Call (.Name x p) (e :: es) [] pos) (Dk sp [] E t) := Cq (F.mono hj) hr hg D.m D.F.kp D.b .nil hx ha hdb he hpl
end
end L2
namespace Tw
open PySem L2
structure Dm (K : PySem.W.Frag) (x q : Str) (st : Stmt) (ps : List Str) (f : Addr) (fd : FuncData) : Prop where
 F : Fun K x q st f fd
 b : Binds K fd ps []
end Tw
set_option Elab.async false
set_option linter.all false
set_option maxRecDepth 100000
set_option maxHeartbeats 4000000
namespace Tw
theorem bN {ns : List Int} {k : Nat} {b : Int} (h : ns[k]? = some b) : (ns.take (k + 1)).sum = (ns.take k).sum + b := by
 rw [List.take_add_one, h]
 simp [List.sum_append]
theorem dg {ns : List Int} (h : aP ns) (i : Nat) : ∀ j : Nat, i ≤ j → (ns.take i).sum ≤ (ns.take j).sum
 | 0, hj => by
  have : i = 0 := by omega
  subst this
  exact Int.le_refl _
 | j + 1, hj => by
  by_cases e : i = j + 1
  ·subst e
   exact Int.le_refl _
  have := dg h i j (by omega)
  cases q : ns[j]? with
  | none =>
   rw [List.take_add_one, q]
   simp
   exact this
  | some b =>
   rw [bN q]
   have := h b (List.mem_of_getElem? q)
   omega
theorem Az : ∀ {ns : List Int}, aP ns → blk ns < 2 ^ ns.length
 | [], _ => by simp [blk]
 | b :: r, h => by
  have := Az h.tail
  have := h.head
  rw [List.length_cons, Int.pow_succ]
  simp only [blk]
  omega
theorem yw (n : Nat) : ∀ m : Nat, n ≤ m → (2 : Int) ^ n ≤ 2 ^ m
 | 0, h => by
  have : n = 0 := by omega
  subst this
  exact Int.le_refl _
 | m + 1, h => by
  by_cases e : n = m + 1
  ·subst e
   exact Int.le_refl _
  have h1 := yw n m (by omega)
  have h2 : (0 : Int) ≤ 2 ^ m := Int.pow_nonneg (by decide)
  rw [Int.pow_succ]
  omega
theorem uD : ∀ l : List Int, blk (l.map fun x => 1 - x) = 2 ^ l.length - 1 - blk l
 | [] => by simp [blk]
 | x :: l => by
  rw [List.map_cons, List.length_cons, Int.pow_succ]
  simp only [blk]
  rw [uD l]
  omega
theorem vg : ∀ (l : List Int) (k : Nat), k ≤ l.length → ((l.map fun x => 1 - x).take k).sum = k - (l.take k).sum
 | _, 0, _ => by simp
 | [], k + 1, h => by simp at h
 | x :: l, k + 1, h => by
  have := vg l k (by simpa using h)
  rw [List.map_cons, List.take_succ_cons, List.take_succ_cons, List.sum_cons, List.sum_cons, this]
  omega
theorem turned {b : Int} (h0 : 0 ≤ b) (h1 : b < 2 ^ 32) : (∀ k : Nat, k < 32 → bit (2 ^ 32 - 1 - b) k = 1 - bit b k) ∧ ∀ k : Nat, k ≤ 32 → ones (2 ^ 32 - 1 - b) k = k - ones b k := by
 have hb := vL b 32
 have e := vZ 32 b h0 h1
 have hl := dN b 32
 have ht : aP ((bits b 32).map fun x => 1 - x) := fun x hx => by
  obtain ⟨y, hy, rfl⟩ := List.mem_map.mp hx
  have := hb y hy
  omega
 have et : blk ((bits b 32).map fun x => 1 - x) = 2 ^ 32 - 1 - b := by rw [uD, hl, e]
 refine ⟨fun k hk => ?_, fun k hk => ?_⟩
 ·rw [← et, pK ht, List.getElem?_map, qZ hk]
  rfl
 ·rw [← et, jm ht, vg _ _ (by omega), ← jm hb, e]
theorem Ey (b : Int) (k : Nat) : bit b k = 0 ∨ bit b k = 1 := by
 unfold bit
 omega
theorem m5 (b : Int) (i : Nat) : ∀ j : Nat, i ≤ j → ones b i ≤ ones b j
 | 0, h => by
  have : i = 0 := by omega
  subst this
  exact Int.le_refl _
 | j + 1, h => by
  by_cases e : i = j + 1
  ·subst e
   exact Int.le_refl _
  have := m5 b i j (by omega)
  have := Ey b j
  rw [dw]
  omega
theorem yM {b : Int} {i j : Nat} (h1 : bit b i = 1) (h2 : bit b j = 1) (e : ones b i = ones b j) : i = j := by
 rcases Nat.lt_trichotomy i j with c | c | c
 ·have := m5 b (i + 1) j (by omega)
  rw [dw] at this
  omega
 ·exact c
 ·have := m5 b (j + 1) i (by omega)
  rw [dw] at this
  omega
def nz (ns : List Int) (n : Nat) : List Int := (List.range n).map fun k : Nat => 32 * (k : Int) - (ns.take (32 * k)).sum
theorem gU (ns : List Int) (n : Nat) : (nz ns n).length = n := by simp [nz]
theorem De (ns : List Int) (n : Nat) : nz ns (n + 1) = nz ns n ++ [32 * (n : Int) - (ns.take (32 * n)).sum] := by
 unfold nz
 rw [List.range_succ, List.map_append]
 rfl
theorem wV {ns : List Int} {n k : Nat} (h : k < n) : (nz ns n)[k]? = some (32 * (k : Int) - (ns.take (32 * k)).sum) := by simp [nz, h]
theorem xN (b t : Int) (ht : 0 ≤ t) : ∀ n : Nat, t < ones b n → ∃ k, k < n ∧ bit b k = 1 ∧ ones b k = t
 | 0, h => by
  rw [m7] at h
  omega
 | n + 1, h => by
  by_cases c : t < ones b n
  ·obtain ⟨k, h1, h2⟩ := xN b t ht n c
   exact ⟨k, by omega, h2⟩
  ·rw [dw] at h
   have hb : bit b n = 0 ∨ bit b n = 1 := by
    unfold bit
    omega
   exact ⟨n, by omega, by omega, by omega⟩
end Tw
set_option Elab.async false
set_option linter.all false
set_option maxRecDepth 100000
set_option maxHeartbeats 4000000
namespace Tw
theorem fH : ∀ (l : List Int) (u : Int), aP (brk l u)
 | [], u => fun b hb => .inl (List.eq_of_mem_replicate hb)
 | d :: r, u => fun b hb => by
  simp only [brk, List.mem_append, List.mem_cons] at hb
  rcases hb with hb | rfl | hb
  ·exact .inl (List.eq_of_mem_replicate hb)
  ·exact .inr rfl
  ·exact fH r _ b hb
theorem Bg {ns : List Int} {k : Nat} {b : Int} (h : ns[k]? = some b) : (ns.take (k + 1)).sum = (ns.take k).sum + b := by
 rw [List.take_add_one, h]
 simp
theorem tY {ds : List Int} (hg : bu ds) : ∀ k : Nat, k ≤ (brk ds 0).length → ∃ nd : Nat, nd ≤ ds.length ∧ nd ≤ k ∧ ((brk ds 0).take k).sum = nd ∧ (brk ds 0).drop k = brk (ds.drop nd) (ht (brk ds 0) k) ∧ Dp (ds.drop nd) (ht (brk ds 0) k)
 | 0, _ => ⟨0, Nat.zero_le _, Nat.le_refl _, rfl, by rw [eU]; rfl, by rw [eU]; exact hg.dp⟩
 | k + 1, hk => by
  obtain ⟨nd, h1, h2, h3, h4, h5⟩ := tY hg k (by omega)
  have hg1 : (brk ds 0)[k]? = some (brk ds 0)[k] := List.getElem?_eq_getElem (by omega)
  have e1 : (brk ds 0).drop k = (brk ds 0)[k] :: (brk ds 0).drop (k + 1) := List.drop_eq_getElem_cons (by omega)
  rw [e1] at h4
  have hh := cJ hg1
  have hs := Bg hg1
  rcases vQ h5 h4.symm with ⟨z, _, e2, d2⟩ | ⟨r, e0, z, e2, d2⟩
  ·rw [z] at hh hs
   refine ⟨nd, h1, by omega, by omega, ?_, ?_⟩
   ·rw [hh, e2]
    congr 1
    omega
   ·rw [hh, show ht (brk ds 0) k + 2 * 0 - 1 = ht (brk ds 0) k - 1 from by omega]
    exact d2
  ·rw [z] at hh hs
   have hlt : nd < ds.length := by
    have := congrArg List.length e0
    rw [List.length_drop, List.length_cons] at this
    omega
   have ed : ds.drop (nd + 1) = r := by
    have : ds.drop (nd + 1) = (ds.drop nd).drop 1 := by rw [List.drop_drop]
    rw [this, e0]
    rfl
   have eh : ht (brk ds 0) k + 2 * 1 - 1 = ht (brk ds 0) k + 1 := by omega
   refine ⟨nd + 1, hlt, by omega, by omega, ?_, ?_⟩
   ·rw [hh, eh, ed]
    exact e2
   ·rw [hh, eh, ed]
    exact d2
theorem jP {ds : List Int} (hg : bu ds) : (brk ds 0).length = 2 * ds.length := by
 rw [iM hg.dp]
 show 0 + _ = _
 omega
theorem vM {ds : List Int} (hg : bu ds) {k : Nat} (hk : k < (brk ds 0).length) : ((brk ds 0)[k]? = some 0 ∧ 0 < ht (brk ds 0) k) ∨ ((brk ds 0)[k]? = some 1 ∧ ∃ nd : Nat, ((brk ds 0).take k).sum = nd ∧ nd < ds.length ∧ ds[nd]? = some (ht (brk ds 0) k)) := by
 obtain ⟨nd, h1, h2, h3, h4, h5⟩ := tY hg k (by omega)
 have hg1 : (brk ds 0)[k]? = some (brk ds 0)[k] := List.getElem?_eq_getElem (by omega)
 have e1 : (brk ds 0).drop k = (brk ds 0)[k] :: (brk ds 0).drop (k + 1) := List.drop_eq_getElem_cons (by omega)
 rw [e1] at h4
 rcases vQ h5 h4.symm with ⟨z, u, e2, d2⟩ | ⟨r, e0, z, e2, d2⟩
 ·exact .inl ⟨by rw [hg1, z], by omega⟩
 ·refine .inr ⟨by rw [hg1, z], nd, h3, ?_, ?_⟩
  ·have := congrArg List.length e0
   rw [List.length_drop, List.length_cons] at this
   omega
  ·have := List.getElem?_drop (xs := ds) (i := nd) (j := 0)
   rw [e0] at this
   exact this.symm
theorem lC {ds : List Int} (hg : bu ds) : Tree (brk ds 0) := by
 have hl := jP hg
 have h0 : 0 < ds.length := (List.getElem?_eq_some_iff.mp hg.1).1
 refine ⟨by omega, ?_, fun k k0 k1 => ?_⟩
 ·obtain ⟨nd, h1, h2, h3, h4, h5⟩ := tY hg _ (Nat.le_refl _)
  rw [List.drop_length] at h4
  exact (Cg h5 h4.symm).2
 ·rcases vM hg k1 with ⟨_, z⟩ | ⟨_, nd, e1, e2, e3⟩
  ·exact z
  ·obtain ⟨_, _, _, _, _, h5⟩ := tY hg k (by omega)
   have hp := h5.pos
   rcases Nat.eq_zero_or_pos nd with rfl | z
   ·unfold ht at hp
    omega
   ·have := hg.one z e3
    omega
theorem Cr {ds : List Int} (hg : bu ds) {k : Nat} (hk : (brk ds 0).length ≤ k) : ((brk ds 0).take k).sum = ds.length := by
 have h := (lC hg).2.1
 have hl := jP hg
 unfold ht at h
 rw [List.take_length] at h
 rw [List.take_of_length_le hk]
 omega
theorem jj {ds : List Int} (hg : bu ds) : (brk ds 0).sum = ds.length := by
 have := Cr hg (k := (brk ds 0).length) (Nat.le_refl _)
 rw [List.take_length] at this
 exact this
theorem qX {ds : List Int} (hg : bu ds) {i p : Nat} (h1 : (brk ds 0)[p]? = some 1) (h2 : ((brk ds 0).take p).sum = (i : Int)) : ds[i]? = some (ht (brk ds 0) p) := by
 have hp := (List.getElem?_eq_some_iff.mp h1).1
 rcases vM hg hp with ⟨z, _⟩ | ⟨_, nd, n1, n2, n3⟩
 ·rw [z] at h1
  cases h1
 ·have : nd = i := by omega
  subst this
  exact n3
end Tw
set_option Elab.async false
set_option linter.all false
set_option maxRecDepth 100000
set_option maxHeartbeats 4000000
namespace Tw
structure Pair (ns : List Int) (a b : Nat) : Prop where
 lt : a < b
 ltn : b < ns.length
 one : ns[a]? = some 1
 nought : ns[b]? = some 0
 eq : ht ns (b + 1) = ht ns a
 above : ∀ k, a < k → k ≤ b → ht ns a < ht ns k
theorem lB {ns : List Int} (hb : aP ns) {a k : Nat} (h1 : ns[a]? = some 1) (f : cO ns a ns.length (ht ns a) (k + 1)) : Pair ns a k := by
 obtain ⟨f1, f2, f3, f4⟩ := f
 have e := cJ h1
 have hak : a < k := by
  rcases Nat.lt_or_ge a k with z | z
  ·exact z
  ·have : k = a := by omega
   subst this
   omega
 have up := f4 k hak (by omega)
 rcases Bh hb (show k < ns.length by omega) with ⟨z1, z2⟩ | ⟨z1, z2⟩
 ·omega
 ·exact ⟨hak, by omega, h1, z1, by omega, fun i i1 i2 => f4 i i1 (by omega)⟩
theorem tH {ns : List Int} (hb : aP ns) {a k : Nat} {g : Int} (hg : g < ht ns a) (ha : a ≤ ns.length) (f : gr ns a g k) : ns[k]? = some 1 ∧ ht ns k = g ∧ ∀ i, k < i → i ≤ a → g < ht ns i := by
 obtain ⟨f1, f2, f3⟩ := f
 have up : ∀ i, k < i → i ≤ a → g < ht ns i := fun i i1 i2 => by
  rcases Nat.lt_or_ge i a with z | z
  ·exact f3 i i1 z
  ·have : i = a := by omega
   rw [this]
   exact hg
 have := up (k + 1) (by omega) (by omega)
 rcases Bh hb (show k < ns.length by omega) with ⟨z1, z2⟩ | ⟨z1, z2⟩
 ·exact ⟨z1, by omega, up⟩
 ·omega
theorem mC {ns : List Int} (hb : aP ns) {a k : Nat} (h1 : ns[a]? = some 0) (f : gr ns a (ht ns a - 1) k) : Pair ns k a := by
 have ha := (List.getElem?_eq_some_iff.mp h1).1
 obtain ⟨g1, g2, g3⟩ := tH hb (by omega) (Nat.le_of_lt ha) f
 have e := cJ h1
 exact ⟨f.1, ha, g1, h1, by omega, fun i i1 i2 => by have := g3 i i1 i2; omega⟩
end Tw
set_option Elab.async false
set_option linter.all false
set_option maxRecDepth 100000
set_option maxHeartbeats 4000000
namespace Tw
open PySem L2
theorem vV (ns : List Int) (n : Nat) : ahd ns n = (List.range n).map (fun k => (ns.take (32 * k)).sum) ++ [(ns.take (32 * n)).sum] := by
 unfold ahd
 rw [List.range_succ, List.map_append]
 rfl
def UpN (ds : List Int) (j : Nat) (g : Int) (i : Nat) : Prop := i ≤ j ∧ ds[i]? = some g ∧ ∀ m x, i < m → m ≤ j → ds[m]? = some x → g < x
theorem UpN.trans {ds : List Int} {j i e : Nat} {g : Int} (h : UpN ds j g i) (h' : UpN ds i (g - 1) e) : UpN ds j (g - 1) e := by
 obtain ⟨a1, a2, a3⟩ := h
 obtain ⟨b1, b2, b3⟩ := h'
 refine ⟨by omega, b2, fun m x m1 m2 e => ?_⟩
 rcases Nat.lt_or_ge i m with z | z
 ·have := a3 m x z m2 e
  omega
 ·exact b3 m x m1 z e
theorem vB {ds : List Int} (hg : bu ds) {i : Nat} {d : Int} (h : ds[i]? = some d) : 0 ≤ d := by
 rcases Nat.eq_zero_or_pos i with z | z
 ·subst z
  rw [hg.1] at h
  have := Option.some.inj h
  omega
 ·have := hg.one z h
  omega
theorem Be {ns : List Int} (hb : aP ns) {m : Nat} (h : (m : Int) < ns.sum) : ∃ p, ns[p]? = some 1 ∧ (ns.take p).sum = (m : Int) := by
 have : ∀ n : Nat, n ≤ ns.length → (m : Int) < (ns.take n).sum → ∃ p, ns[p]? = some 1 ∧ (ns.take p).sum = (m : Int) := by
  intro n
  induction n with
  | zero =>
   intro _ z
   rw [List.take_zero] at z
   have : ([] : List Int).sum = 0 := rfl
   omega
  | succ n ih =>
   intro hn z
   have e := List.getElem?_eq_getElem (show n < ns.length by omega)
   rw [bN e] at z
   by_cases c : (m : Int) < (ns.take n).sum
   ·exact ih (by omega) c
   ·rcases hb _ (List.getElem_mem (show n < ns.length by omega)) with y | y
    ·omega
    ·rw [y] at e z
     exact ⟨n, e, by omega⟩
 exact this ns.length (Nat.le_refl _) (by rw [List.take_length]; exact h)
def run (ds : List Int) (k : Nat) (g : Int) : Nat := ((ds.drop k).takeWhile fun x => decide (g < x)).length
end Tw
set_option Elab.async false
set_option linter.all false
set_option maxRecDepth 100000
set_option maxHeartbeats 4000000
namespace L2
open PySem PySem.Spec PyProof.Rows
section
variable {X : Cx}
end
end L2
namespace Tw
open PySem L2
def eQ (ns : List Int) (x : Nat) (v : Int) : Prop := (ns[x]? = some 1 ∧ v = (ns.take x).sum) ∨ (ns[x]? = some 0 ∧ ∃ k, gr ns x (ht ns x - 1) k ∧ v = (ns.take k).sum)
theorem gr.uniq {ns : List Int} {b : Nat} {g : Int} {k l : Nat} (h : gr ns b g k) (h' : gr ns b g l) : k = l := by
 obtain ⟨a1, a2, a3⟩ := h
 obtain ⟨b1, b2, b3⟩ := h'
 rcases Nat.lt_trichotomy k l with z | z | z
 ·have := a3 l z b1
  omega
 ·exact z
 ·have := b3 k z a1
  omega
theorem eQ.uniq {ns : List Int} {x : Nat} {v v' : Int} (h : eQ ns x v) (h' : eQ ns x v') : v = v' := by
 rcases h with ⟨h1, rfl⟩ | ⟨h1, k, h2, rfl⟩ <;> rcases h' with ⟨g1, rfl⟩ | ⟨g1, l, g2, rfl⟩
 ·rfl
 ·rw [h1] at g1
  cases g1
 ·rw [h1] at g1
  cases g1
 ·rw [h2.uniq g2]
def dB (ns : List Int) (L : Nat) (ps : List Int) : Prop := (ps.length : Int) = ht ns L ∧ ∀ (i : Nat) (v : Int), ps[i]? = some v → ∃ q, gr ns L (i : Int) q ∧ v = (ns.take q).sum
theorem dB.nil (ns : List Int) : dB ns 0 [] := ⟨by rw [eU]; rfl, by simp⟩
theorem dB.open {ns : List Int} {L : Nat} {ps : List Int} (h : dB ns L ps) (h1 : ns[L]? = some 1) : dB ns (L + 1) (ps ++ [(ns.take L).sum]) := by
 obtain ⟨hl, ha⟩ := h
 refine ⟨?_, fun i v hv => ?_⟩
 ·rw [cJ h1, List.length_append, List.length_singleton]
  omega
 ·rcases Nat.lt_trichotomy i ps.length with z | z | z
  ·rw [List.getElem?_append_left z] at hv
   obtain ⟨q, ⟨q1, q2, q3⟩, e⟩ := ha i v hv
   refine ⟨q, ⟨by omega, q2, fun m m1 m2 => ?_⟩, e⟩
   rcases Nat.lt_or_ge m L with y | y
   ·exact q3 m m1 y
   ·have : m = L := by omega
    subst this
    omega
  ·subst z
   rw [List.getElem?_append_right (Nat.le_refl _), Nat.sub_self] at hv
   cases hv
   exact ⟨L, ⟨by omega, by omega, fun m m1 m2 => by omega⟩, rfl⟩
  ·have := (List.getElem?_eq_some_iff.mp hv).1
   rw [List.length_append, List.length_singleton] at this
   omega
theorem dB.shut {ns : List Int} {L : Nat} {ps : List Int} (h : dB ns L ps) (h1 : ns[L]? = some 0) (hp : 0 < ps.length) : dB ns (L + 1) ps.dropLast ∧ ∃ v, ps[ps.length - 1]? = some v ∧ eQ ns L v := by
 obtain ⟨hl, ha⟩ := h
 refine ⟨⟨?_, fun i v hv => ?_⟩, ?_⟩
 ·rw [cJ h1, List.length_dropLast]
  omega
 ·have hi := (List.getElem?_eq_some_iff.mp hv).1
  rw [List.length_dropLast] at hi
  rw [List.getElem?_dropLast, if_pos hi] at hv
  obtain ⟨q, ⟨q1, q2, q3⟩, e⟩ := ha i v hv
  refine ⟨q, ⟨by omega, q2, fun m m1 m2 => ?_⟩, e⟩
  rcases Nat.lt_or_ge m L with y | y
  ·exact q3 m m1 y
  ·have : m = L := by omega
   subst this
   omega
 ·have e := List.getElem?_eq_getElem (show ps.length - 1 < ps.length by omega)
  obtain ⟨q, hq, ev⟩ := ha _ _ e
  refine ⟨_, e, .inr ⟨h1, q, ?_, ev⟩⟩
  rw [show ht ns L - 1 = ((ps.length - 1 : Nat) : Int) by omega]
  exact hq
theorem dB.goes {ds : List Int} (hg : bu ds) {L k : Nat} {d : Int} (hk : ds[k]? = some d) (hs : ((brk ds 0).take L).sum = (k : Int)) (hL : L < (brk ds 0).length) :
  (d < ht (brk ds 0) L → (brk ds 0)[L]? = some 0) ∧ (¬ d < ht (brk ds 0) L → (brk ds 0)[L]? = some 1) := by
 have hb := fH ds 0
 have e := List.getElem?_eq_getElem hL
 have hbit := hb _ (List.mem_of_getElem? e)
 generalize (brk ds 0)[L] = b at *
 refine ⟨fun h => ?_, fun h => ?_⟩
 ·rcases hbit with rfl | rfl
  ·exact e
  ·have := qX hg e hs
   rw [hk] at this
   have := Option.some.inj this
   omega
 ·rcases hbit with rfl | rfl
  ·exfalso
   have hkl := (List.getElem?_eq_some_iff.mp hk).1
   obtain ⟨x, x1, x2⟩ := Be hb (m := k) (by rw [jj hg]; omega)
   have hd := qX hg x1 x2
   rw [hk] at hd
   have hd := Option.some.inj hd
   have hLx : L < x := by
    rcases Nat.lt_trichotomy L x with z | z | z
    ·exact z
    ·subst z
     rw [e] at x1
     cases x1
    ·have := dg hb (x + 1) L z
     rw [bN x1] at this
     omega
   have e1 : ht (brk ds 0) L = 2 * ((brk ds 0).take L).sum - (L : Int) := rfl
   have e2 : ht (brk ds 0) x = 2 * ((brk ds 0).take x).sum - (x : Int) := rfl
   omega
  ·exact e
end Tw
set_option Elab.async false
set_option linter.all false
set_option maxRecDepth 100000
set_option maxHeartbeats 4000000
namespace Tw
open PySem L2
theorem xW {ns : List Int} (hb : aP ns) {i j : Nat} (hi : ns[i]? = some 1) (hj : ns[j]? = some 1) (e : (ns.take i).sum = (ns.take j).sum) : i = j := by
 rcases Nat.lt_trichotomy i j with z | z | z
 ·have := dg hb (i + 1) j z
  rw [bN hi] at this
  omega
 ·exact z
 ·have := dg hb (j + 1) i z
  rw [bN hj] at this
  omega
theorem Pair.uniq {ns : List Int} {a b c : Nat} (h : Pair ns a b) (h' : Pair ns a c) : b = c := by
 have e := h.eq
 have e' := h'.eq
 rcases Nat.lt_trichotomy b c with z | z | z
 ·have := h'.above (b + 1) (by have := h.lt; omega) (by omega)
  omega
 ·exact z
 ·have := h.above (c + 1) (by have := h'.lt; omega) (by omega)
  omega
theorem eQ.inj {ns : List Int} (hb : aP ns) {i j : Nat} {v : Int} (h : eQ ns i v) (h' : eQ ns j v) (e : ns[i]? = ns[j]?) : i = j := by
 rcases h with ⟨h1, rfl⟩ | ⟨h0, k, hk, rfl⟩ <;> rcases h' with ⟨g1, g2⟩ | ⟨g0, l, hl, g2⟩
 ·exact xW hb h1 g1 g2
 ·rw [h1, g0] at e
  cases e
 ·rw [h0, g1] at e
  cases e
 ·have p1 := mC hb h0 hk
  have p2 := mC hb g0 hl
  have := xW hb p1.one p2.one g2
  subst this
  exact p1.uniq p2
end Tw
set_option Elab.async false
set_option linter.all false
set_option maxRecDepth 100000
set_option maxHeartbeats 4000000
namespace L2
open PySem PySem.Spec PyProof.Rows
section
variable {X : Cx} {e : Expr} {t u : TE}
def BJ (t u : TE) : TE := fun σ H Q => t σ H Q ∨ u σ H Q
theorem jR (h : PE X e t) (h' : PE X e u) : PE X e (BJ t u) := fun pins s σ H Q I q => q.elim (h pins s σ H Q I) (h' pins s σ H Q I)
end
end L2
set_option Elab.async false
set_option linter.all false
set_option maxRecDepth 100000
set_option maxHeartbeats 4000000
namespace Tw
open PySem L2
def nts (ns : List Int) (x : Nat) : Int := (x : Int) - (ns.take x).sum
theorem cD {ns : List Int} (hb : aP ns) (i : Nat) : ∀ j : Nat, i ≤ j → nts ns i ≤ nts ns j
 | 0, h => by
  have : i = 0 := by omega
  subst this
  exact Int.le_refl _
 | j + 1, h => by
  rcases Nat.lt_or_ge i (j + 1) with z | z
  ·have ih := cD hb i j (by omega)
   unfold nts at ih ⊢
   cases e : ns[j]? with
   | none =>
    have := List.getElem?_eq_none_iff.mp e
    rw [List.take_of_length_le (show ns.length ≤ j + 1 by omega)]
    rw [List.take_of_length_le this] at ih
    omega
   | some b =>
    rw [bN e]
    rcases hb b (List.mem_of_getElem? e) with rfl | rfl <;> omega
  ·have : i = j + 1 := by omega
   subst this
   exact Int.le_refl _
theorem dM {ns : List Int} {q : Nat} (e : ns[q]? = some 0) : nts ns (q + 1) = nts ns q + 1 := by
 unfold nts
 rw [bN e]
 omega
theorem BX {ns : List Int} {q : Nat} (e : ns[q]? = some 1) : nts ns (q + 1) = nts ns q := by
 unfold nts
 rw [bN e]
 omega
theorem Dh {ns : List Int} (hb : aP ns) {i j : Nat} (hi : ns[i]? = some 0) (hj : ns[j]? = some 0) (e : nts ns i = nts ns j) : i = j := by
 rcases Nat.lt_trichotomy i j with z | z | z
 ·have := cD hb (i + 1) j z
  rw [dM hi] at this
  omega
 ·exact z
 ·have := cD hb (j + 1) i z
  rw [dM hj] at this
  omega
theorem qm {ns : List Int} (hb : aP ns) (i : Nat) : 0 ≤ nts ns i := cD hb 0 i (Nat.zero_le _)
def cj (ns : List Int) (L : Nat) (xs : List Int) : Prop := (xs.length : Int) = nts ns L ∧ ∀ (k : Nat) (u : Int), xs[k]? = some u → ∃ q, q < L ∧ ns[q]? = some 0 ∧ nts ns q = (k : Int) ∧ eQ ns q u
theorem cj.nil (ns : List Int) : cj ns 0 [] := ⟨rfl, fun k u h => by simp at h⟩
theorem cj.one {ns : List Int} {L : Nat} {xs : List Int} (h : cj ns L xs) (e : ns[L]? = some 1) : cj ns (L + 1) xs := ⟨by rw [BX e]; exact h.1, fun k u hk => by
 obtain ⟨q, q1, q2⟩ := h.2 k u hk
 exact ⟨q, by omega, q2⟩⟩
theorem cj.zero {ns : List Int} {L : Nat} {xs : List Int} {v : Int} (h : cj ns L xs) (e : ns[L]? = some 0) (hv : eQ ns L v) : cj ns (L + 1) (xs ++ [v]) := by
 refine ⟨by rw [dM e, List.length_append, ← h.1]; rfl, fun k u hk => ?_⟩
 rcases Nat.lt_or_ge k xs.length with z | z
 ·rw [List.getElem?_append_left z] at hk
  obtain ⟨q, q1, q2⟩ := h.2 k u hk
  exact ⟨q, by omega, q2⟩
 ·have hl := (List.getElem?_eq_some_iff.mp hk).1
  rw [List.length_append, List.length_singleton] at hl
  have : k = xs.length := by omega
  subst this
  rw [List.getElem?_append_right (Nat.le_refl _), Nat.sub_self] at hk
  cases hk
  exact ⟨L, by omega, e, h.1.symm, hv⟩
theorem cj.rest {ns : List Int} (tr : Tree ns) : ∀ (m L : Nat) (xs ps : List Int), m = ns.length - L → L ≤ ns.length → (∀ q, L ≤ q → q < ns.length → ns[q]? = some 0) → dB ns L ps → cj ns L xs → cj ns ns.length (xs ++ ps.reverse)
 | 0, L, xs, ps, hm, hL, _, hP, h => by
  have e : L = ns.length := by omega
  subst e
  have h1 := hP.1
  rw [tr.2.1] at h1
  have : ps = [] := List.eq_nil_of_length_eq_zero (by omega)
  subst this
  rw [List.reverse_nil, List.append_nil]
  exact h
 | m + 1, L, xs, ps, hm, hL, hz, hP, h => by
  have e := hz L (Nat.le_refl _) (by omega)
  have h1 := hP.1
  have h2 := cJ e
  have h3 : 0 ≤ ht ns (L + 1) := by
   rcases Nat.lt_or_ge (L + 1) ns.length with z | z
   ·have := tr.2.2 (L + 1) (by omega) z
    omega
   ·have : L + 1 = ns.length := by omega
    rw [this, tr.2.1]
    exact Int.le_refl _
  obtain ⟨hP', v, ev, hv⟩ := hP.shut e (by omega)
  have hps : ps = ps.dropLast ++ [v] := by
   have hne : ps ≠ [] := fun z => by rw [z] at h1; simp at h1; omega
   have := List.dropLast_concat_getLast hne
   rw [List.getLast_eq_getElem] at this
   have e2 := (List.getElem?_eq_some_iff.mp ev).2
   rw [e2] at this
   exact this.symm
  have := cj.rest tr m (L + 1) (xs ++ [v]) ps.dropLast (by omega) (by omega) (fun q q1 q2 => hz q (by omega) q2) hP' (h.zero e hv)
  rw [hps, List.reverse_append, List.reverse_singleton]
  rw [List.append_assoc] at this
  exact this
def fY (xs : List Int) (k : Nat) : V := match xs[k]? with | some u => .int u | none => .non
theorem jV {xs : List Int} {k : Nat} {u : Int} (h : xs[k]? = some u) : fY xs k = .int u := by unfold fY; rw [h]
theorem jU {xs : List Int} {k : Nat} (h : xs.length ≤ k) : fY xs k = .non := by unfold fY; rw [List.getElem?_eq_none h]
def pP (ns : List Int) (x : Nat) (v : V) : Prop := (v = .non ∧ nts ns x = nts ns ns.length) ∨ ∃ (q : Nat) (u : Int), v = .int u ∧ ns[q]? = some 0 ∧ nts ns q = nts ns x ∧ eQ ns q u
theorem cj.at {ns : List Int} (hb : aP ns) {xs : List Int} (h : cj ns ns.length xs) {q : Nat} {v : Int} (e : ns[q]? = some 0) (hv : eQ ns q v) {k : Nat} (hk : nts ns q = (k : Int)) : xs[k]? = some v := by
 have hq := (List.getElem?_eq_some_iff.mp e).1
 have hm := cD hb (q + 1) ns.length hq
 rw [dM e] at hm
 have h1 := h.1
 have e2 := List.getElem?_eq_getElem (show k < xs.length by omega)
 obtain ⟨q', q1, q2, q3, q4⟩ := h.2 k _ e2
 have := Dh hb e q2 (by omega)
 subst this
 rw [e2, q4.uniq hv]
theorem cj.closed {ns : List Int} (hb : aP ns) {xs : List Int} (h : cj ns ns.length xs) {x k : Nat} {v : V} (hv : pP ns x v) (hk : nts ns x = (k : Int)) : v = fY xs k := by
 rcases hv with ⟨rfl, e⟩ | ⟨q, u, rfl, e, e2, hu⟩
 ·have := h.1
  exact (jU (by omega)).symm
 ·exact (jV (h.at hb e hu (by omega))).symm
def uQ (ns : List Int) (j : Int) (v : V) : Prop := ∃ c, ns[c]? = some 0 ∧ eQ ns c j ∧ pP ns (c + 1) v
theorem cj.next {ns : List Int} (hb : aP ns) {xs : List Int} (h : cj ns ns.length xs) {k : Nat} {j : Int} {v : V} (hk : xs[k]? = some j) (hv : uQ ns j v) : v = fY xs (k + 1) := by
 obtain ⟨c, c1, c2, c3⟩ := hv
 obtain ⟨q, q1, q2, q3, q4⟩ := h.2 k j hk
 have := eQ.inj hb c2 q4 (by rw [c1, q2])
 subst this
 refine h.closed hb c3 ?_
 rw [dM c1, q3]
 rfl
def cnt (p : Nat → Bool) (n : Nat) : Nat := ((List.range n).filter p).length
theorem zW (p : Nat → Bool) (n : Nat) : cnt p (n + 1) = cnt p n + (if p n then 1 else 0) := by
 unfold cnt
 rw [List.range_succ, List.filter_append, List.length_append]
 cases h : p n <;> simp [h]
theorem pY {p : Nat → Bool} {i : Nat} : ∀ j, i ≤ j → (∀ m, i ≤ m → m < j → p m = false) → cnt p j = cnt p i
 | 0, h, _ => by
  have : i = 0 := by omega
  rw [this]
 | j + 1, h, hn => by
  rcases Nat.lt_or_ge i (j + 1) with z | z
  ·rw [zW, hn j (by omega) (by omega), pY j (by omega) fun m m1 m2 => hn m m1 (by omega)]
   rfl
  ·have : i = j + 1 := by omega
   rw [this]
def fits (p : Nat → Bool) (n : Nat) : List Int := ((List.range n).filter p).map fun k : Nat => (k : Int)
theorem gQ (p : Nat → Bool) (n : Nat) : (fits p n).length = cnt p n := by
 unfold fits cnt
 rw [List.length_map]
theorem su (p : Nat → Bool) (n : Nat) : fits p (n + 1) = fits p n ++ (if p n then [(n : Int)] else []) := by
 unfold fits
 rw [List.range_succ, List.filter_append, List.map_append]
 cases h : p n <;> simp [h]
theorem uc {p : Nat → Bool} : ∀ {n i : Nat}, i < n → p i = true → (fits p n)[cnt p i]? = some (i : Int)
 | 0, i, h, _ => absurd h (Nat.not_lt_zero _)
 | n + 1, i, h, hp => by
  rw [su]
  rcases Nat.lt_or_ge i n with z | z
  ·have := uc z hp
   rw [List.getElem?_append_left (List.getElem?_eq_some_iff.mp this).1]
   exact this
  ·have : i = n := by omega
   subst this
   rw [if_pos hp, List.getElem?_append_right (by rw [gQ]; exact Nat.le_refl _), gQ, Nat.sub_self]
   rfl
theorem fits_of {p : Nat → Bool} : ∀ {n k : Nat} {u : Int}, (fits p n)[k]? = some u → ∃ i : Nat, u = (i : Int) ∧ i < n ∧ p i = true ∧ cnt p i = k
 | 0, k, u, h => by
  have : fits p 0 = [] := rfl
  rw [this] at h
  cases h
 | n + 1, k, u, h => by
  rw [su] at h
  rcases Nat.lt_or_ge k (fits p n).length with z | z
  ·rw [List.getElem?_append_left z] at h
   obtain ⟨i, e, h1, h2⟩ := fits_of h
   exact ⟨i, e, by omega, h2⟩
  ·rw [List.getElem?_append_right z] at h
   by_cases hp : p n = true
   ·rw [if_pos hp] at h
    have hl := (List.getElem?_eq_some_iff.mp h).1
    rw [List.length_singleton] at hl
    have e0 : k - (fits p n).length = 0 := by omega
    rw [e0] at h
    cases h
    exact ⟨n, rfl, by omega, hp, by rw [gQ] at e0 z; omega⟩
   ·rw [if_neg hp] at h
    cases h
def jc (p : Nat → Bool) (n j : Nat) (v : V) : Prop := (v = .non ∧ ∀ m, j ≤ m → m < n → p m = false) ∨ ∃ i : Nat, v = .int (i : Int) ∧ j ≤ i ∧ i < n ∧ p i = true ∧ ∀ m, j ≤ m → m < i → p m = false
theorem jc.opt {p : Nat → Bool} {n j : Nat} {v : V} (h : jc p n j v) (hj : j ≤ n) : v = fY (fits p n) (cnt p j) := by
 rcases h with ⟨rfl, h⟩ | ⟨i, rfl, h1, h2, h3, h4⟩
 ·rw [jU]
  rw [gQ, pY n hj h]
  exact Nat.le_refl _
 ·rw [← pY i h1 h4, jV (uc h2 h3)]
end Tw
set_option Elab.async false
set_option linter.all false
set_option maxRecDepth 100000
set_option maxHeartbeats 4000000
namespace L2
open PySem PySem.Spec PyProof.Rows PySem.W
section
variable {X : Cx}
def DW (x : V) (vs : List V) (H : Hp) (Q : VK) : Prop := ∃ (l : Addr) (ns : List Int) (k : Int) (j : Nat), x = .ref l ∧ vs = [.int k] ∧ H l = some (.lst (ns.map V.int)) ∧ ns[j]? = some k ∧ (∀ i, i < j → ns[i]? ≠ some k) ∧ Q (.int (j : Int)) H
theorem yg : ∀ {ns : List Int} {its : List Value}, Vals (ns.map V.int) its → kf_ints its = true ∧ its.length = ns.length ∧ ∀ k (i : Nat) (h : i < its.length), isInt k its[i] = true ↔ ns[i]? = some k
  | [], its, r => by
    cases r
    exact ⟨rfl, rfl, fun k i h => absurd h (Nat.not_lt_zero _)⟩
  | n :: ns, its, r => by
    cases r with
    | cons r1 r2 =>
      obtain ⟨t, rfl⟩ := r1
      obtain ⟨h1, h2, h3⟩ := yg r2
      refine ⟨h1, congrArg (· + 1) h2, fun k i h => ?_⟩
      cases i with
      | zero =>
        show isInt k (.int n t) = true ↔ some n = some k
        exact ⟨fun z => by have : n = k := by simpa [isInt] using z
                           rw [this], fun z => by cases z; simp [isInt]⟩
      | succ i => exact h3 k i (Nat.lt_of_succ_lt_succ h)
theorem zQ : MtM X "list.index" DW := by
 intro pins s σ H x vs v us Q I rx rv h
 obtain ⟨l, ns, k, j, rfl, rfl, hH, h1, h2, q⟩ := h
 cases rx
 obtain ⟨u, rfl, ru⟩ := rv.one
 obtain ⟨t, rfl⟩ := ru
 obtain ⟨z, its, n, r, hl, e⟩ := I.lstM hH
 obtain ⟨a1, a2, a3⟩ := yg r
 have hj := (List.getElem?_eq_some_iff.mp h1).1
 rw [sizeLine_eq, List.length_map] at z
 refine call_meets F.slot_list_index ⟨_, e, rfl⟩ F.entry_list_index (F.args_list_index_2 _ _)
  (MeetsSeq.list_index l its.toArray n (.int k t) (isInt k) (fun y hy => kf_eq a1 y (by simpa using hy)) j (by rw [List.size_toArray]; omega) (by omega) (by simpa using (a3 k j (by omega)).mpr h1)
   (fun i hi hlt => by
    have := a3 k i (by simpa using hi)
    have n1 := h2 i hlt
    cases hb : isInt k its.toArray[i] with
    | false => rfl
    | true => exact absurd (this.mp (by simpa using hb)) n1)) ⟨e, ?_⟩
 exact ⟨.int (j : Int), H, I.tok _, ⟨_, rfl⟩, q⟩
end
end L2
set_option Elab.async false
set_option maxRecDepth 100000
set_option maxHeartbeats 4000000
namespace Tw
open PySem L2
def top (i : Nat) : Stmt := PySem.Challenge.pw_thinwood_k54_behind_any_node.main.body.getD i (.Pass ⟨0, 0, 0, 0⟩)
abbrev z9 : Stmt := top 0
abbrev qb : Stmt := top 11
theorem yU : aA ["bits"] ["bits"] (defScope qb) := ⟨rfl, rfl, rfl, by decide +kernel, rfl, by decide +kernel, by decide +kernel⟩
abbrev jH : Stmt := top 12
theorem lU : aA ["bits", "bit"] ["bits"] (defScope jH) := ⟨rfl, rfl, rfl, by decide +kernel, rfl, by decide +kernel, by decide +kernel⟩
abbrev lw : Stmt := top 13
theorem gb : aA ["bits", "block", "bit"] ["bits"] (defScope lw) := ⟨rfl, rfl, rfl, by decide +kernel, rfl, by decide +kernel, by decide +kernel⟩
abbrev qy : Stmt := top 14
theorem zL : aA ["block", "k"] ["block", "k"] (defScope qy) := ⟨rfl, rfl, rfl, by decide +kernel, rfl, by decide +kernel, by decide +kernel⟩
abbrev ou : Stmt := top 15
theorem xT : aA ["block", "upto"] ["block", "upto"] (defScope ou) := ⟨rfl, rfl, rfl, by decide +kernel, rfl, by decide +kernel, by decide +kernel⟩
abbrev oh : Stmt := top 16
theorem xg : aA ["block", "upto"] ["block", "upto"] (defScope oh) := ⟨rfl, rfl, rfl, by decide +kernel, rfl, by decide +kernel, by decide +kernel⟩
abbrev qJ : Stmt := top 17
theorem ig : aA ["block", "nth", "ones", "k", "bit"] ["block", "nth"] (defScope qJ) := ⟨rfl, rfl, rfl, by decide +kernel, rfl, by decide +kernel, by decide +kernel⟩
abbrev oE : Stmt := top 18
theorem fL : aA ["block", "upto", "nets", "net", "bit"] ["block", "upto"] (defScope oE) := ⟨rfl, rfl, rfl, by decide +kernel, rfl, by decide +kernel, by decide +kernel⟩
abbrev qz : Stmt := top 19
theorem zc : aA ["block", "upto"] ["block", "upto"] (defScope qz) := ⟨rfl, rfl, rfl, by decide +kernel, rfl, by decide +kernel, by decide +kernel⟩
abbrev fD : Stmt := top 20
theorem eF : aA ["block", "start", "stop", "goal", "k", "net"] ["block", "start", "stop", "goal"] (defScope fD) := ⟨rfl, rfl, rfl, by decide +kernel, rfl, by decide +kernel, by decide +kernel⟩
abbrev gF : Stmt := top 21
theorem cA : aA ["block", "start", "stop", "goal", "found", "k", "net"] ["block", "start", "stop", "goal"] (defScope gF) := ⟨rfl, rfl, rfl, by decide +kernel, rfl, by decide +kernel, by decide +kernel⟩
abbrev nq : Stmt := top 24
theorem iH : aA ["numbers", "size", "nodes", "node"] ["numbers"] (defScope nq) := ⟨rfl, rfl, rfl, by decide +kernel, rfl, by decide +kernel, by decide +kernel⟩
abbrev nC : Stmt := top 25
theorem kJ : aA ["many", "size"] ["many"] (defScope nC) := ⟨rfl, rfl, rfl, by decide +kernel, rfl, by decide +kernel, by decide +kernel⟩
abbrev jD : Stmt := top 26
theorem uw : aA ["one", "other"] ["one", "other"] (defScope jD) := ⟨rfl, rfl, rfl, by decide +kernel, rfl, by decide +kernel, by decide +kernel⟩
abbrev dX : Stmt := top 27
theorem gY : aA ["many", "look", "start", "goal", "node"] ["many", "look", "start", "goal"] (defScope dX) := ⟨rfl, rfl, rfl, by decide +kernel, rfl, by decide +kernel, by decide +kernel⟩
abbrev fP : Stmt := top 28
theorem iV : aA ["many", "look", "stop", "goal", "node"] ["many", "look", "stop", "goal"] (defScope fP) := ⟨rfl, rfl, rfl, by decide +kernel, rfl, by decide +kernel, by decide +kernel⟩
abbrev dO : Stmt := top 29
theorem cL : aA ["size", "look", "node", "goal", "side", "found"] ["size", "look", "node", "goal", "side"] (defScope dO) := ⟨rfl, rfl, rfl, by decide +kernel, rfl, by decide +kernel, by decide +kernel⟩
abbrev eE : Stmt := top 30
theorem mQ : aA ["many", "start", "stop"] ["many", "start", "stop"] (defScope eE) := ⟨rfl, rfl, rfl, by decide +kernel, rfl, by decide +kernel, by decide +kernel⟩
abbrev tO : Stmt := top 31
theorem cN : aA ["many", "start", "stop", "size", "low", "high", "lefts", "rights"] ["many", "start", "stop"] (defScope tO) := ⟨rfl, rfl, rfl, by decide +kernel, rfl, by decide +kernel, by decide +kernel⟩
abbrev kI : Stmt := top 33
theorem oX : aA ["bits", "blocks"] ["bits"] (defScope kI) := ⟨rfl, rfl, rfl, by decide +kernel, rfl, by decide +kernel, by decide +kernel⟩
abbrev kZ : Stmt := top 34
theorem jw : aA ["blocks", "ahead", "block"] ["blocks"] (defScope kZ) := ⟨rfl, rfl, rfl, by decide +kernel, rfl, by decide +kernel, by decide +kernel⟩
abbrev gj : Stmt := top 35
theorem pQ : aA ["at", "most"] ["at", "most"] (defScope gj) := ⟨rfl, rfl, rfl, by decide +kernel, rfl, by decide +kernel, by decide +kernel⟩
abbrev qK : Stmt := top 36
theorem zg : aA ["tables", "look", "at"] ["tables", "look", "at"] (defScope qK) := ⟨rfl, rfl, rfl, by decide +kernel, rfl, by decide +kernel, by decide +kernel⟩
abbrev oA : Stmt := top 37
theorem fM : aA ["tables", "look", "at", "many", "ahead", "number", "within"] ["tables", "look", "at"] (defScope oA) := ⟨rfl, rfl, rfl, by decide +kernel, rfl, by decide +kernel, by decide +kernel⟩
abbrev iC : Stmt := top 38
theorem rA : aA ["tables", "look", "at"] ["tables", "look", "at"] (defScope iC) := ⟨rfl, rfl, rfl, by decide +kernel, rfl, by decide +kernel, by decide +kernel⟩
abbrev je : Stmt := top 39
theorem iR : aA ["tables", "look", "nth", "ahead", "number"] ["tables", "look", "nth"] (defScope je) := ⟨rfl, rfl, rfl, by decide +kernel, rfl, by decide +kernel, by decide +kernel⟩
abbrev fJ : Stmt := top 40
theorem bJ : aA ["tables", "look", "nth", "many", "ahead", "noughts", "number", "turned"] ["tables", "look", "nth"] (defScope fJ) := ⟨rfl, rfl, rfl, by decide +kernel, rfl, by decide +kernel, by decide +kernel⟩
abbrev jK : Stmt := top 41
theorem uA : aA ["nth", "many"] ["nth", "many"] (defScope jK) := ⟨rfl, rfl, rfl, by decide +kernel, rfl, by decide +kernel, by decide +kernel⟩
abbrev dq : Stmt := top 42
theorem bC : aA ["numbers", "goal", "low", "high", "middle"] ["numbers", "goal"] (defScope dq) := ⟨rfl, rfl, rfl, by decide +kernel, rfl, by decide +kernel, by decide +kernel⟩
abbrev mY : Stmt := top 44
theorem fW : aA ["bits", "level", "at", "bit"] ["bits"] (defScope mY) := ⟨rfl, rfl, rfl, by decide +kernel, rfl, by decide +kernel, by decide +kernel⟩
abbrev dD : Stmt := top 45
theorem mH : aA ["bits"] ["bits"] (defScope dD) := ⟨rfl, rfl, rfl, by decide +kernel, rfl, by decide +kernel, by decide +kernel⟩
abbrev dW : Stmt := top 46
theorem bV : aA ["bits", "row", "tables", "blocks", "lows"] ["bits"] (defScope dW) := ⟨rfl, rfl, rfl, by decide +kernel, rfl, by decide +kernel, by decide +kernel⟩
abbrev q9 : Stmt := top 47
theorem yG : aA ["tables", "number", "block"] ["tables", "number", "block"] (defScope q9) := ⟨rfl, rfl, rfl, by decide +kernel, rfl, by decide +kernel, by decide +kernel⟩
abbrev nY : Stmt := top 48
theorem wY : aA ["tables", "number"] ["tables", "number"] (defScope nY) := ⟨rfl, rfl, rfl, by decide +kernel, rfl, by decide +kernel, by decide +kernel⟩
abbrev fj : Stmt := top 49
theorem o9 : aA ["number", "at"] ["number", "at"] (defScope fj) := ⟨rfl, rfl, rfl, by decide +kernel, rfl, by decide +kernel, by decide +kernel⟩
abbrev iQ : Stmt := top 50
theorem rG : aA ["number", "upto"] ["number", "upto"] (defScope iQ) := ⟨rfl, rfl, rfl, by decide +kernel, rfl, by decide +kernel, by decide +kernel⟩
abbrev gD : Stmt := top 51
theorem qO : aA ["tables"] ["tables"] (defScope gD) := ⟨rfl, rfl, rfl, by decide +kernel, rfl, by decide +kernel, by decide +kernel⟩
abbrev bQ : Stmt := top 52
theorem lM : aA ["tables", "nodes"] ["tables"] (defScope bQ) := ⟨rfl, rfl, rfl, by decide +kernel, rfl, by decide +kernel, by decide +kernel⟩
abbrev qp : Stmt := top 53
theorem yL : aA ["tables", "look", "at"] ["tables", "look", "at"] (defScope qp) := ⟨rfl, rfl, rfl, by decide +kernel, rfl, by decide +kernel, by decide +kernel⟩
abbrev il : Stmt := top 54
theorem dI : aA ["tables", "look", "at", "goal", "number", "found", "further"] ["tables", "look", "at", "goal"] (defScope il) := ⟨rfl, rfl, rfl, by decide +kernel, rfl, by decide +kernel, by decide +kernel⟩
abbrev fV : Stmt := top 55
theorem eH : aA ["tables", "look", "number", "at", "goal", "start", "stop"] ["tables", "look", "number", "at", "goal"] (defScope fV) := ⟨rfl, rfl, rfl, by decide +kernel, rfl, by decide +kernel, by decide +kernel⟩
abbrev fB : Stmt := top 56
theorem pH : aA ["number", "within"] ["number", "within"] (defScope fB) := ⟨rfl, rfl, rfl, by decide +kernel, rfl, by decide +kernel, by decide +kernel⟩
abbrev jO : Stmt := top 57
theorem mz : aA ["tables", "look", "at", "goal", "found"] ["tables", "look", "at", "goal"] (defScope jO) := ⟨rfl, rfl, rfl, by decide +kernel, rfl, by decide +kernel, by decide +kernel⟩
abbrev dU : Stmt := top 58
theorem cH : aA ["tables", "look", "upto", "goal", "number", "found", "further"] ["tables", "look", "upto", "goal"] (defScope dU) := ⟨rfl, rfl, rfl, by decide +kernel, rfl, by decide +kernel, by decide +kernel⟩
abbrev gn : Stmt := top 59
theorem jl : aA ["tables", "look", "number", "upto", "goal", "stop"] ["tables", "look", "number", "upto", "goal"] (defScope gn) := ⟨rfl, rfl, rfl, by decide +kernel, rfl, by decide +kernel, by decide +kernel⟩
abbrev dY : Stmt := top 60
theorem nW : aA ["tables", "look", "at", "bit"] ["tables", "look", "at", "bit"] (defScope dY) := ⟨rfl, rfl, rfl, by decide +kernel, rfl, by decide +kernel, by decide +kernel⟩
abbrev nO : Stmt := top 61
theorem wD : aA ["tables", "look", "at"] ["tables", "look", "at"] (defScope nO) := ⟨rfl, rfl, rfl, by decide +kernel, rfl, by decide +kernel, by decide +kernel⟩
abbrev m9 : Stmt := top 62
theorem wg : aA ["tables", "look", "at"] ["tables", "look", "at"] (defScope m9) := ⟨rfl, rfl, rfl, by decide +kernel, rfl, by decide +kernel, by decide +kernel⟩
abbrev ir : Stmt := top 64
theorem rm : aA ["tables"] ["tables"] (defScope ir) := ⟨rfl, rfl, rfl, by decide +kernel, rfl, by decide +kernel, by decide +kernel⟩
abbrev iG : Stmt := top 65
theorem rz : aA ["tables", "node"] ["tables", "node"] (defScope iG) := ⟨rfl, rfl, rfl, by decide +kernel, rfl, by decide +kernel, by decide +kernel⟩
abbrev nM : Stmt := top 66
theorem xx : aA ["tables", "look", "at"] ["tables", "look", "at"] (defScope nM) := ⟨rfl, rfl, rfl, by decide +kernel, rfl, by decide +kernel, by decide +kernel⟩
abbrev kO : Stmt := top 67
theorem uH : aA ["tables", "look", "node"] ["tables", "look", "node"] (defScope kO) := ⟨rfl, rfl, rfl, by decide +kernel, rfl, by decide +kernel, by decide +kernel⟩
abbrev gq : Stmt := top 69
theorem qG : aA ["tables", "node"] ["tables", "node"] (defScope gq) := ⟨rfl, rfl, rfl, by decide +kernel, rfl, by decide +kernel, by decide +kernel⟩
abbrev gm : Stmt := top 70
theorem jk : aA ["tables", "look", "at", "ahead"] ["tables", "look", "at"] (defScope gm) := ⟨rfl, rfl, rfl, by decide +kernel, rfl, by decide +kernel, by decide +kernel⟩
abbrev jF : Stmt := inClass (top 71) 0
theorem ux : aA ["self", "tables", "look"] ["self", "tables", "look"] (defScope jF) := ⟨rfl, rfl, rfl, by decide +kernel, rfl, by decide +kernel, by decide +kernel⟩
abbrev gO : Stmt := inClass (top 71) 2
theorem qt : aA ["self", "node"] ["self", "node"] (defScope gO) := ⟨rfl, rfl, rfl, by decide +kernel, rfl, by decide +kernel, by decide +kernel⟩
abbrev gP : Stmt := inClass (top 72) 1
theorem jf : aA ["self", "node", "own"] ["self", "node"] (defScope gP) := ⟨rfl, rfl, rfl, by decide +kernel, rfl, by decide +kernel, by decide +kernel⟩
abbrev gw : Stmt := inClass (top 73) 1
theorem jG : aA ["self", "node", "following"] ["self", "node"] (defScope gw) := ⟨rfl, rfl, rfl, by decide +kernel, rfl, by decide +kernel, by decide +kernel⟩
abbrev eG : Stmt := inClass (top 73) 2
theorem mR : aA ["self", "node"] ["self", "node"] (defScope eG) := ⟨rfl, rfl, rfl, by decide +kernel, rfl, by decide +kernel, by decide +kernel⟩
abbrev fQ : Stmt := top 76
theorem dR : aA ["depths", "ahead", "depth"] ["depths"] (defScope fQ) := ⟨rfl, rfl, rfl, by decide +kernel, rfl, by decide +kernel, by decide +kernel⟩
abbrev gA : Stmt := top 77
theorem cC : aA ["depths", "bits", "unclosed", "depth"] ["depths"] (defScope gA) := ⟨rfl, rfl, rfl, by decide +kernel, rfl, by decide +kernel, by decide +kernel⟩
abbrev ji : Stmt := top 78
theorem uh : aA ["depths"] ["depths"] (defScope ji) := ⟨rfl, rfl, rfl, by decide +kernel, rfl, by decide +kernel, by decide +kernel⟩
abbrev jo : Stmt := top 80
theorem tQ : aA ["_law_found"] ["_law_found"] (defScope jo) := ⟨rfl, rfl, rfl, by decide +kernel, rfl, by decide +kernel, by decide +kernel⟩
abbrev iz : Stmt := top 81
theorem bD : aA ["_law_script", "_law_most", "_law_depths_here", "_law_cell", "_law_number", "_law_deep", "_law_many", "_law_k"] ["_law_script", "_law_most"] (defScope iz) := ⟨rfl, rfl, rfl, by decide +kernel, rfl, by decide +kernel, by decide +kernel⟩
abbrev lu : Stmt := top 82
theorem gf : aA ["_law_depths_here", "_law_row", "_law_path", "_law_node"] ["_law_depths_here"] (defScope lu) := ⟨rfl, rfl, rfl, by decide +kernel, rfl, by decide +kernel, by decide +kernel⟩
abbrev b8 : Stmt := top 83
theorem oO : aA ["_law_blocks", "_law_seen", "_law_told"] ["_law_blocks", "_law_seen"] (defScope b8) := ⟨rfl, rfl, rfl, by decide +kernel, rfl, by decide +kernel, by decide +kernel⟩
abbrev jq : Stmt := top 84
theorem lE : aA ["_law_seen", "_law_size", "_law_number"] ["_law_seen", "_law_size"] (defScope jq) := ⟨rfl, rfl, rfl, by decide +kernel, rfl, by decide +kernel, by decide +kernel⟩
abbrev nJ : Stmt := top 85
theorem wQ : aA ["_law_found", "_law_due_here"] ["_law_found", "_law_due_here"] (defScope nJ) := ⟨rfl, rfl, rfl, by decide +kernel, rfl, by decide +kernel, by decide +kernel⟩
abbrev gH : Stmt := top 86
theorem dm : aA ["_law_walk", "_law_node", "_law_told_here", "e"] ["_law_walk", "_law_node"] (defScope gH) := ⟨rfl, rfl, rfl, by decide +kernel, rfl, by decide +kernel, by decide +kernel⟩
abbrev lz : Stmt := top 87
theorem oJ : aA ["_law_row", "_law_node", "_law_at"] ["_law_row", "_law_node"] (defScope lz) := ⟨rfl, rfl, rfl, by decide +kernel, rfl, by decide +kernel, by decide +kernel⟩
abbrev m6 : Stmt := top 88
theorem qL : aA ["_law_depths_here", "_law_node", "_law_other"] ["_law_depths_here", "_law_node"] (defScope m6) := ⟨rfl, rfl, rfl, by decide +kernel, rfl, by decide +kernel, by decide +kernel⟩
abbrev zZ : Stmt := top 89
theorem cF : aA ["_law_script", "_law_depths_here", "_law_tables", "_law_blocks", "_law_seen", "_law_look_here", "_law_walks", "_law_late_here", "_law_rising", "_law_cell", "_law_node", "_law_dues", "_law_k", "_law_way", "_law_far", "_law_walk"] ["_law_script"] (defScope zZ) := ⟨rfl, rfl, rfl, by decide +kernel, rfl, by decide +kernel, by decide +kernel⟩
abbrev bO : Stmt := (defBody bQ).getD 1 (.Pass ⟨0, 0, 0, 0⟩)
abbrev aW : qW := lamOf bO "heap_look.<locals>.<lambda>" ["node"] ["nodes"]
theorem mO : p8 ["node", "nodes"] aW := ⟨rfl, rfl, rfl, by decide +kernel, rfl, by decide +kernel, by decide +kernel, by decide +kernel, by decide +kernel⟩
theorem tK : Ag ["tables", "nodes"] "heap_look" (defScope bQ) aW [1] (fun L => [L + 1]) := ⟨fun _ _ _ => rfl, fun _ _ _ => rfl, fun _ _ _ => rfl, fun L => by simp, fun _ => rfl, fun L f c j a h => match j, h with | 0, h => ⟨"nodes", 1, by cases h; rfl, by decide +kernel, rfl, rfl⟩ | j + 1, h => absurd h (by simp)⟩
abbrev fX : Stmt := (defBody b8).getD 0 (.Pass ⟨0, 0, 0, 0⟩)
abbrev cQ : qN := Gf fX "_law_look.<locals>._law_told" ["_law_number"] ["_law_seen", "_law_blocks"]
theorem u6 : qD ["_law_number", "_law_seen", "_law_blocks"] cQ := ⟨rfl, rfl, rfl, by decide +kernel, rfl, by decide +kernel, by decide +kernel, by decide +kernel, by decide +kernel⟩
theorem vy : DR ["_law_blocks", "_law_seen", "_law_told"] "_law_look" (defScope b8) cQ 2 [1, 0] (fun L => [L + 2, L + 1]) := ⟨oO.nd, rfl, by decide +kernel, fun _ _ _ => rfl, fun _ _ _ => rfl, rfl, rfl, fun _ _ _ => rfl, fun L => by simp, fun _ => rfl, fun L f c j a h => match j, h with | 0, h => ⟨"_law_seen", 1, by cases h; rfl, by decide +kernel, rfl, rfl, by decide⟩ | 1, h => ⟨"_law_blocks", 0, by cases h; rfl, by decide +kernel, rfl, rfl, by decide⟩ | j + 2, h => absurd h (by simp), by decide, by decide⟩
structure FI (K : PySem.W.Frag) (n : Str) (st : Stmt) (f : Addr) (fd : FuncData) : Prop where
 a : PySem.W.nsIn K mainGlobals n = some (some (.ref f))
 F : Fun K n n st f fd
theorem Dn {α : Type} {C : List α → Prop} {us : List α} (hl : us.length = 1) (h : ∀ x0, C [x0]) : C us := match us, hl with | [_], _ => h _
theorem df1 {K : PySem.W.Frag} {h : Heap} {mg : Str → Option Value} {n p0 : Str} {st : Stmt} {f : Addr} {fd : FuncData} (X : K.In h) (G : h.Ns mainGlobals mg) (d : FI K n st f fd) (b : ∀ (kV doc pm : Value) (an : Option Addr) (cdv ct : Value) (x0 : Value), bindArgs (PySem.W.fnOf n n (defArgs st) (defBody st) (defScope st) .none kV doc pm an cdv ct) ⟨[x0], []⟩ = pure (List.zip [p0] [x0])) : Df K mg n st [p0] f fd := ⟨d.F, d.F.binds (ps := [p0]) fun kV doc pm an cdv ct us hl => Dn (C := fun us => bindArgs _ ⟨us, []⟩ = pure (List.zip ([p0] : List Str) us)) hl (b kV doc pm an cdv ct), PySem.W.mg_of X G d.a⟩
theorem Bf {α : Type} {C : List α → Prop} {us : List α} (hl : us.length = 2) (h : ∀ x0 x1, C [x0, x1]) : C us := match us, hl with | [_, _], _ => h _ _
theorem df2 {K : PySem.W.Frag} {h : Heap} {mg : Str → Option Value} {n p0 p1 : Str} {st : Stmt} {f : Addr} {fd : FuncData} (X : K.In h) (G : h.Ns mainGlobals mg) (d : FI K n st f fd) (b : ∀ (kV doc pm : Value) (an : Option Addr) (cdv ct : Value) (x0 x1 : Value), bindArgs (PySem.W.fnOf n n (defArgs st) (defBody st) (defScope st) .none kV doc pm an cdv ct) ⟨[x0, x1], []⟩ = pure (List.zip [p0, p1] [x0, x1])) : Df K mg n st [p0, p1] f fd := ⟨d.F, d.F.binds (ps := [p0, p1]) fun kV doc pm an cdv ct us hl => Bf (C := fun us => bindArgs _ ⟨us, []⟩ = pure (List.zip ([p0, p1] : List Str) us)) hl (b kV doc pm an cdv ct), PySem.W.mg_of X G d.a⟩
theorem dm2 {K : PySem.W.Frag} {n q p0 p1 : Str} {st : Stmt} {f : Addr} {fd : FuncData} (d : Fun K n q st f fd) (b : ∀ (kV doc pm : Value) (an : Option Addr) (cdv ct : Value) (x0 x1 : Value), bindArgs (PySem.W.fnOf n q (defArgs st) (defBody st) (defScope st) .none kV doc pm an cdv ct) ⟨[x0, x1], []⟩ = pure (List.zip [p0, p1] [x0, x1])) : Dm K n q st [p0, p1] f fd := ⟨d, d.binds (ps := [p0, p1]) fun kV doc pm an cdv ct us hl => Bf (C := fun us => bindArgs _ ⟨us, []⟩ = pure (List.zip ([p0, p1] : List Str) us)) hl (b kV doc pm an cdv ct)⟩
theorem Dq {α : Type} {C : List α → Prop} {us : List α} (hl : us.length = 3) (h : ∀ x0 x1 x2, C [x0, x1, x2]) : C us := match us, hl with | [_, _, _], _ => h _ _ _
theorem df3 {K : PySem.W.Frag} {h : Heap} {mg : Str → Option Value} {n p0 p1 p2 : Str} {st : Stmt} {f : Addr} {fd : FuncData} (X : K.In h) (G : h.Ns mainGlobals mg) (d : FI K n st f fd) (b : ∀ (kV doc pm : Value) (an : Option Addr) (cdv ct : Value) (x0 x1 x2 : Value), bindArgs (PySem.W.fnOf n n (defArgs st) (defBody st) (defScope st) .none kV doc pm an cdv ct) ⟨[x0, x1, x2], []⟩ = pure (List.zip [p0, p1, p2] [x0, x1, x2])) : Df K mg n st [p0, p1, p2] f fd := ⟨d.F, d.F.binds (ps := [p0, p1, p2]) fun kV doc pm an cdv ct us hl => Dq (C := fun us => bindArgs _ ⟨us, []⟩ = pure (List.zip ([p0, p1, p2] : List Str) us)) hl (b kV doc pm an cdv ct), PySem.W.mg_of X G d.a⟩
theorem dm3 {K : PySem.W.Frag} {n q p0 p1 p2 : Str} {st : Stmt} {f : Addr} {fd : FuncData} (d : Fun K n q st f fd) (b : ∀ (kV doc pm : Value) (an : Option Addr) (cdv ct : Value) (x0 x1 x2 : Value), bindArgs (PySem.W.fnOf n q (defArgs st) (defBody st) (defScope st) .none kV doc pm an cdv ct) ⟨[x0, x1, x2], []⟩ = pure (List.zip [p0, p1, p2] [x0, x1, x2])) : Dm K n q st [p0, p1, p2] f fd := ⟨d, d.binds (ps := [p0, p1, p2]) fun kV doc pm an cdv ct us hl => Dq (C := fun us => bindArgs _ ⟨us, []⟩ = pure (List.zip ([p0, p1, p2] : List Str) us)) hl (b kV doc pm an cdv ct)⟩
theorem Gr {α : Type} {C : List α → Prop} {us : List α} (hl : us.length = 4) (h : ∀ x0 x1 x2 x3, C [x0, x1, x2, x3]) : C us := match us, hl with | [_, _, _, _], _ => h _ _ _ _
theorem df4 {K : PySem.W.Frag} {h : Heap} {mg : Str → Option Value} {n p0 p1 p2 p3 : Str} {st : Stmt} {f : Addr} {fd : FuncData} (X : K.In h) (G : h.Ns mainGlobals mg) (d : FI K n st f fd) (b : ∀ (kV doc pm : Value) (an : Option Addr) (cdv ct : Value) (x0 x1 x2 x3 : Value), bindArgs (PySem.W.fnOf n n (defArgs st) (defBody st) (defScope st) .none kV doc pm an cdv ct) ⟨[x0, x1, x2, x3], []⟩ = pure (List.zip [p0, p1, p2, p3] [x0, x1, x2, x3])) : Df K mg n st [p0, p1, p2, p3] f fd := ⟨d.F, d.F.binds (ps := [p0, p1, p2, p3]) fun kV doc pm an cdv ct us hl => Gr (C := fun us => bindArgs _ ⟨us, []⟩ = pure (List.zip ([p0, p1, p2, p3] : List Str) us)) hl (b kV doc pm an cdv ct), PySem.W.mg_of X G d.a⟩
theorem Gk {α : Type} {C : List α → Prop} {us : List α} (hl : us.length = 5) (h : ∀ x0 x1 x2 x3 x4, C [x0, x1, x2, x3, x4]) : C us := match us, hl with | [_, _, _, _, _], _ => h _ _ _ _ _
theorem df5 {K : PySem.W.Frag} {h : Heap} {mg : Str → Option Value} {n p0 p1 p2 p3 p4 : Str} {st : Stmt} {f : Addr} {fd : FuncData} (X : K.In h) (G : h.Ns mainGlobals mg) (d : FI K n st f fd) (b : ∀ (kV doc pm : Value) (an : Option Addr) (cdv ct : Value) (x0 x1 x2 x3 x4 : Value), bindArgs (PySem.W.fnOf n n (defArgs st) (defBody st) (defScope st) .none kV doc pm an cdv ct) ⟨[x0, x1, x2, x3, x4], []⟩ = pure (List.zip [p0, p1, p2, p3, p4] [x0, x1, x2, x3, x4])) : Df K mg n st [p0, p1, p2, p3, p4] f fd := ⟨d.F, d.F.binds (ps := [p0, p1, p2, p3, p4]) fun kV doc pm an cdv ct us hl => Gk (C := fun us => bindArgs _ ⟨us, []⟩ = pure (List.zip ([p0, p1, p2, p3, p4] : List Str) us)) hl (b kV doc pm an cdv ct), PySem.W.mg_of X G d.a⟩
set_option genInjectivity false in
set_option genSizeOf false in
structure Ad where
 tc_heap_look : Addr
 tP_heap_look : Addr
 tc_law_look : Addr
 tP_law_look : Addr
 f_wall : Addr
 fd_wall : FuncData
 f_packed : Addr
 fd_packed : FuncData
 f_check_row : Addr
 fd_check_row : FuncData
 f_block_of : Addr
 fd_block_of : FuncData
 f_bit_in : Addr
 fd_bit_in : FuncData
 f_bits_of : Addr
 fd_bits_of : FuncData
 f_ones_in : Addr
 fd_ones_in : FuncData
 f_one_in : Addr
 fd_one_in : FuncData
 f_nets_of : Addr
 fd_nets_of : FuncData
 f_low_in : Addr
 fd_low_in : FuncData
 f_first_low_in : Addr
 fd_first_low_in : FuncData
 f_last_low_in : Addr
 fd_last_low_in : FuncData
 f_heap_of : Addr
 fd_heap_of : FuncData
 f_size_of : Addr
 fd_size_of : FuncData
 f_lesser_of : Addr
 fd_lesser_of : FuncData
 f_first_at_most : Addr
 fd_first_at_most : FuncData
 f_last_at_most : Addr
 fd_last_at_most : FuncData
 f_place_beneath : Addr
 fd_place_beneath : FuncData
 f_check_stretch : Addr
 fd_check_stretch : FuncData
 f_cover : Addr
 fd_cover : FuncData
 f_kept_row : Addr
 fd_kept_row : FuncData
 f_ahead_of : Addr
 fd_ahead_of : FuncData
 f_check_place : Addr
 fd_check_place : FuncData
 f_bit_at : Addr
 fd_bit_at : FuncData
 f_ones_at : Addr
 fd_ones_at : FuncData
 f_noughts_at : Addr
 fd_noughts_at : FuncData
 f_one_place : Addr
 fd_one_place : FuncData
 f_nought_place : Addr
 fd_nought_place : FuncData
 f_check_nth : Addr
 fd_check_nth : FuncData
 f_last_no_greater : Addr
 fd_last_no_greater : FuncData
 f_is_tree : Addr
 fd_is_tree : FuncData
 f_check_brackets : Addr
 fd_check_brackets : FuncData
 f_kept_brackets : Addr
 fd_kept_brackets : FuncData
 f_low_of : Addr
 fd_low_of : FuncData
 f_base_of : Addr
 fd_base_of : FuncData
 f_start_within : Addr
 fd_start_within : FuncData
 f_end_within : Addr
 fd_end_within : FuncData
 f_block_count : Addr
 fd_block_count : FuncData
 f_heap_look : Addr
 fd_heap_look : FuncData
 f_height : Addr
 fd_height : FuncData
 f_low_behind : Addr
 fd_low_behind : FuncData
 f_first_within : Addr
 fd_first_within : FuncData
 f_place_of_bit : Addr
 fd_place_of_bit : FuncData
 f_low_ahead : Addr
 fd_low_ahead : FuncData
 f_last_low_upto : Addr
 fd_last_low_upto : FuncData
 f_last_within : Addr
 fd_last_within : FuncData
 f_check_bracket : Addr
 fd_check_bracket : FuncData
 f_closing : Addr
 fd_closing : FuncData
 f_opening : Addr
 fd_opening : FuncData
 f_node_count : Addr
 fd_node_count : FuncData
 f_check_node : Addr
 fd_check_node : FuncData
 f_node_at : Addr
 fd_node_at : FuncData
 f_place_of : Addr
 fd_place_of : FuncData
 f_next_number : Addr
 fd_next_number : FuncData
 f_closed_from : Addr
 fd_closed_from : FuncData
 f_Walk_init : Addr
 fd_Walk_init : FuncData
 f_Walk_behind : Addr
 fd_Walk_behind : FuncData
 f_Late_behind : Addr
 fd_Late_behind : FuncData
 f_Tips_behind : Addr
 fd_Tips_behind : FuncData
 f_Tips_tip_from : Addr
 fd_Tips_tip_from : FuncData
 f_check_depths : Addr
 fd_check_depths : FuncData
 f_brackets_of : Addr
 fd_brackets_of : FuncData
 f_kept_tree : Addr
 fd_kept_tree : FuncData
 f_law_whole : Addr
 fd_law_whole : FuncData
 f_law_depths : Addr
 fd_law_depths : FuncData
 f_law_late : Addr
 fd_law_late : FuncData
 f_law_look : Addr
 fd_law_look : FuncData
 f_law_there : Addr
 fd_law_there : FuncData
 f_law_due : Addr
 fd_law_due : FuncData
 f_law_refused : Addr
 fd_law_refused : FuncData
 f_law_next : Addr
 fd_law_next : FuncData
 f_law_tip : Addr
 fd_law_tip : FuncData
 f_law : Addr
 fd_law : FuncData
 t_BLOCK_BITS : Tok
 t_MOST_BITS : Tok
 t_MOST_NODES : Tok
 t_MOST_NUMBERS : Tok
 c_Late : Addr
 c_NoNode : Addr
 c_NoPlace : Addr
 c_Tips : Addr
 c_Walk : Addr
 c_WoodError : Addr
structure Tx (K : PySem.W.Frag) (mg : Str → Option Value) (a : Ad) : Prop where
 D_wall : Df K mg "_wall" z9 ["k"] a.f_wall a.fd_wall
 D_packed : Df K mg "packed" qb ["bits"] a.f_packed a.fd_packed
 D_check_row : Df K mg "check_row" jH ["bits"] a.f_check_row a.fd_check_row
 D_block_of : Df K mg "block_of" lw ["bits"] a.f_block_of a.fd_block_of
 D_bit_in : Df K mg "bit_in" qy ["block", "k"] a.f_bit_in a.fd_bit_in
 D_bits_of : Df K mg "bits_of" ou ["block", "upto"] a.f_bits_of a.fd_bits_of
 D_ones_in : Df K mg "ones_in" oh ["block", "upto"] a.f_ones_in a.fd_ones_in
 D_one_in : Df K mg "one_in" qJ ["block", "nth"] a.f_one_in a.fd_one_in
 D_nets_of : Df K mg "nets_of" oE ["block", "upto"] a.f_nets_of a.fd_nets_of
 D_low_in : Df K mg "low_in" qz ["block", "upto"] a.f_low_in a.fd_low_in
 D_first_low_in : Df K mg "first_low_in" fD ["block", "start", "stop", "goal"] a.f_first_low_in a.fd_first_low_in
 D_last_low_in : Df K mg "last_low_in" gF ["block", "start", "stop", "goal"] a.f_last_low_in a.fd_last_low_in
 D_heap_of : Df K mg "heap_of" nq ["numbers"] a.f_heap_of a.fd_heap_of
 D_size_of : Df K mg "size_of" nC ["many"] a.f_size_of a.fd_size_of
 D_lesser_of : Df K mg "lesser_of" jD ["one", "other"] a.f_lesser_of a.fd_lesser_of
 D_first_at_most : Df K mg "first_at_most" dX ["many", "look", "start", "goal"] a.f_first_at_most a.fd_first_at_most
 D_last_at_most : Df K mg "last_at_most" fP ["many", "look", "stop", "goal"] a.f_last_at_most a.fd_last_at_most
 D_place_beneath : Df K mg "place_beneath" dO ["size", "look", "node", "goal", "side"] a.f_place_beneath a.fd_place_beneath
 D_check_stretch : Df K mg "check_stretch" eE ["many", "start", "stop"] a.f_check_stretch a.fd_check_stretch
 D_cover : Df K mg "cover" tO ["many", "start", "stop"] a.f_cover a.fd_cover
 D_kept_row : Df K mg "kept_row" kI ["bits"] a.f_kept_row a.fd_kept_row
 D_ahead_of : Df K mg "ahead_of" kZ ["blocks"] a.f_ahead_of a.fd_ahead_of
 D_check_place : Df K mg "check_place" gj ["at", "most"] a.f_check_place a.fd_check_place
 D_bit_at : Df K mg "bit_at" qK ["tables", "look", "at"] a.f_bit_at a.fd_bit_at
 D_ones_at : Df K mg "ones_at" oA ["tables", "look", "at"] a.f_ones_at a.fd_ones_at
 D_noughts_at : Df K mg "noughts_at" iC ["tables", "look", "at"] a.f_noughts_at a.fd_noughts_at
 D_one_place : Df K mg "one_place" je ["tables", "look", "nth"] a.f_one_place a.fd_one_place
 D_nought_place : Df K mg "nought_place" fJ ["tables", "look", "nth"] a.f_nought_place a.fd_nought_place
 D_check_nth : Df K mg "check_nth" jK ["nth", "many"] a.f_check_nth a.fd_check_nth
 D_last_no_greater : Df K mg "last_no_greater" dq ["numbers", "goal"] a.f_last_no_greater a.fd_last_no_greater
 D_is_tree : Df K mg "is_tree" mY ["bits"] a.f_is_tree a.fd_is_tree
 D_check_brackets : Df K mg "check_brackets" dD ["bits"] a.f_check_brackets a.fd_check_brackets
 D_kept_brackets : Df K mg "kept_brackets" dW ["bits"] a.f_kept_brackets a.fd_kept_brackets
 D_low_of : Df K mg "low_of" q9 ["tables", "number", "block"] a.f_low_of a.fd_low_of
 D_base_of : Df K mg "base_of" nY ["tables", "number"] a.f_base_of a.fd_base_of
 D_start_within : Df K mg "start_within" fj ["number", "at"] a.f_start_within a.fd_start_within
 D_end_within : Df K mg "end_within" iQ ["number", "upto"] a.f_end_within a.fd_end_within
 D_block_count : Df K mg "block_count" gD ["tables"] a.f_block_count a.fd_block_count
 D_heap_look : Df K mg "heap_look" bQ ["tables"] a.f_heap_look a.fd_heap_look
 D_height : Df K mg "height" qp ["tables", "look", "at"] a.f_height a.fd_height
 D_low_behind : Df K mg "low_behind" il ["tables", "look", "at", "goal"] a.f_low_behind a.fd_low_behind
 D_first_within : Df K mg "first_within" fV ["tables", "look", "number", "at", "goal"] a.f_first_within a.fd_first_within
 D_place_of_bit : Df K mg "place_of_bit" fB ["number", "within"] a.f_place_of_bit a.fd_place_of_bit
 D_low_ahead : Df K mg "low_ahead" jO ["tables", "look", "at", "goal"] a.f_low_ahead a.fd_low_ahead
 D_last_low_upto : Df K mg "last_low_upto" dU ["tables", "look", "upto", "goal"] a.f_last_low_upto a.fd_last_low_upto
 D_last_within : Df K mg "last_within" gn ["tables", "look", "number", "upto", "goal"] a.f_last_within a.fd_last_within
 D_check_bracket : Df K mg "check_bracket" dY ["tables", "look", "at", "bit"] a.f_check_bracket a.fd_check_bracket
 D_closing : Df K mg "closing" nO ["tables", "look", "at"] a.f_closing a.fd_closing
 D_opening : Df K mg "opening" m9 ["tables", "look", "at"] a.f_opening a.fd_opening
 D_node_count : Df K mg "node_count" ir ["tables"] a.f_node_count a.fd_node_count
 D_check_node : Df K mg "check_node" iG ["tables", "node"] a.f_check_node a.fd_check_node
 D_node_at : Df K mg "node_at" nM ["tables", "look", "at"] a.f_node_at a.fd_node_at
 D_place_of : Df K mg "place_of" kO ["tables", "look", "node"] a.f_place_of a.fd_place_of
 D_next_number : Df K mg "next_number" gq ["tables", "node"] a.f_next_number a.fd_next_number
 D_closed_from : Df K mg "closed_from" gm ["tables", "look", "at"] a.f_closed_from a.fd_closed_from
 D_Walk_init : Dm K "__init__" "Walk.__init__" jF ["self", "tables", "look"] a.f_Walk_init a.fd_Walk_init
 D_Walk_behind : Dm K "behind" "Walk.behind" gO ["self", "node"] a.f_Walk_behind a.fd_Walk_behind
 D_Late_behind : Dm K "behind" "Late.behind" gP ["self", "node"] a.f_Late_behind a.fd_Late_behind
 D_Tips_behind : Dm K "behind" "Tips.behind" gw ["self", "node"] a.f_Tips_behind a.fd_Tips_behind
 D_Tips_tip_from : Dm K "tip_from" "Tips.tip_from" eG ["self", "node"] a.f_Tips_tip_from a.fd_Tips_tip_from
 D_check_depths : Df K mg "check_depths" fQ ["depths"] a.f_check_depths a.fd_check_depths
 D_brackets_of : Df K mg "brackets_of" gA ["depths"] a.f_brackets_of a.fd_brackets_of
 D_kept_tree : Df K mg "kept_tree" ji ["depths"] a.f_kept_tree a.fd_kept_tree
 D_law_whole : Df K mg "_law_whole" jo ["_law_found"] a.f_law_whole a.fd_law_whole
 D_law_depths : Df K mg "_law_depths" iz ["_law_script", "_law_most"] a.f_law_depths a.fd_law_depths
 D_law_late : Df K mg "_law_late" lu ["_law_depths_here"] a.f_law_late a.fd_law_late
 D_law_look : Df K mg "_law_look" b8 ["_law_blocks", "_law_seen"] a.f_law_look a.fd_law_look
 D_law_there : Df K mg "_law_there" jq ["_law_seen", "_law_size"] a.f_law_there a.fd_law_there
 D_law_due : Df K mg "_law_due" nJ ["_law_found", "_law_due_here"] a.f_law_due a.fd_law_due
 D_law_refused : Df K mg "_law_refused" gH ["_law_walk", "_law_node"] a.f_law_refused a.fd_law_refused
 D_law_next : Df K mg "_law_next" lz ["_law_row", "_law_node"] a.f_law_next a.fd_law_next
 D_law_tip : Df K mg "_law_tip" m6 ["_law_depths_here", "_law_node"] a.f_law_tip a.fd_law_tip
 D_law : Df K mg "law" zZ ["_law_script"] a.f_law a.fd_law
 b_bool : mg "bool" = none
 b_enumerate : mg "enumerate" = none
 b_int : mg "int" = none
 b_isinstance : mg "isinstance" = none
 b_len : mg "len" = none
 b_list : mg "list" = none
 b_max : mg "max" = none
 b_min : mg "min" = none
 b_range : mg "range" = none
 b_reversed : mg "reversed" = none
 b_sum : mg "sum" = none
 b_tuple : mg "tuple" = none
 b_zip : mg "zip" = none
 c_BLOCK_BITS : mg "BLOCK_BITS" = some (.int 32 a.t_BLOCK_BITS)
 c_MOST_BITS : mg "MOST_BITS" = some (.int 4096 a.t_MOST_BITS)
 c_MOST_NODES : mg "MOST_NODES" = some (.int 2048 a.t_MOST_NODES)
 c_MOST_NUMBERS : mg "MOST_NUMBERS" = some (.int 4096 a.t_MOST_NUMBERS)
 g_Late : mg "Late" = some (.ref a.c_Late)
 g_NoNode : mg "NoNode" = some (.ref a.c_NoNode)
 g_NoPlace : mg "NoPlace" = some (.ref a.c_NoPlace)
 g_Tips : mg "Tips" = some (.ref a.c_Tips)
 g_Walk : mg "Walk" = some (.ref a.c_Walk)
 g_WoodError : mg "WoodError" = some (.ref a.c_WoodError)
 x_NoNode : Exc K mg "NoNode" a.c_NoNode
 k_NoNode : ue K a.c_NoNode
 i_NoNode_Late : PySem.W.kitOne K (.ref a.c_NoNode) (.ref a.c_Late) = some false
 i_NoNode_NoNode : PySem.W.kitOne K (.ref a.c_NoNode) (.ref a.c_NoNode) = some true
 i_NoNode_NoPlace : PySem.W.kitOne K (.ref a.c_NoNode) (.ref a.c_NoPlace) = some false
 i_NoNode_Tips : PySem.W.kitOne K (.ref a.c_NoNode) (.ref a.c_Tips) = some false
 i_NoNode_Walk : PySem.W.kitOne K (.ref a.c_NoNode) (.ref a.c_Walk) = some false
 i_NoNode_WoodError : PySem.W.kitOne K (.ref a.c_NoNode) (.ref a.c_WoodError) = some true
 i_NoNode_ValueError : PySem.W.kitOne K (.ref a.c_NoNode) (.type "ValueError") = some true
 cl_Late : Cls K a.c_Late
 cl_Tips : Cls K a.c_Tips
 cl_Walk : Cls K a.c_Walk
 na_Late_look : cX K a.c_Late "look"
 na_Late_tables : cX K a.c_Late "tables"
 na_Tips_look : cX K a.c_Tips "look"
 na_Tips_tables : cX K a.c_Tips "tables"
 na_Walk_look : cX K a.c_Walk "look"
 na_Walk_tables : cX K a.c_Walk "tables"
 M_Late_behind : Meth K a.c_Late "behind" a.f_Late_behind
 M_Tips_behind : Meth K a.c_Tips "behind" a.f_Tips_behind
 M_Tips_tip_from : Meth K a.c_Tips "tip_from" a.f_Tips_tip_from
 M_Walk_behind : Meth K a.c_Walk "behind" a.f_Walk_behind
 mk_Late : Mk K a.c_Late a.f_Walk_init
 mk_Tips : Mk K a.c_Tips a.f_Walk_init
 mk_Walk : Mk K a.c_Walk a.f_Walk_init
 w_heap_look : a.fd_heap_look.code = .ref a.tc_heap_look
 w_law_look : a.fd_law_look.code = .ref a.tc_law_look
structure Bs (mg : Str → Option Value) (base : Heap) (a : Ad) : Prop where
 bm : BMain mg base
 C_heap_look : PySem.W.CodeHd base a.tc_heap_look a.tP_heap_look
 C_law_look : PySem.W.CodeHd base a.tc_law_look a.tP_law_look
 N_heap_look_law_look : a.tP_heap_look ≠ a.tP_law_look
theorem iW.out {H : Hp} {f b : Addr} {c : qN} {cs : List Addr} {fvs : List V} {xs : List V} (h : iW H f c cs fvs) (e : H b = some (.lst xs)) : b ∉ cs := fun z => by
 obtain ⟨i, hi⟩ := List.getElem?_of_mem z
 obtain ⟨co, v, u, _, e2, _⟩ := h.cells i b hi
 rw [e] at e2
 cases e2
theorem TabAt.same {H H' : Hp} {P : Addr} {pos : Pos} {q : Str} (h : TabAt H P pos q) (s : aR H H') : TabAt H' P pos q := by
 obtain ⟨ps, h1, h2, h3⟩ := h
 refine ⟨ps, s _ _ h1, h2, ?_⟩
 rcases h3 with h3 | ⟨cd, oc, vs, t, h4, h5, h6⟩
 ·exact .inl h3
 ·exact .inr ⟨cd, oc, vs, t, h4, s _ _ h5, h6⟩
def lD (P : Addr) (H H' : Hp) : Prop := ∀ b o, H b = some o → b ≠ P → H' b = some o
theorem lD.trans {P : Addr} {H H1 H2 : Hp} (s : lD P H H1) (s2 : lD P H1 H2) : lD P H H2 := fun b o e n => s2 b o (s b o e n) n
theorem TabAt.ne {H : Hp} {P b : Addr} {pos : Pos} {q : Str} {o : HO} (h : TabAt H P pos q) (e : H b = some o) (n : ∀ ps, o ≠ .tbl ps) : b ≠ P := fun z => by
 obtain ⟨ps, h1, _⟩ := h
 rw [z, h1] at e
 cases e
 exact n _ rfl
theorem TabAt.upd {H : Hp} {P x : Addr} {pos : Pos} {q : Str} {xs ys : List V} (h : TabAt H P pos q) (e : H x = some (.lst xs)) : TabAt (L2.upd H x (.lst ys)) P pos q := by
 obtain ⟨ps, h1, h2, h3⟩ := h
 have ne : ∀ b o, H b = some o → (∀ zs, o ≠ .lst zs) → L2.upd H x (.lst ys) b = some o := fun b o e2 n => by
  rw [aC (fun z => by rw [z, e] at e2; cases e2; exact n _ rfl)]
  exact e2
 refine ⟨ps, ne _ _ h1 nofun, h2, ?_⟩
 rcases h3 with h3 | ⟨cd, oc, vs, t, h4, h5, h6⟩
 ·exact .inl h3
 ·exact .inr ⟨cd, oc, vs, t, h4, ne _ _ h5 nofun, h6⟩
theorem lD.free {P : Addr} {H H1 : Hp} (s : lD P H H1) {l : Addr} (hP : ∃ o, H1 P = some o) (h : H1 l = none) : H l = none := by
 cases e : H l with
 | none => rfl
 | some o =>
  by_cases z : l = P
  ·obtain ⟨o, ho⟩ := hP
   rw [z, ho] at h
   cases h
  ·rw [s l o e z] at h
   cases h
theorem CQ {n j : Nat} (h : j < n) : ixN n (j : Int) = some j := by
 unfold ixN
 simp
 omega
theorem yh (k : Nat) (v : Int) : (List.replicate k [V.int v]).flatten = (List.replicate k v).map V.int := by
 induction k with
 | zero => rfl
 | succ k ih => rw [List.replicate_succ, List.flatten_cons, ih, List.replicate_succ]; rfl
def j8 (H : Hp) (f sn nd : Addr) : Prop := ∃ cs, iW H f cQ cs [.ref sn, .ref nd]
theorem j8.fn {H : Hp} {f sn nd : Addr} (h : j8 H f sn nd) : ∃ o fd, H f = some (aK f o) ∧ o.data = .func fd := by
 obtain ⟨cs, ca⟩ := h
 obtain ⟨cd, doc, pm, ctv, oc, vs, t, h1, _⟩ := ca.ex
 exact ⟨_, _, h1, rfl⟩
theorem j8.same {H H' : Hp} {f sn nd : Addr} (h : j8 H f sn nd) (s : aR H H') : j8 H' f sn nd := by
 obtain ⟨cs, ca⟩ := h
 exact ⟨cs, ca.same fun b o e => s _ _ e⟩
theorem j8.upd {H : Hp} {f sn nd b : Addr} {xs ys : List V} (h : j8 H f sn nd) (e : H b = some (.lst xs)) : j8 (L2.upd H b (.lst ys)) f sn nd := by
 obtain ⟨cs, ca⟩ := h
 refine ⟨cs, ca.same fun c o e2 => ?_⟩
 rw [aC (fun z => by rw [z, e] at e2; cases e2)]
 exact e2
structure Asks (H : Hp) (f sn nd : Addr) (ss : List Int) (xs : List V) : Prop where
 look : j8 H f sn nd
 seen : H sn = some (.lst (ss.map V.int))
 nodes : H nd = some (.lst xs)
 ne : sn ≠ nd
 few : ss.length ≤ 1000
theorem Asks.same {H H' : Hp} {f sn nd : Addr} {ss : List Int} {xs : List V} (h : Asks H f sn nd ss xs) (s : aR H H') : Asks H' f sn nd ss xs := ⟨h.look.same s, s _ _ h.seen, s _ _ h.nodes, h.ne, h.few⟩
theorem Asks.more {H : Hp} {f sn nd : Addr} {ss tt : List Int} {xs : List V} (h : Asks H f sn nd ss xs) (hl : tt.length ≤ 1000) : Asks (L2.upd H sn (.lst (tt.map V.int))) f sn nd tt xs :=
 ⟨h.look.upd h.seen, ao, by rw [aC h.ne.symm]; exact h.nodes, h.ne, hl⟩
section
variable {P : Program} {w : World} {K : PySem.W.Frag} {mg : Str → Option Value} {base : Heap} {a : Ad}
theorem Ak (x : Int) : Builtin.bitAnd x 1 = x % 2 := by
 unfold Builtin.bitAnd
 by_cases hx : 0 ≤ x
 ·simp [hx]
  omega
 ·simp [hx]
  unfold Builtin.bitNot
  omega
def zN : Sp := fun vs H Q _ => ∃ (b k : Int), vs = [.int b, .int k] ∧ 0 ≤ k ∧ Q (.int (bit b k.toNat)) H
theorem rT (T : Tx K mg a) : aU P w K mg base CX0 1 a.f_bit_in a.fd_bit_in ["block", "k"] zN := by
 refine T.D_bit_in.F.ok zL (fun vs H Q E h => ?_) (fun cdv A outer s H vs Q E hr h => ?_)
 ·obtain ⟨b, k, rfl, _⟩ := h
  rfl
 obtain ⟨b, k, rfl, h0, q⟩ := h
 refine ⟨_, (aq (aD (aB Eu (aB DP (pv 0) (pv 1)) au))), ?_⟩
 refine ⟨_, rfl, _, rfl, _, _, rfl, rfl, h0, _, _, rfl, rfl, ?_⟩
 have e : Builtin.bitAnd (b / 2 ^ k.toNat) 1 = bit b k.toNat := Ak _
 show Q (.int (Builtin.bitAnd (b / 2 ^ k.toNat) 1)) H
 rw [e]
 exact q
def wu : Sp := fun vs H Q _ => ∃ (b n : Int), vs = [.int b, .int n] ∧ 0 ≤ n ∧ n ≤ 32 ∧ ∀ r, H r = none → Q (.ref r) (upd H r (.lst ((bits b n.toNat).map V.int)))
theorem kj (T : Tx K mg a) : aU P w K mg base CX0 2 a.f_bits_of a.fd_bits_of ["block", "upto"] wu := by
 refine T.D_bits_of.F.ok xT (fun vs H Q E h => ?_) (fun cdv A outer s H vs Q E hr h => ?_)
 ·obtain ⟨b, n, rfl, _⟩ := h
  rfl
 obtain ⟨b, n, rfl, h0, h1, q⟩ := h
 refine ⟨_, (aq (aD (ut rfl (cP.one (j := 0) rfl (Or.inl rfl) rfl rfl (Or.inl rfl)) (fc rfl T.b_range (aa (pv 1) aj)) (fun _ _ _ _ => mL) (fun _ _ _ _ => (aG T.D_bit_in (rT T) (by decide) hr aH rfl (aa (pv 1) (aa (pv 0) aj))))))), ?_⟩
 refine ⟨_, rfl, n, rfl, by omega, by omega, ?_⟩
 refine sy (fun j => bit b j) (by rw [sizeLine_eq]; omega) (fun _ _ _ q => q) (fun j H' Q hj sm q => ⟨_, rfl, _, rfl, _, _, rfl, by omega, ?_⟩) fun D hD => q D hD
 rw [show ((0 : Int) + (j : Int)).toNat = j from by omega]
 exact q
def xH : Sp := fun vs H Q _ => ∃ (b n : Int), vs = [.int b, .int n] ∧ 0 ≤ n ∧ n ≤ 32 ∧ ∀ H', aR H H' → Q (.int (ones b n.toNat)) H'
theorem qR (T : Tx K mg a) : aU P w K mg base CX0 3 a.f_ones_in a.fd_ones_in ["block", "upto"] xH := by
 refine T.D_ones_in.F.ok xg (fun vs H Q E h => ?_) (fun cdv A outer s H vs Q E hr h => ?_)
 ·obtain ⟨b, n, rfl, _⟩ := h
  rfl
 obtain ⟨b, n, rfl, h0, h1, q⟩ := h
 refine ⟨_, (aq (aD (aQ (vf rfl) rfl T.b_sum Tw.Ba (aa (aG T.D_bits_of (kj T) (by decide) hr aH rfl (aa (pv 0) (aa (pv 1) aj))) aj)))), ?_⟩
 exact ⟨_, rfl, _, rfl, b, n, rfl, h0, h1, fun r hr' => ⟨r, bits b n.toNat, rfl, SqL.of ao, q _ (az hr' _)⟩⟩
def zA : Sp := fun vs H Q _ => ∃ (b t : Int), vs = [.int b, .int t] ∧ (∀ H', aR H H' → ∀ k : Nat, k < 32 → bit b k = 1 → ones b k = t → Q (.int (k : Int)) H') ∧
 ∀ H', aR H H' → (∀ k : Nat, k < 32 → ¬ (bit b k = 1 ∧ ones b k = t)) → Q .non H'
theorem rW (T : Tx K mg a) : aU P w K mg base CX0 3 a.f_one_in a.fd_one_in ["block", "nth"] zA := by
 refine T.D_one_in.F.ok ig (fun vs H Q E h => ?_) (fun cdv A outer s H vs Q E hr h => ?_)
 ·obtain ⟨b, n, rfl, _⟩ := h
  rfl
 obtain ⟨b, t, rfl, q1, q2⟩ := h
 refine ⟨_, (ak (aF (i := 2) ig.nd rfl (Or.inl rfl) au)
  (ak (bR PassesOwn.never rfl (tR rfl T.b_enumerate (aa (aG T.D_bits_of (kj T) (by decide) hr aH rfl (aa (pv 0) (aa (bx (v := .int 32) rfl T.c_BLOCK_BITS ⟨_, rfl⟩) aj))) aj)) (lq rfl (bK (aV (i := 3) ig.nd rfl (Or.inl rfl)) (bK (aV (i := 4) ig.nd rfl (Or.inl rfl)) iu))) (ak (aX (PW.pt (jz (aM fO (pv 4) au (aO _)) (iJ (aM fO (pv 2) (pv 1) (aO _))))) (aq (aD (pv 3))) aN)
  (aq (aF (i := 2) ig.nd rfl (Or.inl rfl) (aB aZ (pv 2) (pv 4))))))
  (aq (aD cB)))), ?_⟩
 refine ⟨_, rfl, b, 32, rfl, by decide, by decide, fun r hr' => ⟨r, _, rfl, SqL.of ao, ?_⟩⟩
 refine u0 (xs := (bits b 32).map V.int) (fun i σ H' => (∃ k bt, σ = [some (.int b), some (.int t), some (.int (ones b i)), k, bt]) ∧ aR (upd H r (.lst ((bits b 32).map V.int))) H' ∧ ∀ j : Nat, j < i → ¬ (bit b j = 1 ∧ ones b j = t)) ?_ ?_ ?_ ?_
 ·exact ⟨⟨none, none, rfl⟩, aR.refl _, fun j hj => absurd hj (Nat.not_lt_zero _)⟩
 ·rintro i σ H' hi ⟨_, sm, _⟩
  exact SqL.of (sm _ _ ao)
 ·rintro i x σ H' p hx ⟨⟨k, bt, rfl⟩, sm, no⟩ hp
  have hi : i < 32 := by
   have := (List.getElem?_eq_some_iff.mp hx).1
   rw [List.length_map, dN] at this
   exact this
  have ex : x = .int (bit b i) := by
   rw [List.getElem?_map, qZ hi] at hx
   exact (Option.some.inj hx).symm
  subst ex
  have sm' : aR (upd H r (.lst ((bits b 32).map V.int))) (upd H' p (.tup [.int (i : Int), .int (bit b i)])) := sm.trans (az hp _)
  have smH := (az hr' (.lst ((bits b 32).map V.int))).trans sm'
  have next : (∀ j : Nat, j < i + 1 → ¬ (bit b j = 1 ∧ ones b j = t)) ↔ ¬ (bit b i = 1 ∧ ones b i = t) := by
   refine ⟨fun h => h i (Nat.lt_succ_self _), fun h j hj => ?_⟩
   rcases Nat.lt_or_ge j i with l | l
   ·exact no j l
   ·have : j = i := by omega
    subst this
    exact h
  have go : ¬ (bit b i = 1 ∧ ones b i = t) → (∃ k bt, [some (V.int b), some (V.int t), some (V.int (ones b i + bit b i)), some (V.int (i : Int)), some (V.int (bit b i))] = [some (.int b), some (.int t), some (.int (ones b (i + 1))), k, bt]) ∧
    aR (upd H r (.lst ((bits b 32).map V.int))) (upd H' p (.tup [.int (i : Int), .int (bit b i)])) ∧ ∀ j : Nat, j < i + 1 → ¬ (bit b j = 1 ∧ ones b j = t) := fun h =>
   ⟨⟨_, _, by rw [dw]⟩, sm', next.mpr h⟩
  refine ⟨p, _, rfl, SqT.of ao, rfl, _, _, rfl, _, _, rfl, rfl, ?_⟩
  refine ⟨_, rfl, rfl, _, rfl, ?_⟩
  refine bI (fun c => ?_) (fun c => ?_)
  ·have c1 : V.int (bit b i) = V.int 1 := of_decide_eq_true c
   refine ⟨_, rfl, _, rfl, rfl, _, rfl, ?_⟩
   refine bI (fun d => ?_) (fun d => ?_)
   ·have d1 : V.int (ones b i) = V.int t := of_decide_eq_true d
    exact ⟨_, rfl, q1 _ smH i hi (V.int.inj c1) (V.int.inj d1)⟩
   ·have d1 : ¬ V.int (ones b i) = V.int t := fun z => d (decide_eq_true z)
    exact ⟨_, rfl, _, rfl, _, _, rfl, rfl, go fun z => d1 (congrArg V.int z.2)⟩
  ·have c1 : ¬ V.int (bit b i) = V.int 1 := fun z => c (decide_eq_true z)
   exact cI ⟨_, rfl, _, rfl, _, _, rfl, rfl, go fun z => c1 (congrArg V.int z.1)⟩
 ·rintro σ H' ⟨_, sm, no⟩
  refine q2 _ ((az hr' _).trans sm) fun k hk => no k ?_
  rw [List.length_map, dN]
  exact hk
def uI (K : PySem.W.Frag) : Sp := fun vs H Q _ => ∃ (p : Addr) (ns : List Int), vs = [.ref p] ∧ SqL K H p (ns.map V.int) ∧ Q (.int (blk ns)) H
theorem uW (T : Tx K mg a) : aU P w K mg base CX0 1 a.f_block_of a.fd_block_of ["bits"] (uI K) := by
 refine T.D_block_of.F.ok gb (fun vs H Q E h => ?_) (fun cdv A outer s H vs Q E hr h => ?_)
 ·obtain ⟨p, ns, rfl, _⟩ := h
  rfl
 obtain ⟨p, ns, rfl, hS, q⟩ := h
 refine ⟨_, (ak (aF (i := 1) gb.nd rfl (Or.inl rfl) au)
  (ak (bR PassesOwn.never rfl (An rfl T.b_reversed (aa (pv 0) aj) Tw.jg) (aV (i := 2) gb.nd rfl (Or.inl rfl)) (aq (aF (i := 1) gb.nd rfl (Or.inl rfl) (aB aZ (aB b7 au (pv 1)) (pv 2)))))
  (aq (aD (pv 1))))), ?_⟩
 refine ⟨_, rfl, p, _, rfl, hS, ?_⟩
 refine ym (xs := ns.map V.int) (fun i σ H' => (∃ k, σ = [some (.ref p), some (.int (blk (ns.drop (ns.length - i)))), k]) ∧ H' = H) ?_ ?_ ?_ ?_
 ·refine ⟨⟨none, ?_⟩, rfl⟩
  rw [Nat.sub_zero, List.drop_length]
  rfl
 ·rintro i σ H' _ ⟨_, rfl⟩
  exact hS
 ·rintro i x σ H' hi hx ⟨⟨k, rfl⟩, rfl⟩
  obtain ⟨c, hc, rfl⟩ := int_at hx
  rw [List.length_map] at hi hc
  refine ⟨_, rfl, _, _, rfl, rfl, .inl ⟨by decide, by decide⟩, _, rfl, _, _, rfl, rfl, ⟨some (.int c), ?_⟩, rfl⟩
  have e : ns.drop (ns.length - (i + 1)) = c :: ns.drop (ns.length - i) := by
   have e1 : ns.length - (i + 1) = ns.length - 1 - i := by omega
   have e2 : ns.length - i = ns.length - 1 - i + 1 := by omega
   rw [e1, e2, List.drop_eq_getElem_cons (by omega)]
   congr 1
   have := List.getElem?_eq_some_iff.mp hc
   exact this.2
  rw [e]
  rfl
 ·rintro σ H' ⟨⟨k, rfl⟩, rfl⟩
  rw [List.length_map, Nat.sub_self, List.drop_zero]
  exact ⟨_, rfl, q⟩
def Al : Sp := fun vs H Q _ => ∃ i : Int, vs = [.int i] ∧ Q (.bl true) H
theorem lH (T : Tx K mg a) : aU P w K mg base CX0 1 a.f_law_whole a.fd_law_whole ["_law_found"] Al := by
 refine T.D_law_whole.F.ok tQ (fun vs H Q E h => ?_) (fun cdv A outer s H vs Q E hr h => ?_)
 ·obtain ⟨i, rfl, _⟩ := h
  rfl
 obtain ⟨i, rfl, q⟩ := h
 refine ⟨_, (aq (aD (v6 (aQ vp rfl T.b_isinstance Tw.dJ (aa (pv 0) (aa (ye (v := .ty "int") rfl T.b_int Tw.Ea rfl) aj))) (wO (Ft (aQ vp rfl T.b_isinstance Tw.dJ (aa (pv 0) (aa (ye (v := .ty "bool") rfl T.b_bool Tw.Cv rfl) aj)))))))), ?_⟩
 refine ⟨_, rfl, _, "int", _, true, rfl, .int i, rfl, true, rfl, fu ?_⟩
 exact ⟨_, rfl, _, "bool", _, false, rfl, .int i, rfl, false, rfl, q⟩
def uo (K : PySem.W.Frag) : Sp := fun vs H Q _ => ∃ (p : Addr) (ns : List Int), vs = [.ref p] ∧ SqL K H p (ns.map V.int) ∧ ns.length ≤ 4096 ∧ aP ns ∧ Q .non H
theorem lX (T : Tx K mg a) : aU P w K mg base CX0 1 a.f_check_row a.fd_check_row ["bits"] (uo K) := by
 refine T.D_check_row.F.ok lU (fun vs H Q E h => ?_) (fun cdv A outer s H vs Q E hr h => ?_)
 ·obtain ⟨p, ns, rfl, _⟩ := h
  rfl
 obtain ⟨p, ns, rfl, hS, hl, hb, q⟩ := h
 refine ⟨_, (ak (aX (aM ie (aQ aL rfl T.b_len Tw.bH (aa (pv 0) aj)) (bx (v := .int 4096) rfl T.c_MOST_BITS ⟨_, rfl⟩) (aO _)) (aq cG) aN)
  (aq (bR PassesOwn.never rfl (dH (pv 0)) (aV (i := 1) lU.nd rfl (Or.inl rfl)) (aq (aX (PW.pt (jz (aM yx (pv 1) au (aO _)) (iJ (aM yx (pv 1) au (aO _))))) (aq cG) aN))))), ?_⟩
 refine ⟨_, rfl, p, _, rfl, .inl hS, _, _, rfl, rfl, _, rfl, bI (fun c => ?_) fun _ => ?_⟩
 ·have c := of_decide_eq_true c
  rw [List.length_map] at c
  omega
 refine ⟨_, rfl, p, rfl, ⟨_, hS⟩, ?_⟩
 refine cZ (xs := ns.map V.int) (fun i σ H' => (∃ k, σ = [some (.ref p), k]) ∧ H' = H) ⟨⟨none, rfl⟩, rfl⟩ ?_ ?_ ?_
 ·rintro i σ H' _ ⟨_, rfl⟩
  exact hS
 ·rintro i x σ H' hx ⟨⟨k, rfl⟩, rfl⟩
  obtain ⟨c, hc, rfl⟩ := int_at hx
  rcases hb c (List.mem_of_getElem? hc) with rfl | rfl
  ·exact ⟨_, rfl, rfl, _, rfl, vh rfl (cI ⟨⟨_, rfl⟩, rfl⟩)⟩
  ·refine ⟨_, rfl, rfl, _, rfl, bI (fun _ => ⟨_, rfl, rfl, _, rfl, vh rfl ⟨⟨_, rfl⟩, rfl⟩⟩) fun z => absurd ?_ z⟩
   decide
 ·rintro σ H' ⟨_, rfl⟩
  exact q
def zK (K : PySem.W.Frag) : Sp := fun vs H Q _ => ∃ (p : Addr) (ns : List Int), vs = [.ref p] ∧ SqL K H p (ns.map V.int) ∧ ns.length ≤ 4096 ∧ aP ns ∧ ∀ r H', H r = none → aR H H' → H' r = some (.lst ((cW ns).map V.int)) → Q (.ref r) H'
theorem zj (T : Tx K mg a) : aU P w K mg base CX0 2 a.f_packed a.fd_packed ["bits"] (zK K) := by
 refine T.D_packed.F.ok yU (fun vs H Q E h => ?_) (fun cdv A outer s H vs Q E hr h => ?_)
 ·obtain ⟨p, ns, rfl, _⟩ := h
  rfl
 obtain ⟨p, ns, rfl, hS, hl, hb, q⟩ := h
 refine ⟨_, (ak (aY (aG T.D_check_row (lX T) (by decide) hr aH rfl (aa (pv 0) aj)))
  (aq (aD (ut rfl (cP.one (j := 0) rfl (Or.inl rfl) rfl rfl (Or.inl rfl)) (yO rfl T.b_range (aa au (aa (aQ aL rfl T.b_len Tw.bH (aa (pv 0) aj)) (aa (bx (v := .int 32) rfl T.c_BLOCK_BITS ⟨_, rfl⟩) aj)))) (fun _ _ _ _ => mL) (fun _ _ _ _ => (aG T.D_block_of (uW T) (by decide) hr aH rfl (aa (fK (show SlR _ (Gj K) from ik) (pv 1) (gh (pv 0)) (gh (aB aZ (pv 0) (bx (v := .int 32) rfl T.c_BLOCK_BITS ⟨_, rfl⟩)))) aj))))))), ?_⟩
 refine ⟨_, rfl, p, ns, rfl, hS, hl, hb, ?_⟩
 refine ⟨_, rfl, p, _, rfl, .inl hS, (ns.map V.int).length, rfl, ?_, ?_⟩
 ·rw [List.length_map]
  exact Nat.lt_of_le_of_lt hl (by decide)
 rw [List.length_map]
 intro D hD
 refine ⟨fun i m ys H1 => m = many ns.length - i ∧ i ≤ many ns.length ∧ ys = ((List.range i).map (bA ns)).map V.int ∧ aR H H1 ∧ H1 D = some (.lst ys), ⟨_, rfl, Nat.zero_le _, rfl, az hD _, ao⟩, ?_⟩
 rintro i m ys H1 ⟨rfl, hi, rfl, sm, hD1⟩
 by_cases hlt : i < many ns.length
 ·refine .inr ⟨hlt, fun v H2 y => ?_⟩
  obtain ⟨rfl, rfl⟩ := y
  unfold Av
  refine fu ?_
  refine ⟨_, rfl, _, rfl, _, rfl, _, rfl, _, _, rfl, rfl, _, rfl, p, _, rfl, sm.seq hS, fun p2 hp2 => ?_⟩
  have e1 : (0 : Int) + (i : Int) * 32 = ((32 * i : Nat) : Int) := by omega
  have e2 : (0 : Int) + (i : Int) * 32 + 32 = ((32 * i + 32 : Nat) : Int) := by omega
  rw [e1, show ((32 * i : Nat) : Int) + 32 = ((32 * i + 32 : Nat) : Int) from by omega, Cm, Nat.add_sub_cancel_left]
  refine ⟨p2, _, rfl, SqL.of ao, ?_⟩
  have ne : D ≠ p2 := aJ hD1 hp2
  refine ⟨by rw [aC ne]; exact hD1, ?_, many ns.length - (i + 1), by omega, rfl, hlt, ?_, bW (sm.trans (az hp2 _)) hD _, ao⟩
  ·rw [List.length_map, List.length_map, List.length_range]
   unfold many at hlt
   exact small (by omega)
  ·rw [List.range_succ, List.map_append, List.map_append]
   rfl
 ·have e : i = many ns.length := by omega
  subst e
  exact .inl ⟨Nat.le_refl _, q D H1 hD sm hD1⟩
def vX (K : PySem.W.Frag) : Sp := fun vs H Q _ => ∃ (p : Addr) (bs : List Int), vs = [.ref p] ∧ SqL K H p (bs.map V.int) ∧ bs.length ≤ 4096 ∧ ∀ r H', H r = none → aR H H' → H' r = some (.tup ((dZ bs bs.length).map V.int)) → Q (.ref r) H'
theorem vq (T : Tx K mg a) : aU P w K mg base CX0 4 a.f_ahead_of a.fd_ahead_of ["blocks"] (vX K) := by
 refine T.D_ahead_of.F.ok jw (fun vs H Q E h => ?_) (fun cdv A outer s H vs Q E hr h => ?_)
 ·obtain ⟨p, bs, rfl, _⟩ := h
  rfl
 obtain ⟨p, bs, rfl, hS, hl, q⟩ := h
 refine ⟨_, (ak (aF (i := 1) jw.nd rfl (Or.inl rfl) (bZ (aa au aj)))
  (ak (bR PassesOwn.never rfl (dH (pv 0)) (aV (i := 2) jw.nd rfl (Or.inl rfl)) (aq (aY (jE PySem.F.plainAttrs_list PySem.F.slot_list_append PySem.F.type_list_append bY (pv 1) (aa (aB aZ (bc bL (pv 1) (qU kE au) (fun _ _ => rfl)) (aG T.D_ones_in (qR T) (by decide) hr aH rfl (aa (pv 2) (aa (bx (v := .int 32) rfl T.c_BLOCK_BITS ⟨_, rfl⟩) aj)))) aj)))))
  (aq (aD (jX j6 rfl T.b_tuple Tw.vC (aa (pv 1) aj)))))), ?_⟩
 refine ⟨(by show 1 ≤ sizeLine; decide), fun r hr' => ?_⟩
 refine ⟨_, rfl, p, rfl, ⟨_, (az hr' _).seq hS⟩, ?_⟩
 refine cZ (xs := bs.map V.int) (fun i σ H' => (∃ k, σ = [some (.ref p), some (.ref r), k]) ∧ aR H H' ∧ H' r = some (.lst ((dZ bs i).map V.int))) ?_ ?_ ?_ ?_
 ·exact ⟨⟨none, rfl⟩, az hr' _, ao⟩
 ·rintro i σ H' _ ⟨_, sm, _⟩
  exact sm.seq hS
 ·rintro i x σ H' hx ⟨⟨k, rfl⟩, sm, hr1⟩
  obtain ⟨b, hb, rfl⟩ := int_at hx
  have hi := (List.getElem?_eq_some_iff.mp hb).1
  have hla : atI ((dZ bs i).map V.int) (-1) = some (.int (gk bs i)) := by
   rw [uF, List.map_append]
   exact mK _ _
  refine ⟨_, rfl, .inl ⟨rfl, _, SqL.of hr1⟩, _, rfl, _, rfl, r, _, _, _, rfl, rfl, SqL.of hr1, hla, _, rfl, b, 32, rfl, by decide, by decide, fun H2 sm2 => ⟨_, _, rfl, rfl, r, _, _, rfl, rfl, sm2 _ _ hr1, ?_, ⟨_, rfl⟩, bW (sm.trans sm2) hr' _, ?_⟩⟩
  ·rw [List.length_map, rQ]
   exact small (by omega)
  ·rw [ao, uT, List.map_append, oG hb]
   rfl
 ·rintro σ H' ⟨⟨k, rfl⟩, sm, hr1⟩
  rw [List.length_map] at hr1
  exact ⟨_, rfl, r, _, rfl, .inl ⟨SqL.of hr1, fun l hl => q l _ (sm.free hl) (sm.trans (az hl _)) ao⟩⟩
def v7 : Sp := fun vs H Q _ => ∃ (b n : Int), vs = [.int b, .int n] ∧ 0 ≤ n ∧ n ≤ 32 ∧ ∀ r H', H r = none → aR H H' → H' r = some (.lst ((nets b n.toNat).map V.int)) → Q (.ref r) H'
theorem lA (T : Tx K mg a) : aU P w K mg base CX0 3 a.f_nets_of a.fd_nets_of ["block", "upto"] v7 := by
 refine T.D_nets_of.F.ok fL (fun vs H Q E h => ?_) (fun cdv A outer s H vs Q E hr h => ?_)
 ·obtain ⟨b, n, rfl, _⟩ := h
  rfl
 obtain ⟨b, n, rfl, h0, h1, q⟩ := h
 refine ⟨_, (ak (aF (i := 2) fL.nd rfl (Or.inl rfl) (bZ aj))
  (ak (aF (i := 3) fL.nd rfl (Or.inl rfl) au)
  (ak (bR PassesOwn.never rfl (dH (aG T.D_bits_of (kj T) (by decide) hr aH rfl (aa (pv 0) (aa (pv 1) aj)))) (aV (i := 4) fL.nd rfl (Or.inl rfl)) (ak (aF (i := 3) fL.nd rfl (Or.inl rfl) (aB bj (aB aZ (pv 3) (aB b7 au (pv 4))) au))
  (aq (aY (jE PySem.F.plainAttrs_list PySem.F.slot_list_append PySem.F.type_list_append bY (pv 2) (aa (pv 3) aj))))))
  (aq (aD (pv 2)))))), ?_⟩
 refine ⟨(by show 0 ≤ sizeLine; decide), fun r hr' => ?_⟩
 refine ⟨_, rfl, _, rfl, b, n, rfl, h0, h1, fun p hp => ⟨p, rfl, ⟨_, SqL.of ao⟩, ?_⟩⟩
 have ne : r ≠ p := aJ ao hp
 refine cZ (xs := (bits b n.toNat).map V.int) (fun i σ H' => (∃ k, σ = [some (.int b), some (.int n), some (.ref r), some (.int (net b i)), k]) ∧ aR H H' ∧ H' r = some (.lst ((nets b i).map V.int)) ∧ H' p = some (.lst ((bits b n.toNat).map V.int))) ?_ ?_ ?_ ?_
 ·refine ⟨⟨none, by rw [Ae]; rfl⟩, (az hr' _).trans (az hp _), ?_, ao⟩
  rw [aC ne, ao]
  rfl
 ·rintro i σ H' _ ⟨_, _, _, hp'⟩
  exact SqL.of hp'
 ·rintro i x σ H' hx ⟨⟨k, rfl⟩, sm, hr1, hp1⟩
  obtain ⟨c, hc, rfl⟩ := int_at hx
  have hi : i < n.toNat := by
   have := (List.getElem?_eq_some_iff.mp hc).1
   rw [dN] at this
   exact this
  have ec : c = bit b i := by
   rw [qZ hi] at hc
   exact (Option.some.inj hc).symm
  subst ec
  refine ⟨_, rfl, _, rfl, _, _, rfl, rfl, .inl ⟨by decide, by decide⟩, _, _, rfl, rfl, _, _, rfl, rfl, ?_⟩
  refine ⟨_, rfl, .inl ⟨rfl, _, SqL.of hr1⟩, _, rfl, r, _, _, rfl, rfl, hr1, ?_, ?_⟩
  ·rw [List.length_map, cT]
   exact small (by omega)
  ·refine ⟨⟨some (.int (bit b i)), by rw [uN]; rfl⟩, bW sm hr' _, ?_, ?_⟩
   ·rw [ao, zJ, uN, List.map_append]
    rfl
   ·rw [aC (Ne.symm ne)]
    exact hp1
 ·rintro σ H' ⟨⟨k, rfl⟩, sm, hr1, hp1⟩
  rw [List.length_map, dN] at hr1
  exact ⟨_, rfl, q r H' hr' sm hr1⟩
def zx : Sp := fun vs H Q _ => ∃ (b n : Int), vs = [.int b, .int n] ∧ 1 ≤ n ∧ n ≤ 32 ∧ ∀ M H', zY M (nets b n.toNat) → aR H H' → Q (.int M) H'
theorem yP (T : Tx K mg a) : aU P w K mg base CX0 4 a.f_low_in a.fd_low_in ["block", "upto"] zx := by
 refine T.D_low_in.F.ok zc (fun vs H Q E h => ?_) (fun cdv A outer s H vs Q E hr h => ?_)
 ·obtain ⟨b, n, rfl, _⟩ := h
  rfl
 obtain ⟨b, n, rfl, h0, h1, q⟩ := h
 refine ⟨_, (aq (aD (Ce rfl rfl T.b_min (aa (aG T.D_nets_of (lA T) (by decide) hr aH rfl (aa (pv 0) (aa (pv 1) aj))) aj) au Tw.xM))), ?_⟩
 refine ⟨_, rfl, _, rfl, b, n, rfl, by omega, h1, fun p H' hp sm h' => ⟨p, _, rfl, SqL.of h', ?_, fun M hM => q M H' hM sm⟩⟩
 rw [cT]
 omega
def pq : Sp := fun vs H Q _ => ∃ (b : Int) (st sp : Nat) (g : Int), vs = [.int b, .int (st : Int), .int (sp : Int), .int g] ∧ sp ≤ 32 ∧
 (∀ H' (k : Nat), aR H H' → Due b st sp g k → (∀ j, Due b st sp g j → k ≤ j) → Q (.int (k : Int)) H') ∧ ∀ H', aR H H' → (∀ k, ¬ Due b st sp g k) → Q .non H'
theorem o5 (T : Tx K mg a) : aU P w K mg base CX0 4 a.f_first_low_in a.fd_first_low_in ["block", "start", "stop", "goal"] pq := by
 refine T.D_first_low_in.F.ok eF (fun vs H Q E h => ?_) (fun cdv A outer s H vs Q E hr h => ?_)
 ·obtain ⟨b, st, sp, g, rfl, _⟩ := h
  rfl
 obtain ⟨b, st, sp, g, rfl, hsp, q1, q2⟩ := h
 refine ⟨_, (ak (bR PassesOwn.never rfl (u9 rfl T.b_enumerate (aa (aG T.D_nets_of (lA T) (by decide) hr aH rfl (aa (pv 0) (aa (pv 2) aj))) aj) au) (lq rfl (bK (aV (i := 4) eF.nd rfl (Or.inl rfl)) (bK (aV (i := 5) eF.nd rfl (Or.inl rfl)) iu))) (aq (aX (PW.pt (jz (aM ie (pv 4) (pv 1) (aO _)) (iJ (aM gZ (pv 5) (pv 3) (aO _))))) (aq (aD (pv 4))) aN)))
  (aq (aD cB))), ?_⟩
 refine ⟨_, rfl, _, rfl, b, (sp : Int), rfl, by omega, by omega, fun r H1 hr1 sm1 h1 => ?_⟩
 rw [Int.toNat_natCast] at h1
 refine ⟨r, _, rfl, rfl, SqL.of h1, ?_⟩
 refine sX (xs := (nets b sp).map V.int) (fun i σ H' => (∃ k n, σ = [some (.int b), some (.int (st : Int)), some (.int (sp : Int)), some (.int g), k, n]) ∧ aR H1 H' ∧ ∀ j, j ≤ i → ¬ Due b st sp g j) ?_ ?_ ?_ ?_
 ·exact ⟨⟨none, none, rfl⟩, aR.refl _, fun j hj d => by have := d.1; omega⟩
 ·rintro i σ H' _ ⟨_, sm, _⟩
  exact SqL.of (sm _ _ h1)
 ·rintro i x σ H' p hx ⟨⟨k, n, rfl⟩, sm, no⟩ hp
  obtain ⟨c, hc, rfl⟩ := int_at hx
  have hi : i < sp := by
   have := (List.getElem?_eq_some_iff.mp hc).1
   rw [cT] at this
   exact this
  have ec : c = net b (i + 1) := by
   rw [vG hi] at hc
   exact (Option.some.inj hc).symm
  subst ec
  have sm' : aR H1 (upd H' p (.tup [.int ((i + 1 : Nat) : Int), .int (net b (i + 1))])) := sm.trans (az hp _)
  have go : ¬ Due b st sp g (i + 1) → ∀ j, j ≤ i + 1 → ¬ Due b st sp g j := fun h j hj => by
   rcases Nat.lt_or_ge i j with l | l
   ·have : j = i + 1 := by omega
    subst this
    exact h
   ·exact no j l
  refine ⟨p, _, rfl, SqT.of ao, rfl, _, _, rfl, _, _, rfl, rfl, ?_⟩
  refine ⟨_, rfl, _, rfl, _, _, rfl, rfl, _, rfl, bI (fun c1 => ?_) fun c1 => ?_⟩
  ·have c1 := of_decide_eq_true c1
   refine ⟨_, rfl, _, rfl, _, _, rfl, rfl, _, rfl, bI (fun c2 => ?_) fun c2 => ?_⟩
   ·have c2 := of_decide_eq_true c2
    exact ⟨_, rfl, q1 _ (i + 1) (sm1.trans sm') ⟨by omega, by omega, c2⟩ fun j d => by
     rcases Nat.lt_or_ge i j with l | l
     ·exact l
     ·exact absurd d (no j l)⟩
   ·have c2 : ¬ net b (i + 1) ≤ g := fun z => c2 (decide_eq_true z)
    exact ⟨⟨_, _, rfl⟩, sm', go fun d => c2 d.2.2⟩
  ·have c1 : ¬ (st : Int) < ((i + 1 : Nat) : Int) := fun z => c1 (decide_eq_true z)
   exact cI ⟨⟨_, _, rfl⟩, sm', go fun d => by have := d.1; omega⟩
 ·rintro σ H' ⟨_, sm, no⟩
  refine q2 _ (sm1.trans sm) fun k d => no k ?_ d
  rw [List.length_map, cT]
  exact d.2.1
def pX : Sp := fun vs H Q _ => ∃ (b : Int) (st sp : Nat) (g : Int), vs = [.int b, .int (st : Int), .int (sp : Int), .int g] ∧ sp ≤ 32 ∧
 (∀ H' (k : Nat), aR H H' → Due b st sp g k → (∀ j, Due b st sp g j → j ≤ k) → Q (.int (k : Int)) H') ∧ ∀ H', aR H H' → (∀ k, ¬ Due b st sp g k) → Q .non H'
theorem p7 (T : Tx K mg a) : aU P w K mg base CX0 4 a.f_last_low_in a.fd_last_low_in ["block", "start", "stop", "goal"] pX := by
 refine T.D_last_low_in.F.ok cA (fun vs H Q E h => ?_) (fun cdv A outer s H vs Q E hr h => ?_)
 ·obtain ⟨b, st, sp, g, rfl, _⟩ := h
  rfl
 obtain ⟨b, st, sp, g, rfl, hsp, q1, q2⟩ := h
 refine ⟨_, (ak (aF (i := 4) cA.nd rfl (Or.inl rfl) cB)
  (ak (bR PassesOwn.never rfl (u9 rfl T.b_enumerate (aa (aG T.D_nets_of (lA T) (by decide) hr aH rfl (aa (pv 0) (aa (pv 2) aj))) aj) au) (lq rfl (bK (aV (i := 5) cA.nd rfl (Or.inl rfl)) (bK (aV (i := 6) cA.nd rfl (Or.inl rfl)) iu))) (aq (aX (PW.pt (jz (aM ie (pv 5) (pv 1) (aO _)) (iJ (aM gZ (pv 6) (pv 3) (aO _))))) (aq (aF (i := 4) cA.nd rfl (Or.inl rfl) (pv 5))) aN)))
  (aq (aD (pv 4))))), ?_⟩
 refine ⟨_, rfl, _, rfl, b, (sp : Int), rfl, by omega, by omega, fun r H1 hr1 sm1 h1 => ?_⟩
 rw [Int.toNat_natCast] at h1
 refine ⟨r, _, rfl, rfl, SqL.of h1, ?_⟩
 refine sX (xs := (nets b sp).map V.int) (fun i σ H' => ∃ f, (∃ k n, σ = [some (.int b), some (.int (st : Int)), some (.int (sp : Int)), some (.int g), some f, k, n]) ∧ aR H1 H' ∧
  ((f = .non ∧ ∀ j, j ≤ i → ¬ Due b st sp g j) ∨ ∃ k : Nat, f = .int (k : Int) ∧ k ≤ i ∧ Due b st sp g k ∧ ∀ j, j ≤ i → Due b st sp g j → j ≤ k)) ?_ ?_ ?_ ?_
 ·exact ⟨.non, ⟨none, none, rfl⟩, aR.refl _, .inl ⟨rfl, fun j hj d => by have := d.1; omega⟩⟩
 ·rintro i σ H' _ ⟨_, _, sm, _⟩
  exact SqL.of (sm _ _ h1)
 ·rintro i x σ H' p hx ⟨f, ⟨k, n, rfl⟩, sm, hf⟩ hp
  obtain ⟨c, hc, rfl⟩ := int_at hx
  have hi : i < sp := by
   have := (List.getElem?_eq_some_iff.mp hc).1
   rw [cT] at this
   exact this
  have ec : c = net b (i + 1) := by
   rw [vG hi] at hc
   exact (Option.some.inj hc).symm
  subst ec
  have sm' : aR H1 (upd H' p (.tup [.int ((i + 1 : Nat) : Int), .int (net b (i + 1))])) := sm.trans (az hp _)
  have old : ¬ Due b st sp g (i + 1) → (f = .non ∧ ∀ j, j ≤ i + 1 → ¬ Due b st sp g j) ∨ ∃ k : Nat, f = .int (k : Int) ∧ k ≤ i + 1 ∧ Due b st sp g k ∧ ∀ j, j ≤ i + 1 → Due b st sp g j → j ≤ k := fun h => by
   rcases hf with ⟨e, no⟩ | ⟨k, e, k1, d, mx⟩
   ·refine .inl ⟨e, fun j hj => ?_⟩
    rcases Nat.lt_or_ge i j with l | l
    ·have : j = i + 1 := by omega
     subst this
     exact h
    ·exact no j l
   ·refine .inr ⟨k, e, by omega, d, fun j hj dj => ?_⟩
    rcases Nat.lt_or_ge i j with l | l
    ·have : j = i + 1 := by omega
     subst this
     exact absurd dj h
    ·exact mx j l dj
  refine ⟨p, _, rfl, SqT.of ao, rfl, _, _, rfl, _, _, rfl, rfl, ?_⟩
  refine ⟨_, rfl, _, rfl, _, _, rfl, rfl, _, rfl, bI (fun c1 => ?_) fun c1 => ?_⟩
  ·have c1 := of_decide_eq_true c1
   refine ⟨_, rfl, _, rfl, _, _, rfl, rfl, _, rfl, bI (fun c2 => ?_) fun c2 => ?_⟩
   ·have c2 := of_decide_eq_true c2
    exact ⟨_, rfl, _, ⟨_, _, rfl⟩, sm', .inr ⟨i + 1, rfl, Nat.le_refl _, ⟨by omega, by omega, c2⟩, fun j hj _ => hj⟩⟩
   ·have c2 : ¬ net b (i + 1) ≤ g := fun z => c2 (decide_eq_true z)
    exact ⟨f, ⟨_, _, rfl⟩, sm', old fun d => c2 d.2.2⟩
  ·have c1 : ¬ (st : Int) < ((i + 1 : Nat) : Int) := fun z => c1 (decide_eq_true z)
   exact cI ⟨f, ⟨_, _, rfl⟩, sm', old fun d => by have := d.1; omega⟩
 ·rintro σ H' ⟨f, ⟨k, n, rfl⟩, sm, hf⟩
  rw [List.length_map, cT] at hf
  refine ⟨_, rfl, ?_⟩
  rcases hf with ⟨rfl, no⟩ | ⟨k, rfl, k1, d, mx⟩
  ·exact q2 _ (sm1.trans sm) fun k d => no k d.2.1 d
  ·exact q1 _ k (sm1.trans sm) d fun j dj => mx j dj.2.1 dj
def w6 : Sp := fun vs H Q _ => ∃ n : Nat, vs = [.int (n : Int)] ∧ n ≤ 100000 ∧ ∀ S, jb n S → Q (.int (S : Int)) H
theorem iB (T : Tx K mg a) : aU P w K mg base CX0 1 a.f_size_of a.fd_size_of ["many"] w6 := by
 refine T.D_size_of.F.ok kJ (fun vs H Q E h => ?_) (fun cdv A outer s H vs Q E hr h => ?_)
 ·obtain ⟨n, rfl, _⟩ := h
  rfl
 obtain ⟨n, rfl, hn, q⟩ := h
 refine ⟨_, (ak (aF (i := 1) kJ.nd rfl (Or.inl rfl) au)
  (ak (jL PassesOwn.never (aM j9 (pv 1) (pv 0) (aO _)) (aq (aF (i := 1) kJ.nd rfl (Or.inl rfl) (aB b7 au (pv 1)))))
  (aq (aD (pv 1))))), ?_⟩
 refine ⟨fun m σ H' => ∃ h : Nat, σ = [some (.int (n : Int)), some (.int ((2 ^ h : Nat) : Int))] ∧ H' = H ∧ m = n - 2 ^ h ∧ ∀ j, j < h → 2 ^ j < n, ⟨_, 0, rfl, rfl, rfl, fun j hj => absurd hj (Nat.not_lt_zero _)⟩, ?_⟩
 rintro m σ H' ⟨h, rfl, rfl, rfl, hj⟩
 refine ⟨_, rfl, _, rfl, _, _, rfl, rfl, _, rfl, bI (fun c => ?_) fun c => ?_⟩
 ·have c : ((2 ^ h : Nat) : Int) < (n : Int) := of_decide_eq_true c
  have hp : 0 < 2 ^ h := Nat.two_pow_pos h
  refine ⟨_, fun σ' H2 z => z, _, rfl, _, _, rfl, rfl, .inl ⟨by decide, by decide⟩, n - 2 ^ (h + 1), by rw [Nat.pow_succ]; omega, h + 1, ?_, rfl, rfl, fun j hj2 => ?_⟩
  ·have e : (2 : Int) * ((2 ^ h : Nat) : Int) = ((2 ^ (h + 1) : Nat) : Int) := by rw [Nat.pow_succ]; omega
   rw [← e]
   rfl
  ·rcases Nat.lt_or_ge j h with l | l
   ·exact hj j l
   ·have : j = h := by omega
    subst this
    omega
 ·have c : ¬ ((2 ^ h : Nat) : Int) < (n : Int) := fun z => c (decide_eq_true z)
  exact ⟨_, rfl, q (2 ^ h) ⟨h, rfl, by omega, hj⟩⟩
abbrev nats (l : List Nat) : List V := l.map fun n : Nat => V.int (n : Int)
def nQ : Sp := fun vs H Q _ => ∃ n st sp : Nat, vs = [.int (n : Int), .int (st : Int), .int (sp : Int)] ∧ st ≤ sp ∧ sp ≤ n ∧ Q .non H
theorem mW (T : Tx K mg a) : aU P w K mg base CX0 1 a.f_check_stretch a.fd_check_stretch ["many", "start", "stop"] nQ := by
 refine T.D_check_stretch.F.ok mQ (fun vs H Q E h => ?_) (fun cdv A outer s H vs Q E hr h => ?_)
 ·obtain ⟨n, st, sp, rfl, _⟩ := h
  rfl
 obtain ⟨n, st, sp, rfl, h1, h2, q⟩ := h
 refine ⟨_, (aq (aX (jr (zE gZ gZ gZ au (pv 1) (pv 2) (pv 0))) (aq cG) aN)), ?_⟩
 refine ⟨_, rfl, _, _, rfl, rfl, _, rfl, bI (fun _ => ?_) fun z => absurd (decide_eq_true (show (0 : Int) ≤ (st : Int) from by omega)) z⟩
 refine ⟨_, rfl, _, _, rfl, rfl, _, rfl, bI (fun _ => ?_) fun z => absurd (decide_eq_true (show (st : Int) ≤ (sp : Int) from by omega)) z⟩
 refine ⟨_, rfl, _, _, rfl, rfl, _, rfl, ?_⟩
 rw [decide_eq_true (show (sp : Int) ≤ (n : Int) from by omega)]
 exact cI q
def Aq : Sp := fun vs H Q _ => ∃ many st sp : Nat, vs = [.int (many : Int), .int (st : Int), .int (sp : Int)] ∧ st ≤ sp ∧ sp ≤ many ∧ many ≤ 4096 ∧ ∀ S r H', jb many S → H r = none → aR H H' → H' r = some (.lst (nats (cover S st sp))) → Q (.ref r) H'
theorem vO (T : Tx K mg a) : aU P w K mg base CX0 2 a.f_cover a.fd_cover ["many", "start", "stop"] Aq := by
 refine T.D_cover.F.ok cN (fun vs H Q E h => ?_) (fun cdv A outer s H vs Q E hr h => ?_)
 ·obtain ⟨n, st, sp, rfl, _⟩ := h
  rfl
 obtain ⟨n, st, sp, rfl, h1, h2, h3, q⟩ := h
 refine ⟨_, (ak (aY (aG T.D_check_stretch (mW T) (by decide) hr aH rfl (aa (pv 0) (aa (pv 1) (aa (pv 2) aj)))))
  (ak (aF (i := 3) cN.nd rfl (Or.inl rfl) (aG T.D_size_of (iB T) (by decide) hr aH rfl (aa (pv 0) aj)))
  (ak (aF (i := 4) cN.nd rfl (Or.inl rfl) (aB aZ (pv 3) (pv 1)))
  (ak (aF (i := 5) cN.nd rfl (Or.inl rfl) (aB aZ (pv 3) (pv 2)))
  (ak (aF (i := 6) cN.nd rfl (Or.inl rfl) (bZ aj))
  (ak (aF (i := 7) cN.nd rfl (Or.inl rfl) (bZ aj))
  (ak (jL PassesOwn.never (aM j9 (pv 4) (pv 5) (aO _)) (ak (aX (aM fO (aB cR (pv 4) au) au (aO _)) (ak (aY (jE PySem.F.plainAttrs_list PySem.F.slot_list_append PySem.F.type_list_append bY (pv 6) (aa (pv 4) aj)))
  (aq (aF (i := 4) cN.nd rfl (Or.inl rfl) (aB aZ (pv 4) au)))) aN)
  (ak (aX (aM fO (aB cR (pv 5) au) au (aO _)) (ak (aF (i := 5) cN.nd rfl (Or.inl rfl) (aB bj (pv 5) au))
  (aq (aY (jE PySem.F.plainAttrs_list PySem.F.slot_list_append PySem.F.type_list_append bY (pv 7) (aa (pv 5) aj))))) aN)
  (ak (aF (i := 4) cN.nd rfl (Or.inl rfl) (aB dG (pv 4) au))
  (aq (aF (i := 5) cN.nd rfl (Or.inl rfl) (aB dG (pv 5) au)))))))
  (aq (aD (aB kW (pv 6) (xG rfl rfl T.b_list Tw.uy rfl T.b_reversed Tw.jg (aa (pv 7) aj)))))))))))), ?_⟩
 refine ⟨_, rfl, _, rfl, _, rfl, n, st, sp, rfl, h1, h2, ?_⟩
 refine ⟨_, rfl, n, rfl, by omega, fun S hS => ?_⟩
 refine ⟨_, rfl, _, rfl, _, _, rfl, rfl, ?_⟩
 refine ⟨_, rfl, _, rfl, _, _, rfl, rfl, ?_⟩
 refine ⟨(by show 0 ≤ sizeLine; decide), fun lf hlf => ?_⟩
 refine ⟨(by show 0 ≤ sizeLine; decide), fun rg hrg => ?_⟩
 have nlr : lf ≠ rg := aJ ao hrg
 have hrg0 := (az hlf (.lst [])).free hrg
 have smA := (az hlf (.lst [])).trans (az hrg (.lst []))
 have hS4 := hS.le h3
 refine ⟨fun m σ H' => ∃ (low high f : Nat) (ls rs : List Nat), σ = [some (.int (n : Int)), some (.int (st : Int)), some (.int (sp : Int)), some (.int (S : Int)), some (.int (low : Int)), some (.int (high : Int)), some (.ref lf), some (.ref rg)] ∧ m = high - low ∧ aR H H' ∧ H' lf = some (.lst (nats ls)) ∧ H' rg = some (.lst (nats rs)) ∧ high - low ≤ f ∧ vK f low high ls rs = cover S st sp ∧ ls.length + rs.length + 2 * f ≤ 20000,
  ⟨_, S + st, S + sp, sp - st, [], [], rfl, rfl, smA, by rw [aC nlr, ao]; rfl, ao, by omega, rfl, by simp; omega⟩, ?_⟩
 rintro m σ H' ⟨low, high, f, ls, rs, rfl, rfl, sm, hl, hrr, hf, hw, hz⟩
 refine ⟨_, rfl, _, rfl, _, _, rfl, rfl, _, rfl, bI (fun c => ?_) fun c => ?_⟩
 ·have c : (low : Int) < (high : Int) := of_decide_eq_true c
  obtain ⟨f, rfl⟩ : ∃ g, f = g + 1 := ⟨f - 1, by omega⟩
  unfold vK at hw
  rw [if_pos (by omega)] at hw
  refine ⟨_, fun σ' H2 z => z, ?_⟩
  refine ⟨_, rfl, _, _, rfl, rfl, (by show (0 : Int) < 2; decide), rfl, _, rfl, ?_⟩
  refine yf (fun σ H2 => ∃ (ls2 : List Nat), σ = [some (.int (n : Int)), some (.int (st : Int)), some (.int (sp : Int)), some (.int (S : Int)), some (.int ((low + low % 2 : Nat) : Int)), some (.int (high : Int)), some (.ref lf), some (.ref rg)] ∧ ls2 = (if low % 2 = 1 then ls ++ [low] else ls) ∧ aR H H2 ∧ H2 lf = some (.lst (nats ls2)) ∧ H2 rg = some (.lst (nats rs))) (fun d => ?_) ?_ (fun d m => ?_)
  ·have d : ¬ (low : Int) % 2 = 1 := fun z => d (decide_eq_true (congrArg V.int z))
   refine ⟨ls, ?_, by rw [if_neg (by omega)], sm, hl, hrr⟩
   rw [show low + low % 2 = low from by omega]
  rotate_left
  ·have d : V.int ((low : Int) % 2) = V.int 1 := of_decide_eq_true d
   injection d with d
   refine ⟨_, rfl, .inl ⟨rfl, _, SqL.of hl⟩, _, rfl, lf, _, _, rfl, rfl, hl, ?_, ?_⟩
   ·rw [List.length_map, sizeLine_eq]
    omega
   refine ⟨_, rfl, _, _, rfl, rfl, m _ _ ⟨ls ++ [low], ?_, by rw [if_pos (by omega)], bW sm hlf _, ?_, ?_⟩⟩
   ·rw [show ((low + low % 2 : Nat) : Int) = (low : Int) + 1 from by omega]
    rfl
   ·rw [ao]
    unfold nats
    rw [List.map_append]
    rfl
   ·rw [aC nlr.symm]
    exact hrr
  rintro σ2 H2 ⟨ls2, rfl, e2, sm2, hl2, hr2⟩
  refine ⟨_, rfl, _, _, rfl, rfl, (by show (0 : Int) < 2; decide), rfl, _, rfl, ?_⟩
  refine yf (fun σ H3 => ∃ (rs2 : List Nat), σ = [some (.int (n : Int)), some (.int (st : Int)), some (.int (sp : Int)), some (.int (S : Int)), some (.int ((low + low % 2 : Nat) : Int)), some (.int ((high - high % 2 : Nat) : Int)), some (.ref lf), some (.ref rg)] ∧ rs2 = (if high % 2 = 1 then rs ++ [high - 1] else rs) ∧ aR H H3 ∧ H3 lf = some (.lst (nats ls2)) ∧ H3 rg = some (.lst (nats rs2))) (fun d => ?_) ?_ (fun d m => ?_)
  ·have d : ¬ (high : Int) % 2 = 1 := fun z => d (decide_eq_true (congrArg V.int z))
   refine ⟨rs, ?_, by rw [if_neg (by omega)], sm2, hl2, hr2⟩
   rw [show high - high % 2 = high from by omega]
  rotate_left
  ·have d : V.int ((high : Int) % 2) = V.int 1 := of_decide_eq_true d
   injection d with d
   refine ⟨_, rfl, _, _, rfl, rfl, ?_⟩
   refine ⟨_, rfl, .inl ⟨rfl, _, SqL.of hr2⟩, _, rfl, rg, _, _, rfl, rfl, hr2, ?_, m _ _ ⟨rs ++ [high - 1], ?_, by rw [if_pos (by omega)], bW sm2 hrg0 _, ?_, ?_⟩⟩
   ·rw [List.length_map, sizeLine_eq]
    omega
   ·rw [show ((high - high % 2 : Nat) : Int) = (high : Int) - 1 from by omega]
    rfl
   ·rw [aC nlr]
    exact hl2
   ·rw [ao]
    unfold nats
    rw [List.map_append]
    exact congrArg (fun v => some (HO.lst (rs.map (fun n : Nat => V.int (n : Int)) ++ [v]))) (congrArg V.int (show (high : Int) - 1 = ((high - 1 : Nat) : Int) from by omega))
  rintro σ3 H3 ⟨rs2, rfl, e3, sm3, hl3, hr3⟩
  rw [← e2, ← e3] at hw
  have z2 : ls2.length ≤ ls.length + 1 := by
   rw [e2]
   split <;> simp
  have z3 : rs2.length ≤ rs.length + 1 := by
   rw [e3]
   split <;> simp
  refine ⟨_, rfl, _, _, rfl, rfl, ⟨by decide, by decide⟩, ?_⟩
  refine ⟨_, rfl, _, _, rfl, rfl, ⟨by decide, by decide⟩, (high - high % 2) / 2 - (low + low % 2) / 2, by omega, (low + low % 2) / 2, (high - high % 2) / 2, f, ls2, rs2, ?_, rfl, sm3, hl3, hr3, by omega, hw, by omega⟩
  rw [show (((low + low % 2) / 2 : Nat) : Int) = ((low + low % 2 : Nat) : Int) / 2 from by omega, show (((high - high % 2) / 2 : Nat) : Int) = ((high - high % 2 : Nat) : Int) / 2 from by omega]
  rfl
 ·have c : ¬ (low : Int) < (high : Int) := fun z => c (decide_eq_true z)
  rw [Bw (by omega)] at hw
  refine ⟨_, rfl, _, rfl, rg, _, rfl, SqL.of hrr, fun l hl2 => ?_⟩
  have s2 := az hl2 (.lst (nats rs).reverse)
  refine ⟨lf, l, _, _, rfl, rfl, s2 _ _ hl, ao, ?_, fun r hr2 => ?_⟩
  ·rw [List.length_reverse, List.length_map, List.length_map, sizeLine_eq]
   omega
  refine q S r _ hS ((sm.trans s2).free hr2) (sm.trans (s2.trans (az hr2 _))) ?_
  rw [ao, ← hw]
  unfold nats
  rw [List.map_append, List.map_reverse]
def yS : Sp := fun vs H Q _ => ∃ x y : V, vs = [x, y] ∧ NI x ∧ NI y ∧ Q (sH x y) H
theorem uq (T : Tx K mg a) : aU P w K mg base CX0 1 a.f_lesser_of a.fd_lesser_of ["one", "other"] yS := by
 refine T.D_lesser_of.F.ok uw (fun vs H Q E h => ?_) (fun cdv A outer s H vs Q E hr h => ?_)
 ·obtain ⟨x, y, rfl, _⟩ := h
  rfl
 obtain ⟨x, y, rfl, hx, hy, q⟩ := h
 refine ⟨_, (ak (aX (gK (iy (pv 0))) (aq (aD (pv 1))) aN)
  (ak (aX (gK (iy (pv 1))) (aq (aD (pv 0))) aN)
  (aq (aD (aQ (sr rfl) rfl T.b_min Tw.xM (aa (pv 0) (aa (pv 1) aj))))))), ?_⟩
 rcases hx with rfl | ⟨i, rfl⟩
 ·rw [sZ] at q
  exact ⟨_, rfl, _, rfl, fu ⟨_, rfl, q⟩⟩
 refine ⟨_, rfl, _, rfl, cI ?_⟩
 rcases hy with rfl | ⟨j, rfl⟩
 ·exact ⟨_, rfl, _, rfl, fu ⟨_, rfl, q⟩⟩
 exact ⟨_, rfl, _, rfl, cI ⟨_, rfl, _, rfl, i, j, rfl, q⟩⟩
def xV (K : PySem.W.Frag) : Sp := fun vs H Q E => ∃ (p : Addr) (ns : List Int), vs = [.ref p] ∧ SqL K H p (ns.map V.int) ∧
 ns.length ≤ 4096 ∧ ∀ S r H' xs, jb ns.length S → H r = none → aR H H' → H' r = some (.lst xs) → fZ ns S 1 xs → Q (.ref r) H'
theorem wj (T : Tx K mg a) : aU P w K mg base CX0 2 a.f_heap_of a.fd_heap_of ["numbers"] (xV K) := by
 refine T.D_heap_of.F.ok iH (fun vs H Q E h => ?_) (fun cdv A outer s H vs Q E hr h => ?_)
 ·obtain ⟨p, ns, rfl, _⟩ := h
  rfl
 obtain ⟨p, ns, rfl, hS, hl, q⟩ := h
 refine ⟨_, (ak (aX (aM ie (aQ aL rfl T.b_len Tw.bH (aa (pv 0) aj)) (bx (v := .int 4096) rfl T.c_MOST_NUMBERS ⟨_, rfl⟩) (aO _)) (aq cG) aN)
  (ak (aF (i := 1) iH.nd rfl (Or.inl rfl) (aG T.D_size_of (iB T) (by decide) hr aH rfl (aa (aQ aL rfl T.b_len Tw.bH (aa (pv 0) aj)) aj)))
  (ak (aF (i := 2) iH.nd rfl (Or.inl rfl) (aB kW (aB kW (aB qg (bZ (aa cB aj)) (pv 1)) (jX mJ rfl T.b_list Tw.uy (aa (pv 0) aj))) (aB qg (bZ (aa cB aj)) (aB bj (pv 1) (aQ aL rfl T.b_len Tw.bH (aa (pv 0) aj))))))
  (ak (bR PassesOwn.never rfl (wZ rfl T.b_range (aa (aB bj (pv 1) au) (aa au (aa (qU kE au) aj)))) (aV (i := 3) iH.nd rfl (Or.inl rfl)) (aq (zU (aG T.D_lesser_of (uq T) (by decide) hr aH rfl (aa (bc bL (pv 2) (aB b7 au (pv 3)) (fun _ _ => rfl)) (aa (bc bL (pv 2) (aB aZ (aB b7 au (pv 3)) au) (fun _ _ => rfl)) aj))) (Ez (pv 2) (pv 3) set_list))))
  (aq (aD (pv 2))))))), ?_⟩
 have ern : (ns.map V.int).length = ns.length := List.length_map ..
 refine ⟨_, rfl, p, _, rfl, .inl hS, _, _, rfl, rfl, _, rfl, bI (fun z => ?_) fun _ => ?_⟩
 ·have z : (4096 : Int) < ((ns.map V.int).length : Int) := of_decide_eq_true z
  omega
 refine ⟨_, rfl, p, _, rfl, .inl hS, ns.length, ?_, by omega, fun S hSz => ?_⟩
 ·rw [ern]
  rfl
 have hS0 := hSz.pos
 have hS4 := hSz.le hl
 have hlS : ns.length ≤ S := by
  obtain ⟨_, _, z, _⟩ := hSz
  exact z
 refine yc (t := Dj (tC .non) GF) (σ := [some (.ref p), some (.int (S : Int)), none, none]) (i := 1) (k := (S : Int)) (xs := [.non]) (fun Q' q => q) rfl (by omega) (by decide) (by omega) fun p1 H1 hp1 s1 x1 => ?_
 refine ⟨_, rfl, p, _, rfl, .inl (s1.seq hS), fun l2 hl2 => ?_⟩
 have s2 := az hl2 (.lst (ns.map V.int))
 have e1 : (List.replicate (S : Int).toNat [V.non]).flatten = List.replicate S V.non := by
  rw [Int.toNat_natCast]
  simp
 rw [e1] at x1
 refine ⟨p1, l2, _, _, rfl, rfl, s2 _ _ x1, ao, ?_, fun p3 hp3 => ?_⟩
 ·rw [ern, List.length_replicate, sizeLine_eq]
  omega
 have s3 := az hp3 (.lst (List.replicate S V.non ++ ns.map V.int))
 refine ⟨(by show 1 ≤ sizeLine; decide), fun l4 hl4 => ?_⟩
 have s4 := az hl4 (.lst [.non])
 have s14 := s1.trans (s2.trans (s3.trans s4))
 refine ⟨_, rfl, _, rfl, p, _, rfl, .inl (s14.seq hS), _, _, rfl, rfl, l4, ((S - ns.length : Nat) : Int), [.non], rfl, ?_, ao, by omega, by omega, ?_, fun p5 hp5 => ?_⟩
 ·show V.int ((S : Int) - ((ns.map V.int).length : Int)) = _
  rw [ern]
  exact congrArg V.int (by omega)
 ·rw [sizeLine_eq]
  show 1 * _ ≤ _
  omega
 have e5 : (List.replicate ((S - ns.length : Nat) : Int).toNat [V.non]).flatten = List.replicate (S - ns.length) V.non := by
  rw [Int.toNat_natCast]
  simp
 rw [e5]
 have s5 := az hp5 (.lst (List.replicate (S - ns.length) V.non))
 refine ⟨p3, p5, _, _, rfl, rfl, s5 _ _ (s4 _ _ ao), ao, ?_, fun r hr' => ?_⟩
 ·rw [List.length_append, ern, List.length_replicate, List.length_replicate, sizeLine_eq]
  omega
 have s15 := s14.trans s5
 have hr0 := s15.free hr'
 have s6 := s15.trans (az hr' (.lst (List.replicate S V.non ++ ns.map V.int ++ List.replicate (S - ns.length) V.non)))
 refine ⟨_, rfl, _, _, rfl, rfl, _, rfl, S - 1, 0, ?_, by omega, by omega, ?_⟩
 ·rw [show ((S - 1 : Nat) : Int) = (S : Int) - 1 from by omega]
  rfl
 refine Bx (n := S - 1 - 0) (fun i σ H' => (∃ k3, σ = [some (.ref p), some (.int (S : Int)), some (.ref r), k3]) ∧ aR H H' ∧ ∃ xs, H' r = some (.lst xs) ∧ fZ ns S (S - i) xs) ⟨⟨none, rfl⟩, s6, _, ao, fZ.start hS0 hlS⟩ ?_ ?_
 ·rintro i σ H' hi ⟨⟨k3, rfl⟩, sm, xs, hr1, hv⟩
  obtain ⟨k, rfl⟩ : ∃ k, S = k + i + 1 := ⟨S - i - 1, by omega⟩
  have ek : ((k + i + 1 - 1 : Nat) : Int) + (i : Int) * (-1) = (k : Int) := by omega
  rw [show k + i + 1 - i = k + 1 from by omega] at hv
  have hlen := hv.len
  have hx : xs[2 * k]? = some xs[2 * k] := List.getElem?_eq_getElem (by omega)
  have hy : xs[2 * k + 1]? = some xs[2 * k + 1] := List.getElem?_eq_getElem (by omega)
  have ha : atI xs (2 * (((k + i + 1 - 1 : Nat) : Int) + (i : Int) * (-1))) = some xs[2 * k] := by
   rw [ek, show 2 * (k : Int) = ((2 * k : Nat) : Int) from by omega]
   exact mD hx
  have hb : atI xs (2 * (((k + i + 1 - 1 : Nat) : Int) + (i : Int) * (-1)) + 1) = some xs[2 * k + 1] := by
   rw [ek, show 2 * (k : Int) + 1 = ((2 * k + 1 : Nat) : Int) from by omega]
   exact mD hy
  have hix : ixN xs.length (((k + i + 1 - 1 : Nat) : Int) + (i : Int) * (-1)) = some k := by
   rw [ek]
   exact CQ (by omega)
  refine ⟨_, rfl, _, rfl, _, _, rfl, rfl, .inl ⟨by decide, by decide⟩, r, _, _, _, rfl, rfl, SqL.of hr1, ha, ?_⟩
  refine ⟨_, rfl, _, rfl, _, _, rfl, rfl, .inl ⟨by decide, by decide⟩, _, _, rfl, rfl, r, _, _, _, rfl, rfl, SqL.of hr1, hb, ?_⟩
  refine ⟨_, _, rfl, hv.ni _ (List.getElem_mem _), hv.ni _ (List.getElem_mem _), ?_⟩
  refine ⟨_, rfl, _, rfl, r, _, _, k, rfl, rfl, hr1, hix, ⟨_, rfl⟩, bW sm hr0 _, _, ao, ?_⟩
  rw [show k + i + 1 - (i + 1) = k from by omega]
  exact hv.step (by omega) (by omega) hx hy
 ·rintro σ H' ⟨⟨k3, rfl⟩, sm, xs, hr1, hv⟩
  rw [show S - (S - 1 - 0) = 1 from by omega] at hv
  exact ⟨_, rfl, q S r H' xs hSz hr0 sm hr1 hv⟩
def xF (K : PySem.W.Frag) : Sp := fun vs H Q _ => ∃ (p : Addr) (ns : List Int), vs = [.ref p] ∧ SqL K H p (ns.map V.int) ∧ ∀ b H', (b = true ↔ Tree ns) → aR H H' → Q (.bl b) H'
theorem xn (T : Tx K mg a) : aU P w K mg base CX0 1 a.f_is_tree a.fd_is_tree ["bits"] (xF K) := by
 refine T.D_is_tree.F.ok fW (fun vs H Q E h => ?_) (fun cdv A outer s H vs Q E hr h => ?_)
 ·obtain ⟨p, ns, rfl, _⟩ := h
  rfl
 obtain ⟨p, ns, rfl, hS, q⟩ := h
 refine ⟨_, (ak (aF (i := 1) fW.nd rfl (Or.inl rfl) au)
  (ak (bR PassesOwn.never rfl (tR rfl T.b_enumerate (aa (pv 0) aj)) (lq rfl (bK (aV (i := 2) fW.nd rfl (Or.inl rfl)) (bK (aV (i := 3) fW.nd rfl (Or.inl rfl)) iu))) (ak (aX (PW.pt (jz (aM ie (pv 2) au (aO _)) (iJ (aM gZ (pv 1) au (aO _))))) (aq (aD p6)) aN)
  (aq (aF (i := 1) fW.nd rfl (Or.inl rfl) (aB bj (aB aZ (pv 1) (aB b7 au (pv 3))) au)))))
  (aq (aD (v6 (pO vR (aQ aL rfl T.b_len Tw.bH (aa (pv 0) aj)) au (aO _)) (wO (pO fO (pv 1) au (aO _)))))))), ?_⟩
 refine ⟨_, rfl, p, _, rfl, hS, ?_⟩
 refine u0 (xs := ns.map V.int) (fun i σ H' => (∃ k2 k3, σ = [some (.ref p), some (.int (ht ns i)), k2, k3]) ∧ aR H H' ∧ ∀ k, 0 < k → k < i → 0 < ht ns k) ⟨⟨none, none, by rw [eU]; rfl⟩, aR.refl _, fun k _ h => absurd h (Nat.not_lt_zero _)⟩ ?_ ?_ ?_
 ·rintro i σ H' _ ⟨_, sm, _⟩
  exact sm.seq hS
 ·rintro i x σ H' pt hx ⟨⟨k2, k3, rfl⟩, sm, up⟩ hpt
  obtain ⟨b, hb, rfl⟩ := int_at hx
  have hi := (List.getElem?_eq_some_iff.mp hb).1
  have sm' := sm.trans (az hpt (.tup [.int (i : Int), .int b]))
  refine ⟨pt, _, rfl, SqT.of ao, rfl, _, _, rfl, _, _, rfl, rfl, ?_⟩
  have go : (0 < i → 0 < ht ns i) → (∃ k2 k3, [some (V.ref p), some (.int (ht ns i + 2 * b - 1)), some (.int (i : Int)), some (.int b)] = [some (.ref p), some (.int (ht ns (i + 1))), k2, k3]) ∧ aR H (upd H' pt (.tup [.int (i : Int), .int b])) ∧ ∀ k, 0 < k → k < i + 1 → 0 < ht ns k := fun h =>
   ⟨⟨_, _, by rw [cJ hb]⟩, sm', fun k k0 k1 => by
    rcases Nat.lt_or_ge k i with l | l
    ·exact up k k0 l
    ·have : k = i := by omega
     subst this
     exact h k0⟩
  refine ⟨_, rfl, _, _, rfl, rfl, _, rfl, bI (fun c1 => ?_) fun c1 => ?_⟩
  ·have c1 : (0 : Int) < (i : Int) := of_decide_eq_true c1
   refine ⟨_, rfl, _, _, rfl, rfl, _, rfl, bI (fun c2 => ?_) fun c2 => ?_⟩
   ·have c2 : ht ns i ≤ 0 := of_decide_eq_true c2
    exact q false _ ⟨fun z => absurd z Bool.false_ne_true, fun t => by have := t.2.2 i (by omega) hi; omega⟩ sm'
   ·have c2 : ¬ ht ns i ≤ 0 := fun z => c2 (decide_eq_true z)
    exact ⟨_, rfl, _, rfl, _, _, rfl, rfl, .inl ⟨by decide, by decide⟩, _, _, rfl, rfl, _, _, rfl, rfl, go fun _ => by omega⟩
  ·have c1 : ¬ (0 : Int) < (i : Int) := fun z => c1 (decide_eq_true z)
   refine cI ?_
   exact ⟨_, rfl, _, rfl, _, _, rfl, rfl, .inl ⟨by decide, by decide⟩, _, _, rfl, rfl, _, _, rfl, rfl, go fun z => by omega⟩
 ·rintro σ H' ⟨⟨k2, k3, rfl⟩, sm, up⟩
  rw [List.length_map] at up ⊢
  refine ⟨_, rfl, p, _, rfl, .inl (sm.seq hS), _, _, rfl, rfl, _, rfl, bI (fun c1 => ?_) fun c1 => ?_⟩
  ·have c1 : (2 : Int) ≤ ((ns.map V.int).length : Int) := of_decide_eq_true c1
   rw [List.length_map] at c1
   refine ⟨_, rfl, rfl, ?_⟩
   refine q _ H' ?_ sm
   rw [decide_eq_true_iff]
   exact ⟨fun z => ⟨by omega, V.int.inj z, up⟩, fun t => congrArg V.int t.2.1⟩
  ·have c1 : ¬ (2 : Int) ≤ ((ns.map V.int).length : Int) := fun z => c1 (decide_eq_true z)
   rw [List.length_map] at c1
   exact q false H' ⟨fun z => absurd z Bool.false_ne_true, fun t => by have := t.1; omega⟩ sm
structure Tab (H : Hp) (t ah : Addr) (ns : List Int) (rest : List V) : Prop where
 tup : H t = some (.tup (.int (ns.length : Int) :: .ref ah :: rest))
 ahs : H ah = some (.tup ((ahd ns (many ns.length)).map V.int))
 few : rest.length ≤ 1
theorem Tab.same {H H' : Hp} {t ah : Addr} {ns : List Int} {rest : List V} (h : Tab H t ah ns rest) (s : aR H H') : Tab H' t ah ns rest := ⟨s _ _ h.tup, s _ _ h.ahs, h.few⟩
theorem jT (x y : V) : ∀ rest : List V, rest.length ≤ 1 → atI (x :: y :: rest) 0 = some x
 | [], _ => rfl
 | [_], _ => rfl
 | _ :: _ :: _, h => absurd h (by simp)
theorem lY (x y : V) : ∀ rest : List V, rest.length ≤ 1 → atI (x :: y :: rest) 1 = some y
 | [], _ => rfl
 | [_], _ => rfl
 | _ :: _ :: _, h => absurd h (by simp)
theorem Ao {ns : List Int} {n j : Nat} (h : j ≤ n) : atI ((ahd ns n).map V.int) (j : Int) = some (.int (ns.take (32 * j)).sum) := jW (jQ h)
def vH (K : PySem.W.Frag) : Sp := fun vs H Q _ => ∃ (p : Addr) (ns : List Int), vs = [.ref p] ∧ SqL K H p (ns.map V.int) ∧ ns.length ≤ 4096 ∧ aP ns ∧
 ∀ r b t ah H', H b = none → aR H H' → H' r = some (.tup [.ref t, .ref b]) → Tab H' t ah ns [] → H' b = some (.lst ((cW ns).map V.int)) → Q (.ref r) H'
theorem vD (T : Tx K mg a) : aU P w K mg base CX0 5 a.f_kept_row a.fd_kept_row ["bits"] (vH K) := by
 refine T.D_kept_row.F.ok oX (fun vs H Q E h => ?_) (fun cdv A outer s H vs Q E hr h => ?_)
 ·obtain ⟨p, ns, rfl, _⟩ := h
  rfl
 obtain ⟨p, ns, rfl, hS, hl, hb, q⟩ := h
 refine ⟨_, (ak (aF (i := 1) oX.nd rfl (Or.inl rfl) (aG T.D_packed (zj T) (by decide) hr aH rfl (aa (pv 0) aj)))
  (aq (aD (t7 (aa (t7 (aa (aQ aL rfl T.b_len Tw.bH (aa (pv 0) aj)) (aa (aG T.D_ahead_of (vq T) (by decide) hr aH rfl (aa (pv 1) aj)) aj))) (aa (pv 1) aj)))))), ?_⟩
 refine ⟨_, rfl, p, ns, rfl, hS, hl, hb, fun b H1 hb0 sm1 h1 => ?_⟩
 refine ⟨_, rfl, p, _, rfl, .inl (sm1.seq hS), _, rfl, b, cW ns, rfl, SqL.of h1, ?_, fun ah H2 hah sm2 h2 => ?_⟩
 ·rw [eX]
  unfold many
  omega
 rw [ul hb] at h2
 have ern : (ns.map V.int).length = ns.length := List.length_map ..
 rw [ern]
 refine ⟨(by show 2 ≤ sizeLine; decide), fun t ht => ⟨_, rfl, (by show 2 ≤ sizeLine; decide), fun r hr' => ?_⟩⟩
 have s3 := az ht (.tup [.int (ns.length : Int), .ref ah])
 have s4 := az hr' (.tup [.ref t, .ref b])
 exact q r b t ah _ hb0 (sm1.trans (sm2.trans (s3.trans s4))) ao ⟨s4 _ _ ao, s4 _ _ (s3 _ _ h2), by decide⟩ (s4 _ _ (s3 _ _ (sm2 _ _ h1)))
def lF (K : PySem.W.Frag) : Sp := fun vs H Q _ => ∃ (p : Addr) (ns : List Int), vs = [.ref p] ∧ SqL K H p (ns.map V.int) ∧ ns.length ≤ 4096 ∧ aP ns ∧ Tree ns ∧ ∀ H', aR H H' → Q .non H'
theorem mj (T : Tx K mg a) : aU P w K mg base CX0 2 a.f_check_brackets a.fd_check_brackets ["bits"] (lF K) := by
 refine T.D_check_brackets.F.ok mH (fun vs H Q E h => ?_) (fun cdv A outer s H vs Q E hr h => ?_)
 ·obtain ⟨p, ns, rfl, _⟩ := h
  rfl
 obtain ⟨p, ns, rfl, hS, hl, hb, ht, q⟩ := h
 refine ⟨_, (ak (aY (aG T.D_check_row (lX T) (by decide) hr aH rfl (aa (pv 0) aj)))
  (aq (aX (jr (nG (aG T.D_is_tree (xn T) (by decide) hr aH rfl (aa (pv 0) aj)))) (aq cG) aN))), ?_⟩
 refine ⟨_, rfl, p, ns, rfl, hS, hl, hb, ?_⟩
 refine ⟨_, rfl, p, ns, rfl, hS, fun b H' hbt sm => ?_⟩
 have : b = true := hbt.mpr ht
 subst this
 exact ⟨true, rfl, cI (q H' sm)⟩
def xf : Sp := fun vs H Q _ => ∃ (t ah : Addr) (ns : List Int) (rest : List V) (j : Nat), vs = [.ref t, .int (j : Int)] ∧ Tab H t ah ns rest ∧ j ≤ many ns.length ∧ Q (.int (ht ns (32 * j))) H
theorem lr (T : Tx K mg a) : aU P w K mg base CX0 1 a.f_base_of a.fd_base_of ["tables", "number"] xf := by
 refine T.D_base_of.F.ok wY (fun vs H Q E h => ?_) (fun cdv A outer s H vs Q E hr h => ?_)
 ·obtain ⟨t, ah, ns, rest, j, rfl, _⟩ := h
  rfl
 obtain ⟨t, ah, ns, rest, j, rfl, hT, hj, q⟩ := h
 refine ⟨_, (aq (aD (aB bj (aB b7 au (bc bB (bc bB (pv 0) au (fun _ _ => rfl)) (pv 1) (fun _ _ => rfl))) (aB b7 (bx (v := .int 32) rfl T.c_BLOCK_BITS ⟨_, rfl⟩) (pv 1))))), ?_⟩
 refine ⟨_, rfl, t, _, _, _, rfl, rfl, SqT.of hT.tup, lY _ _ _ hT.few, _, rfl, ah, _, _, _, rfl, rfl, SqT.of hT.ahs, Ao hj, _, _, rfl, rfl, .inl ⟨by decide, by decide⟩, _, rfl, _, _, rfl, rfl, .inl ⟨by decide, by decide⟩, _, _, rfl, rfl, ?_⟩
 unfold ht at q
 rw [show ((32 * j : Nat) : Int) = 32 * (j : Int) from by omega] at q
 exact q
def rC : Sp := fun vs H Q _ => ∃ (j n : Nat), vs = [.int (j : Int), .int (n : Int)] ∧ 32 * j ≤ n ∧ Q (.int (wide n j : Nat)) H
theorem gB (T : Tx K mg a) : aU P w K mg base CX0 1 a.f_end_within a.fd_end_within ["number", "upto"] rC := by
 refine T.D_end_within.F.ok rG (fun vs H Q E h => ?_) (fun cdv A outer s H vs Q E hr h => ?_)
 ·obtain ⟨j, n, rfl, _⟩ := h
  rfl
 obtain ⟨j, n, rfl, hj, q⟩ := h
 refine ⟨_, (aq (aD (aQ (sr rfl) rfl T.b_min Tw.xM (aa (aB bj (pv 1) (aB b7 (bx (v := .int 32) rfl T.c_BLOCK_BITS ⟨_, rfl⟩) (pv 0))) (aa (bx (v := .int 32) rfl T.c_BLOCK_BITS ⟨_, rfl⟩) aj))))), ?_⟩
 refine ⟨_, rfl, _, rfl, _, _, rfl, rfl, .inl ⟨by decide, by decide⟩, _, _, rfl, rfl, _, _, rfl, ?_⟩
 have e : (if (32 : Int) < (n : Int) - 32 * (j : Int) then (32 : Int) else (n : Int) - 32 * (j : Int)) = ((wide n j : Nat) : Int) := by
  unfold wide
  split <;> omega
 rw [← e] at q
 exact q
def yK : Sp := fun vs H Q _ => ∃ (t ah : Addr) (ns : List Int) (rest : List V) (j : Nat), vs = [.ref t, .int (j : Int), .int (bA ns j)] ∧ Tab H t ah ns rest ∧ aP ns ∧ 32 * j < ns.length ∧ ∀ m H', sJ ns j m → aR H H' → Q (.int m) H'
theorem zF (T : Tx K mg a) : aU P w K mg base CX0 5 a.f_low_of a.fd_low_of ["tables", "number", "block"] yK := by
 refine T.D_low_of.F.ok yG (fun vs H Q E h => ?_) (fun cdv A outer s H vs Q E hr h => ?_)
 ·obtain ⟨t, ah, ns, rest, j, rfl, _⟩ := h
  rfl
 obtain ⟨t, ah, ns, rest, j, rfl, hT, hb, hj, q⟩ := h
 refine ⟨_, (aq (aD (aB aZ (aG T.D_base_of (lr T) (by decide) hr aH rfl (aa (pv 0) (aa (pv 1) aj))) (aG T.D_low_in (yP T) (by decide) hr aH rfl (aa (pv 2) (aa (aG T.D_end_within (gB T) (by decide) hr aH rfl (aa (pv 1) (aa (bc bB (pv 0) au (fun _ _ => rfl)) aj))) aj)))))), ?_⟩
 have hm : j ≤ many ns.length := by
  unfold many
  omega
 have hw : 1 ≤ wide ns.length j ∧ wide ns.length j ≤ 32 := by
  unfold wide
  omega
 refine ⟨_, rfl, _, rfl, t, ah, ns, rest, j, rfl, hT, hm, ?_⟩
 refine ⟨_, rfl, _, rfl, _, rfl, t, _, _, _, rfl, rfl, SqT.of hT.tup, jT _ _ _ hT.few, j, ns.length, rfl, by omega, ?_⟩
 refine ⟨bA ns j, ((wide ns.length j : Nat) : Int), rfl, by omega, by omega, fun M H' hM sm => ⟨_, _, rfl, rfl, ?_⟩⟩
 rw [Int.toNat_natCast] at hM
 exact q _ H' (sJ.of hb hM.1 hM.2) sm
structure KB (H : Hp) (t ah nd bl : Addr) (ns lows : List Int) (S : Nat) (xs : List V) : Prop where
 tab : Tab H t ah ns [.ref nd]
 nds : H nd = some (.tup xs)
 bls : H bl = some (.lst ((cW ns).map V.int))
 low : xq ns lows
 sz : jb lows.length S
 heap : fZ lows S 1 xs
def mV (K : PySem.W.Frag) : Sp := fun vs H Q _ => ∃ (p : Addr) (ns : List Int), vs = [.ref p] ∧ SqL K H p (ns.map V.int) ∧ ns.length ≤ 4096 ∧ aP ns ∧ Tree ns ∧
 ∀ r t ah nd bl lows S xs H', H bl = none → H r = none → H t = none → aR H H' → H' r = some (.tup [.ref t, .ref bl]) → KB H' t ah nd bl ns lows S xs → Q (.ref r) H'
theorem nH (T : Tx K mg a) : aU P w K mg base CX0 6 a.f_kept_brackets a.fd_kept_brackets ["bits"] (mV K) := by
 refine T.D_kept_brackets.F.ok bV (fun vs H Q E h => ?_) (fun cdv A outer s H vs Q E hr h => ?_)
 ·obtain ⟨p, ns, rfl, _⟩ := h
  rfl
 obtain ⟨p, ns, rfl, hS, hl, hb, ht, q⟩ := h
 refine ⟨_, (ak (aY (aG T.D_check_brackets (mj T) (by decide) hr aH rfl (aa (pv 0) aj)))
  (ak (aF (i := 1) bV.nd rfl (Or.inl rfl) (aG T.D_kept_row (vD T) (by decide) hr aH rfl (aa (pv 0) aj)))
  (ak (aF (i := 2) bV.nd rfl (Or.inr rfl) (bc bB (pv 1) au (fun _ _ => rfl)))
  (ak (aF (i := 3) bV.nd rfl (Or.inl rfl) (bc bB (pv 1) au (fun _ _ => rfl)))
  (ak (vJ (i := 4) bV.nd rfl rfl rfl ⟨(cP.one (j := 2) rfl (Or.inl rfl) rfl rfl (Or.inl rfl)), rfl, by decide⟩ (tR rfl T.b_enumerate (aa (pv 3) aj)) (fun _ _ _ _ => (aG T.D_low_of (zF T) (by decide) hr aH rfl (aa (pv 2) (aa (pv 0) (aa (pv 1) aj))))))
  (aq (aD (t7 (aa (t7 (aa (bc bB (pv 2) au (fun _ _ => rfl)) (aa (bc bB (pv 2) au (fun _ _ => rfl)) (aa (jX j6 rfl T.b_tuple Tw.vC (aa (aG T.D_heap_of (wj T) (by decide) hr aH rfl (aa (pv 4) aj)) aj)) aj)))) (aa (pv 3) aj)))))))))), ?_⟩
 refine ⟨_, rfl, p, ns, rfl, hS, hl, hb, ht, fun H1 s1 => ?_⟩
 refine ⟨_, rfl, p, ns, rfl, s1.seq hS, hl, hb, fun r b t ah H2 hb0 s2 xr hT xb => ?_⟩
 refine ⟨_, rfl, r, _, _, _, rfl, rfl, SqT.of xr, rfl, ?_⟩
 refine ⟨_, rfl, r, _, _, _, rfl, rfl, SqT.of xr, rfl, ?_⟩
 have hpl := eX ns
 have hml : many ns.length ≤ 128 := by
  unfold many
  omega
 refine ⟨_, rfl, b, _, rfl, SqL.of xb, ?_⟩
 refine xK (sJ ns) (SqL.of xb) (by rw [hpl, sizeLine_eq]; omega) (fun i c H' Q hc sm qq => ?_) fun D H3 ls hD s3 xD hlen hR => ?_
 ·have hi := (List.getElem?_eq_some_iff.mp hc).1
  rw [hpl] at hi
  rw [cV hi] at hc
  cases hc
  refine ⟨_, rfl, _, rfl, _, rfl, t, ah, ns, [], i, rfl, hT.same sm, hb, ?_, qq⟩
  unfold many at hi
  omega
 have hLo : xq ns ls := ⟨by rw [hlen, hpl], hR⟩
 refine ⟨_, rfl, t, _, _, _, rfl, rfl, SqT.of (s3 _ _ hT.tup), rfl, ?_⟩
 refine ⟨_, rfl, t, _, _, _, rfl, rfl, SqT.of (s3 _ _ hT.tup), rfl, ?_⟩
 refine ⟨_, rfl, D, ls, rfl, SqL.of xD, by omega, fun S r4 H4 xs hSz hr4 s4 x4 hv => ?_⟩
 refine ⟨r4, _, rfl, .inl ⟨SqL.of x4, fun nd hnd => ?_⟩⟩
 have s5 := az hnd (.tup xs)
 refine ⟨(by show 3 ≤ sizeLine; decide), fun t6 ht6 => ?_⟩
 have s6 := az ht6 (.tup [.int (ns.length : Int), .ref ah, .ref nd])
 refine ⟨_, rfl, (by show 2 ≤ sizeLine; decide), fun r7 hr7 => ?_⟩
 have s7 := az hr7 (.tup [.ref t6, .ref b])
 have sA := s3.trans (s4.trans (s5.trans (s6.trans s7)))
 refine q r7 t6 ah nd b ls S xs _ (s1.free hb0) ((s1.trans (s2.trans (s3.trans (s4.trans (s5.trans s6))))).free hr7) ((s1.trans (s2.trans (s3.trans (s4.trans s5)))).free ht6) (s1.trans (s2.trans sA)) ao ⟨⟨s7 _ _ ao, sA _ _ hT.ahs, Nat.le_refl _⟩, s7 _ _ (s6 _ _ ao), sA _ _ xb, hLo, hSz, hv⟩
def pF : Sp := fun vs H Q _ => ∃ (p : Addr) (ds : List Int), vs = [.ref p] ∧ H p = some (.lst (ds.map V.int)) ∧ bu ds ∧ ds.length ≤ 2048 ∧ ∀ H', aR H H' → Q .non H'
theorem o7 (T : Tx K mg a) : aU P w K mg base CX0 1 a.f_check_depths a.fd_check_depths ["depths"] pF := by
 refine T.D_check_depths.F.ok dR (fun vs H Q E h => ?_) (fun cdv A outer s H vs Q E hr h => ?_)
 ·obtain ⟨p, ds, rfl, _⟩ := h
  rfl
 obtain ⟨p, ds, rfl, hp, hg, hl, q⟩ := h
 refine ⟨_, (ak (aX (aM ie (aQ aL rfl T.b_len Tw.bH (aa (pv 0) aj)) (bx (v := .int 2048) rfl T.c_MOST_NODES ⟨_, rfl⟩) (aO _)) (aq cG) aN)
  (ak (aX (PW.pt (lO (aM fO (aQ aL rfl T.b_len Tw.bH (aa (pv 0) aj)) au (aO _)) (jx (aM yx (bc bL (pv 0) au (fun _ _ => rfl)) au (aO _))))) (aq cG) aN)
  (aq (bR PassesOwn.never rfl (Fq rfl T.b_zip Tw.Fg (aa (pv 0) (aa (fK ik (pv 0) (gh au) jY) aj))) (lq rfl (bK (aV (i := 1) dR.nd rfl (Or.inl rfl)) (bK (aV (i := 2) dR.nd rfl (Or.inl rfl)) iu))) (aq (aX (jr (uY gZ gZ au (pv 2) (aB aZ (pv 1) au))) (aq cG) aN)))))), ?_⟩
 have ern : (ds.map V.int).length = ds.length := List.length_map ..
 have h0 : 0 < ds.length := (List.getElem?_eq_some_iff.mp hg.1).1
 refine ⟨_, rfl, p, _, rfl, .inl (SqL.of hp), _, _, rfl, rfl, _, rfl, bI (fun c => ?_) fun c => ?_⟩
 ·have c : (2048 : Int) < ((ds.map V.int).length : Int) := of_decide_eq_true c
  rw [ern] at c
  omega
 refine ⟨_, rfl, p, _, rfl, .inl (SqL.of hp), rfl, _, rfl, bI (fun c => ?_) fun c => ?_⟩
 ·have c : V.int ((ds.map V.int).length : Int) = V.int 0 := of_decide_eq_true c
  injection c with c
  rw [ern] at c
  omega
 refine ⟨_, rfl, p, _, _, _, rfl, rfl, SqL.of hp, jW (i := 0) hg.1, rfl, _, rfl, vh rfl ?_⟩
 refine ⟨_, rfl, _, rfl, _, rfl, p, _, rfl, SqL.of hp, fun c hc => ?_⟩
 have s1 := az hc (.lst (jn (ds.map V.int) (some 1) none))
 have ec : jn (ds.map V.int) (some 1) none = (ds.drop 1).map V.int := z7 ds 1
 have xc : upd H c (.lst (jn (ds.map V.int) (some 1) none)) c = some (.lst ((ds.drop 1).map V.int)) := by rw [ao, ec]
 generalize upd H c (.lst (jn (ds.map V.int) (some 1) none)) = H1 at *
 refine ⟨p, c, _, _, rfl, SqL.of (s1 _ _ hp), SqL.of xc, ?_⟩
 refine Cj (xs := ds.map V.int) (ys := (ds.drop 1).map V.int) (fun i σ H' => (∃ k1 k2, σ = [some (.ref p), k1, k2]) ∧ aR H1 H') ⟨⟨none, none, rfl⟩, aR.refl _⟩ ?_ ?_ ?_
 ·rintro i σ H' _ ⟨_, sm⟩
  exact ⟨SqL.of (sm _ _ (s1 _ _ hp)), SqL.of (sm _ _ xc)⟩
 ·rintro i x y σ H' t hx hy ⟨⟨k1, k2, rfl⟩, sm⟩ ht
  obtain ⟨u, hu, rfl⟩ := int_at hx
  obtain ⟨v, hv, rfl⟩ := int_at hy
  rw [List.getElem?_drop, Nat.add_comm] at hv
  have hh := hg.2 i u v hu hv
  have s2 := az ht (.tup [.int u, .int v])
  refine ⟨t, _, rfl, SqT.of ao, rfl, _, _, rfl, _, _, rfl, rfl, ?_⟩
  exact ⟨_, rfl, _, _, rfl, rfl, _, rfl, bI (fun _ => ⟨_, rfl, _, _, rfl, rfl, _, _, rfl, rfl, _, rfl, vh hh.2 ⟨⟨_, _, rfl⟩, sm.trans s2⟩⟩) fun z => absurd (decide_eq_true hh.1) z⟩
 ·rintro σ H' ⟨_, sm⟩
  exact q H' (s1.trans sm)
def pW : Sp := fun vs H Q _ => ∃ (p : Addr) (ds : List Int), vs = [.ref p] ∧ H p = some (.lst (ds.map V.int)) ∧ bu ds ∧ ds.length ≤ 2048 ∧ ∀ r H', H r = none → aR H H' → H' r = some (.lst ((brk ds 0).map V.int)) → Q (.ref r) H'
theorem qQ (T : Tx K mg a) : aU P w K mg base CX0 2 a.f_brackets_of a.fd_brackets_of ["depths"] pW := by
 refine T.D_brackets_of.F.ok cC (fun vs H Q E h => ?_) (fun cdv A outer s H vs Q E hr h => ?_)
 ·obtain ⟨p, ds, rfl, _⟩ := h
  rfl
 obtain ⟨p, ds, rfl, hp, hg, hl, q⟩ := h
 refine ⟨_, (ak (aY (aG T.D_check_depths (o7 T) (by decide) hr aH rfl (aa (pv 0) aj)))
  (ak (aF (i := 1) cC.nd rfl (Or.inl rfl) (bZ aj))
  (ak (aF (i := 2) cC.nd rfl (Or.inl rfl) au)
  (ak (bR PassesOwn.never rfl (dH (pv 0)) (aV (i := 3) cC.nd rfl (Or.inl rfl)) (ak (aY (jE PySem.F.plainAttrs_list PySem.F.slot_list_extend PySem.F.type_list_extend yV (pv 1) (aa (aB qg (bZ (aa au aj)) (aB bj (pv 2) (pv 3))) aj)))
  (ak (aY (jE PySem.F.plainAttrs_list PySem.F.slot_list_append PySem.F.type_list_append bY (pv 1) (aa au aj)))
  (aq (aF (i := 2) cC.nd rfl (Or.inl rfl) (aB aZ (pv 3) au))))))
  (aq (aD (aB kW (pv 1) (aB qg (bZ (aa au aj)) (pv 2))))))))), ?_⟩
 have hbl := iM hg.dp
 refine ⟨_, rfl, p, ds, rfl, hp, hg, hl, fun H1 s1 => ?_⟩
 refine ⟨(by show 0 ≤ sizeLine; decide), fun b hb => ?_⟩
 have s2 := s1.trans (az hb (.lst []))
 have xb : upd H1 b (.lst []) b = some (.lst (([] : List Int).map V.int)) := ao
 have hbH : H b = none := s1.free hb
 generalize upd H1 b (.lst []) = H2 at *
 refine ⟨_, rfl, p, rfl, ⟨_, SqL.of (s2 _ _ hp)⟩, ?_⟩
 refine cZ (xs := ds.map V.int) (fun i σ H' => (∃ (u : Int) (k3 : Option V) (bs : List Int), σ = [some (.ref p), some (.ref b), some (.int u), k3] ∧ H' b = some (.lst (bs.map V.int)) ∧ bs ++ brk (ds.drop i) u = brk ds 0 ∧ Dp (ds.drop i) u) ∧ aR H H') ⟨⟨0, none, [], rfl, xb, rfl, hg.dp⟩, s2⟩ ?_ ?_ ?_
 ·rintro i σ H' _ ⟨_, sm⟩
  exact SqL.of (sm _ _ hp)
 ·rintro i x σ H' hx ⟨⟨u, k3, bs, rfl, xb', eb, hd⟩, sm⟩
  obtain ⟨d, hdi, rfl⟩ := int_at hx
  have hi := (List.getElem?_eq_some_iff.mp hdi).1
  have edr : ds.drop i = d :: ds.drop (i + 1) := by
   rw [List.drop_eq_getElem_cons hi]
   congr 1
   exact (List.getElem?_eq_some_iff.mp hdi).2
  rw [edr] at eb hd
  obtain ⟨d0, du, hd'⟩ := hd
  have hlen := congrArg List.length eb
  simp only [brk, List.length_append, List.length_replicate, List.length_cons] at hlen
  rw [hbl] at hlen
  have hu : u - d ≤ 4096 := by omega
  have ub : bs.length ≤ 4096 := by omega
  refine ⟨_, rfl, .inl ⟨rfl, _, SqL.of xb'⟩, ?_⟩
  refine ⟨(by show 1 ≤ sizeLine; decide), fun l1 h1 => ⟨_, rfl, _, rfl, _, _, rfl, rfl, l1, u - d, [.int 0], rfl, rfl, ao, by omega, by omega, ?_, fun r1 hr1 => ?_⟩⟩
  ·rw [sizeLine_eq]
   show 1 * _ ≤ _
   omega
  have s3 := (az h1 (.lst [.int 0])).trans (az hr1 (.lst (List.replicate (u - d).toNat [.int 0]).flatten))
  have x3 : upd (upd H' l1 (.lst [.int 0])) r1 (.lst (List.replicate (u - d).toNat [.int 0]).flatten) r1 = some (.lst ((List.replicate (u - d).toNat (0 : Int)).map V.int)) := by
   rw [ao, yh]
  have xb3 := s3 _ _ xb'
  have sm3 := sm.trans s3
  generalize upd (upd H' l1 (.lst [.int 0])) r1 (.lst (List.replicate (u - d).toNat [.int 0]).flatten) = H3 at *
  refine ⟨b, r1, _, _, rfl, rfl, xb3, x3, ?_, ?_⟩
  ·rw [List.length_map, List.length_map, List.length_replicate, sizeLine_eq]
   omega
  have x4 : upd H3 b (.lst (bs.map V.int ++ (List.replicate (u - d).toNat (0 : Int)).map V.int)) b = some (.lst ((bs ++ List.replicate (u - d).toNat 0).map V.int)) := by
   rw [ao, List.map_append]
  have sm4 := bW sm3 hbH (.lst (bs.map V.int ++ (List.replicate (u - d).toNat (0 : Int)).map V.int))
  generalize upd H3 b (.lst (bs.map V.int ++ (List.replicate (u - d).toNat (0 : Int)).map V.int)) = H4 at *
  refine ⟨_, rfl, .inl ⟨rfl, _, SqL.of x4⟩, b, _, _, rfl, rfl, x4, ?_, ?_⟩
  ·rw [List.length_map, List.length_append, List.length_replicate, sizeLine_eq]
   omega
  refine ⟨_, rfl, _, _, rfl, rfl, ⟨d + 1, _, bs ++ List.replicate (u - d).toNat 0 ++ [1], rfl, ?_, ?_, hd'⟩, bW sm4 hbH _⟩
  ·rw [ao, List.map_append (l₂ := [1])]
   rfl
  ·rw [← eb]
   simp [brk]
 ·rintro σ H' ⟨⟨u, k3, bs, rfl, xb', eb, hd⟩, sm⟩
  rw [List.length_map, List.drop_length] at eb hd
  have hu : 0 ≤ u := hd
  have hlen := congrArg List.length eb
  simp only [brk, List.length_append, List.length_replicate] at hlen
  rw [hbl] at hlen
  refine ⟨_, rfl, ?_⟩
  refine yc (i := 2) (k := u) (xs := [.int 0]) (fun Q' q => q) rfl (by omega) (by decide) (by omega) fun p1 H4 hp1 s4 x4 => ?_
  rw [yh] at x4
  refine ⟨b, p1, _, _, rfl, rfl, s4 _ _ xb', x4, ?_, fun p2 hp2 => ?_⟩
  ·rw [List.length_map, List.length_map, List.length_replicate, sizeLine_eq]
   omega
  refine q p2 _ ((sm.trans s4).free hp2) (sm.trans (s4.trans (az hp2 _))) ?_
  rw [ao, ← List.map_append]
  exact congrArg (fun l : List Int => some (HO.lst (l.map V.int))) eb
def qj : Sp := fun vs H Q E => ∃ at0 most : Int, vs = [.int at0, .int most] ∧ 0 ≤ at0 ∧ at0 ≤ most ∧ Q .non H
theorem dh (T : Tx K mg a) : aU P w K mg base CX0 1 a.f_check_place a.fd_check_place ["at", "most"] qj := by
 refine T.D_check_place.F.ok pQ (fun vs H Q E h => ?_) (fun cdv A outer s H vs Q E hr h => ?_)
 ·obtain ⟨p, m, rfl, _⟩ := h
  rfl
 obtain ⟨at0, most, rfl, h0, h1, q⟩ := h
 refine ⟨_, (aq (aX (PW.pt (lO (aM j9 (pv 0) au (aO _)) (jx (aM ie (pv 0) (pv 1) (aO _))))) (aq cG) aN)), ?_⟩
 refine ⟨_, rfl, _, _, rfl, rfl, _, rfl, bI (fun c => ?_) fun c => ?_⟩
 ·have c := of_decide_eq_true c
  omega
 refine ⟨_, rfl, _, rfl, _, _, rfl, rfl, _, rfl, bI (fun c2 => ?_) fun c2 => ?_⟩
 ·have c2 := of_decide_eq_true c2
  omega
 exact q
def uX : Addr → Sp := fun f vs H Q _ => ∃ (sn nd : Addr) (ss : List Int) (xs : List V) (n : Nat) (x : V), vs = [.int (n : Int)] ∧ Asks H f sn nd ss xs ∧ ss.length < 1000 ∧ xs[n]? = some x ∧ Q x (upd H sn (.lst ((ss ++ [(n : Int)]).map V.int)))
theorem cU (T : Tx K mg a) : oU P w K mg base 1 uX := by
 refine Fj u6 (fun _ _ _ _ _ us hl => match us, hl with | [_], _ => rfl) fun f vs H Q h => ?_
 obtain ⟨sn, nd, ss, xs, n, x, rfl, ⟨⟨cs, ca⟩, h1, h2, ne, hls⟩, hl2, hg, q⟩ := h
 have o1 := iW.out ca h1
 have o2 := iW.out ca h2
 refine ⟨rfl, cs, [.ref sn, .ref nd], ca, fun cd A outer s hr => ⟨_, (ak (aY (jE PySem.F.plainAttrs_list PySem.F.slot_list_append PySem.F.type_list_append bY (pv 1) (aa (pv 0) aj)))
  (ak (aX (uY gZ j9 au (pv 0) (aQ aL rfl T.b_len Tw.bH (aa (pv 2) aj))) (aq (aD (bc bL (pv 2) (pv 0) (fun _ _ => rfl)))) aN)
  (aq (aD au)))), ?_⟩⟩
 have g1 : hide H cs sn = some (.lst (ss.map V.int)) := by rw [bG o1]; exact h1
 have g2 : upd (hide H cs) sn (.lst (ss.map V.int ++ [.int (n : Int)])) nd = some (.lst xs) := by rw [aC (Ne.symm ne), bG o2]; exact h2
 have hn := (List.getElem?_eq_some_iff.mp hg).1
 refine ⟨_, rfl, .inl ⟨rfl, _, SqL.of g1⟩, _, rfl, sn, _, _, rfl, rfl, g1, ?_, ?_⟩
 ·rw [List.length_map, sizeLine_eq]
  omega
 refine ⟨_, rfl, _, _, rfl, rfl, _, rfl, bI (fun _ => ?_) fun z => absurd (decide_eq_true (show (0 : Int) ≤ (n : Int) by omega)) z⟩
 refine ⟨_, rfl, nd, _, rfl, .inl (SqL.of g2), _, _, rfl, rfl, _, rfl, bI (fun _ => ?_) fun z => absurd (decide_eq_true (show (n : Int) < (xs.length : Int) by omega)) z⟩
 refine ⟨_, rfl, _, rfl, nd, _, _, _, rfl, rfl, SqL.of g2, mD hg, ?_⟩
 show Q x (over H cs (upd (hide H cs) sn (.lst (ss.map V.int ++ [.int (n : Int)]))))
 rw [Aa o1, sG]
 rw [List.map_append] at q
 exact q
def uE (Pt : Addr) : Sp := fun vs H Q _ => ∃ (nd sn : Addr), vs = [.ref nd, .ref sn] ∧ TabAt H Pt (xY fX) cQ.qual ∧
 ∀ f H2, H f = none → lD Pt H H2 → TabAt H2 Pt (xY fX) cQ.qual → j8 H2 f sn nd → Q (.ref f) H2
theorem uJ (T : Tx K mg a) (B : Bs mg base a) : aU P w K mg base CX0 1 a.f_law_look a.fd_law_look ["_law_blocks", "_law_seen"] (uE a.tP_law_look) := by
 refine Fun.maker0 (T := cQ) (pos := xY fX) T.D_law_look.F oO vy B.bm T.w_law_look B.C_law_look (fun vs H Q E h => ?_) rfl (fun vs H Q E h => ?_)
 ·obtain ⟨bl, sn, rfl, _⟩ := h
  rfl
 obtain ⟨nd, sn, rfl, hT, q⟩ := h
 refine ⟨hT, [.ref sn, .ref nd], fun j m e => ?_, rfl, fun fi cs H2 n1 n2 n3 n4 n5 => q fi H2 n1 n3 n4 ⟨cs, n5⟩⟩
 match j, e with
 | 0, e => cases e; exact ⟨_, rfl, rfl⟩
 | 1, e => cases e; exact ⟨_, rfl, rfl⟩
 | j + 2, e => simp at e
structure Ask (H : Hp) (t f sn bl ah : Addr) (ns ss : List Int) (rest : List V) : Prop where
 tab : Tab H t ah ns rest
 asks : Asks H f sn bl ss ((cW ns).map V.int)
 bits : aP ns
 len : ns.length ≤ 4096
theorem Ask.same {H H' : Hp} {t f sn bl ah : Addr} {ns ss : List Int} {rest : List V} (h : Ask H t f sn bl ah ns ss rest) (s : aR H H') : Ask H' t f sn bl ah ns ss rest := ⟨h.tab.same s, h.asks.same s, h.bits, h.len⟩
theorem Ask.more {H : Hp} {t f sn bl ah : Addr} {ns ss tt : List Int} {rest : List V} (h : Ask H t f sn bl ah ns ss rest) (hl : tt.length ≤ 1000) : Ask (L2.upd H sn (.lst (tt.map V.int))) t f sn bl ah ns tt rest :=
 ⟨⟨by rw [aC (fun z => by have := h.tab.tup; rw [z, h.asks.seen] at this; cases this)]; exact h.tab.tup, by rw [aC (fun z => by have := h.tab.ahs; rw [z, h.asks.seen] at this; cases this)]; exact h.tab.ahs, h.tab.few⟩, h.asks.more hl, h.bits, h.len⟩
def bF (n k : Nat) (ss ss' : List Int) : Prop := ∃ tt : List Int, ss' = ss ++ tt ∧ tt.length ≤ k ∧ ∀ x ∈ tt, 0 ≤ x ∧ x < n
theorem bF.none {n k : Nat} (ss : List Int) : bF n k ss ss := ⟨[], by simp, by simp, nofun⟩
theorem bF.one {n : Nat} (ss : List Int) {i : Int} (h0 : 0 ≤ i) (h1 : i < n) : bF n 1 ss (ss ++ [i]) := ⟨[i], rfl, by simp, fun x hx => by rw [List.mem_singleton.mp hx]; exact ⟨h0, h1⟩⟩
theorem bF.trans {n j k : Nat} {a b c : List Int} (h : bF n j a b) (h' : bF n k b c) : bF n (j + k) a c := by
 obtain ⟨t, rfl, l, m⟩ := h
 obtain ⟨u, rfl, l', m'⟩ := h'
 refine ⟨t ++ u, by rw [List.append_assoc], by rw [List.length_append]; omega, fun x hx => ?_⟩
 rcases List.mem_append.mp hx with hx | hx
 ·exact m x hx
 ·exact m' x hx
theorem bF.le {n j k : Nat} {a b : List Int} (h : bF n j a b) (hk : j ≤ k) : bF n k a b := by
 obtain ⟨t, e, l, m⟩ := h
 exact ⟨t, e, by omega, m⟩
theorem bF.len {n k : Nat} {a b : List Int} (h : bF n k a b) : b.length ≤ a.length + k := by
 obtain ⟨t, rfl, l, m⟩ := h
 rw [List.length_append]
 omega
def w5 : Sp := fun vs H Q E => ∃ (t f sn bl ah : Addr) (ns ss : List Int) (rest : List V) (at0 : Nat), vs = [.ref t, .ref f, .int (at0 : Int)] ∧ Ask H t f sn bl ah ns ss rest ∧ ss.length < 1000 ∧ at0 ≤ ns.length ∧
 ∀ ss' H', bF (many ns.length) 1 ss ss' → aR (upd H sn (.lst (ss'.map V.int))) H' → Q (.int (ns.take at0).sum) H'
theorem iI (T : Tx K mg a) : aU P w K mg base CX0 4 a.f_ones_at a.fd_ones_at ["tables", "look", "at"] w5 := by
 refine T.D_ones_at.F.ok fM (fun vs H Q E h => ?_) (fun cdv A outer s H vs Q E hr h => ?_)
 ·obtain ⟨t, f, sn, bl, ah, ns, ss, rest, at0, rfl, _⟩ := h
  rfl
 obtain ⟨t, f, sn, bl, ah, ns, ss, rest, at0, rfl, hA, hls, hat0, q⟩ := h
 refine ⟨_, (ak (aF (i := 3) fM.nd rfl (Or.inl rfl) (bc bB (pv 0) au (fun _ _ => rfl)))
  (ak (aF (i := 4) fM.nd rfl (Or.inl rfl) (bc bB (pv 0) au (fun _ _ => rfl)))
  (ak (aY (aG T.D_check_place (dh T) (by decide) hr aH rfl (aa (pv 2) (aa (pv 3) aj))))
  (ak (aF (i := 5) fM.nd rfl (Or.inl rfl) (aB dG (pv 2) (bx (v := .int 32) rfl T.c_BLOCK_BITS ⟨_, rfl⟩)))
  (ak (aF (i := 6) fM.nd rfl (Or.inl rfl) (aB cR (pv 2) (bx (v := .int 32) rfl T.c_BLOCK_BITS ⟨_, rfl⟩)))
  (ak (aX (aM fO (pv 6) au (aO _)) (aq (aD (bc bB (pv 4) (pv 5) (fun _ _ => rfl)))) aN)
  (aq (aD (aB aZ (bc bB (pv 4) (pv 5) (fun _ _ => rfl)) (aG T.D_ones_in (qR T) (by decide) hr aH rfl (aa (di ((cU T).mono (by decide)) hr (i := 1) rfl (aa (pv 5) aj)) (aa (pv 6) aj)))))))))))), ?_⟩
 refine ⟨_, rfl, t, _, _, _, rfl, rfl, SqT.of hA.tab.tup, jT _ _ _ hA.tab.few, ?_⟩
 refine ⟨_, rfl, t, _, _, _, rfl, rfl, SqT.of hA.tab.tup, lY _ _ _ hA.tab.few, ?_⟩
 refine ⟨_, rfl, _, rfl, _, _, rfl, by omega, by omega, ?_⟩
 refine ⟨_, rfl, _, _, rfl, rfl, ⟨by decide, by decide⟩, ?_⟩
 refine ⟨_, rfl, _, _, rfl, rfl, (by show (0 : Int) < 32; decide), ?_⟩
 have ej : (at0 : Int) / 32 = ((at0 / 32 : Nat) : Int) := by omega
 have hat : atI ((ahd ns (many ns.length)).map V.int) ((at0 : Int) / 32) = some (.int (ns.take (32 * (at0 / 32))).sum) := by
  rw [ej]
  exact Ao (by unfold many; omega)
 refine ⟨_, rfl, rfl, _, rfl, bI (fun c => ?_) fun c => ?_⟩
 ·have c : V.int ((at0 : Int) % 32) = V.int 0 := of_decide_eq_true c
  injection c with c
  refine ⟨_, rfl, _, rfl, ah, _, _, _, rfl, rfl, SqT.of hA.tab.ahs, hat, ?_⟩
  have := q ss H (bF.none ss) (by rw [Fw hA.asks.seen]; exact aR.refl _)
  rw [show at0 = 32 * (at0 / 32) from by omega] at this
  exact this
 have c : (at0 : Int) % 32 ≠ 0 := fun z => c (decide_eq_true (congrArg V.int z))
 obtain ⟨o, fd, e1, g1⟩ := hA.asks.look.fn
 have hm : at0 / 32 < many ns.length := by
  unfold many
  omega
 have hg : ((cW ns).map V.int)[at0 / 32]? = some (.int (bA ns (at0 / 32))) := by
  rw [List.getElem?_map, cV hm]
  rfl
 refine ⟨_, rfl, _, rfl, ah, _, _, _, rfl, rfl, SqT.of hA.tab.ahs, hat, f, o, fd, rfl, e1, g1, _, rfl, e1, sn, bl, ss, _, at0 / 32, _, congrArg (fun v => [v]) (congrArg V.int ej), hA.asks, hls, hg, ?_⟩
 refine ⟨_, rfl, _, _, rfl, (show 0 ≤ (at0 : Int) % 32 from by omega), (show (at0 : Int) % 32 ≤ 32 from by omega), fun H' sm => ⟨_, _, rfl, rfl, ?_⟩⟩
 have := q (ss ++ [((at0 / 32 : Nat) : Int)]) H' (bF.one ss (by omega) (by omega)) sm
 have e : (ns.take at0).sum = (ns.take (32 * (at0 / 32))).sum + ones (bA ns (at0 / 32)) ((at0 : Int) % 32).toNat := by
  rw [eZ hA.bits _ _ (by omega)]
  congr 2
  omega
 rw [e] at this
 exact this
def zq : Sp := fun vs H Q E => ∃ (t f sn bl ah : Addr) (ns ss : List Int) (rest : List V) (at0 : Nat), vs = [.ref t, .ref f, .int (at0 : Int)] ∧ Ask H t f sn bl ah ns ss rest ∧ ss.length < 1000 ∧ at0 ≤ ns.length ∧
 ∀ ss' H', bF (many ns.length) 1 ss ss' → aR (upd H sn (.lst (ss'.map V.int))) H' → Q (.int (ht ns at0)) H'
theorem tu (T : Tx K mg a) : aU P w K mg base CX0 5 a.f_height a.fd_height ["tables", "look", "at"] zq := by
 refine T.D_height.F.ok yL (fun vs H Q E h => ?_) (fun cdv A outer s H vs Q E hr h => ?_)
 ·obtain ⟨t, f, sn, bl, ah, ns, ss, rest, at0, rfl, _⟩ := h
  rfl
 obtain ⟨t, f, sn, bl, ah, ns, ss, rest, at0, rfl, hA, hls, hat0, q⟩ := h
 refine ⟨_, (aq (aD (aB bj (aB b7 au (aG T.D_ones_at (iI T) (by decide) hr aH rfl (aa (pv 0) (aa (pv 1) (aa (pv 2) aj))))) (pv 2)))), ?_⟩
 exact ⟨_, rfl, _, rfl, _, rfl, t, f, sn, bl, ah, ns, ss, rest, at0, rfl, hA, hls, hat0, fun ss' H' w sm => ⟨_, _, rfl, rfl, .inl ⟨by decide, by decide⟩, _, rfl, _, _, rfl, rfl, q ss' H' w sm⟩⟩
def zf : Sp := fun vs H Q E => ∃ (t f sn bl ah : Addr) (ns ss : List Int) (rest : List V) (at0 : Nat) (b : Int), vs = [.ref t, .ref f, .int (at0 : Int)] ∧ Ask H t f sn bl ah ns ss rest ∧ ss.length < 1000 ∧ ns[at0]? = some b ∧
 ∀ ss' H', bF (many ns.length) 1 ss ss' → aR (upd H sn (.lst (ss'.map V.int))) H' → Q (.int b) H'
theorem rR (T : Tx K mg a) : aU P w K mg base CX0 2 a.f_bit_at a.fd_bit_at ["tables", "look", "at"] zf := by
 refine T.D_bit_at.F.ok zg (fun vs H Q E h => ?_) (fun cdv A outer s H vs Q E hr h => ?_)
 ·obtain ⟨t, f, sn, bl, ah, ns, ss, rest, at0, b, rfl, _⟩ := h
  rfl
 obtain ⟨t, f, sn, bl, ah, ns, ss, rest, at0, b, rfl, hA, hls, hb, q⟩ := h
 have hat0 := (List.getElem?_eq_some_iff.mp hb).1
 refine ⟨_, (ak (aY (aG T.D_check_place (dh T) (by decide) hr aH rfl (aa (pv 2) (aa (aB bj (bc bB (pv 0) au (fun _ _ => rfl)) au) aj))))
  (aq (aD (aG T.D_bit_in (rT T) (by decide) hr aH rfl (aa (di ((cU T).mono (by decide)) hr (i := 1) rfl (aa (aB dG (pv 2) (bx (v := .int 32) rfl T.c_BLOCK_BITS ⟨_, rfl⟩)) aj)) (aa (aB cR (pv 2) (bx (v := .int 32) rfl T.c_BLOCK_BITS ⟨_, rfl⟩)) aj)))))), ?_⟩
 refine ⟨_, rfl, _, rfl, t, _, _, _, rfl, rfl, SqT.of hA.tab.tup, jT _ _ _ hA.tab.few, _, _, rfl, rfl, _, _, rfl, by omega, by omega, ?_⟩
 obtain ⟨o, fd, e1, g1⟩ := hA.asks.look.fn
 have hm : at0 / 32 < many ns.length := by
  unfold many
  omega
 have hg : ((cW ns).map V.int)[at0 / 32]? = some (.int (bA ns (at0 / 32))) := by
  rw [List.getElem?_map, cV hm]
  rfl
 have ej : (at0 : Int) / 32 = ((at0 / 32 : Nat) : Int) := by omega
 refine ⟨f, o, fd, rfl, e1, g1, _, rfl, _, _, rfl, rfl, ⟨by decide, by decide⟩, e1, sn, bl, ss, _, at0 / 32, _, congrArg (fun v => [v]) (congrArg V.int ej), hA.asks, hls, hg, ?_⟩
 refine ⟨_, rfl, _, _, rfl, rfl, (by show (0 : Int) < 32; decide), _, _, rfl, (show 0 ≤ (at0 : Int) % 32 from by omega), ?_⟩
 rw [show bit (bA ns (at0 / 32)) ((at0 : Int) % 32).toNat = b from by rw [show ((at0 : Int) % 32).toNat = at0 % 32 from by omega, bit_at hA.bits _ _ (by omega), show 32 * (at0 / 32) + at0 % 32 = at0 from by omega, hb]; rfl]
 exact q _ _ (bF.one ss (i := ((at0 / 32 : Nat) : Int)) (by omega) (by omega)) (aR.refl _)
theorem DX {p : Addr} {xs : List V} {i : Int} {v : V} {H : Hp} {Q : VK} (h : SqL K H p xs ∨ SqT K H p xs) (hat : atI xs i = some v) (q : Q v H) : rIx K (.ref p) (.int i) H Q := by
 rcases h with h | h
 ·exact .inl ⟨p, _, _, _, rfl, rfl, h, hat, q⟩
 ·exact .inr (.inl ⟨p, _, _, _, rfl, rfl, h, hat, q⟩)
def DG (K : PySem.W.Frag) : Sp := fun vs H Q _ => ∃ (p : Addr) (ns : List Int) (goal : Int), vs = [.ref p, .int goal] ∧ (SqL K H p (ns.map V.int) ∨ SqT K H p (ns.map V.int)) ∧ 0 < ns.length ∧ ns.length ≤ 4096 ∧
 ∀ lo : Nat, lo < ns.length → (lo = 0 ∨ ∃ x, ns[lo]? = some x ∧ x ≤ goal) → (lo + 1 = ns.length ∨ ∃ x, ns[lo + 1]? = some x ∧ goal < x) → Q (.int (lo : Int)) H
theorem fU (T : Tx K mg a) : aU P w K mg base CX0 1 a.f_last_no_greater a.fd_last_no_greater ["numbers", "goal"] (DG K) := by
 refine T.D_last_no_greater.F.ok bC (fun vs H Q E h => ?_) (fun cdv A outer s H vs Q E hr h => ?_)
 ·obtain ⟨p, ns, goal, rfl, _⟩ := h
  rfl
 obtain ⟨p, ns, goal, rfl, hS, h0, hl, q⟩ := h
 refine ⟨_, (ak (aF (i := 2) bC.nd rfl (Or.inl rfl) au)
  (ak (aF (i := 3) bC.nd rfl (Or.inl rfl) (aQ aL rfl T.b_len Tw.bH (aa (pv 0) aj)))
  (ak (jL PassesOwn.never (aM ie (aB bj (pv 3) (pv 2)) au (aO _)) (ak (aF (i := 4) bC.nd rfl (Or.inl rfl) (aB dG (aB aZ (pv 2) (pv 3)) au))
  (aq (aX (aM gZ (bc Ex (pv 0) (pv 4) (fun _ _ => rfl)) (pv 1) (aO _)) (aq (aF (i := 2) bC.nd rfl (Or.inl rfl) (pv 4))) (aq (aF (i := 3) bC.nd rfl (Or.inl rfl) (pv 4)))))))
  (aq (aD (pv 2)))))), ?_⟩
 refine ⟨_, rfl, p, _, rfl, hS, ?_⟩
 refine ⟨fun m σ H' => ∃ (lo hi : Nat) (k : Option V), σ = [some (.ref p), some (.int goal), some (.int (lo : Int)), some (.int (hi : Int)), k] ∧ H' = H ∧ m = hi - lo ∧ lo < hi ∧ hi ≤ ns.length ∧ (lo = 0 ∨ ∃ x, ns[lo]? = some x ∧ x ≤ goal) ∧ (hi = ns.length ∨ ∃ x, ns[hi]? = some x ∧ goal < x), ⟨_, 0, ns.length, none, ?_, rfl, rfl, h0, Nat.le_refl _, .inl rfl, .inl rfl⟩, ?_⟩
 ·rw [List.length_map]
  rfl
 rintro m σ H' ⟨lo, hi, k, rfl, rfl, rfl, hlt, hle, h1, h2⟩
 refine ⟨_, rfl, _, rfl, _, _, rfl, rfl, _, _, rfl, rfl, _, rfl, bI (fun c => ?_) fun c => ?_⟩
 ·have c : (1 : Int) < (hi : Int) - (lo : Int) := of_decide_eq_true c
  refine ⟨_, fun σ' H2 z => z, ?_⟩
  have em : ((lo : Int) + (hi : Int)) / 2 = (((lo + hi) / 2 : Nat) : Int) := by omega
  have hm : (lo + hi) / 2 < ns.length := by omega
  have hg : ns[(lo + hi) / 2]? = some ns[(lo + hi) / 2] := List.getElem?_eq_getElem hm
  have hat : atI (ns.map V.int) (((lo : Int) + (hi : Int)) / 2) = some (.int ns[(lo + hi) / 2]) := by
   rw [em]
   exact jW hg
  refine ⟨_, rfl, _, rfl, _, _, rfl, rfl, _, _, rfl, rfl, ⟨by decide, by decide⟩, ?_⟩
  refine ⟨_, rfl, _, rfl, DX hS hat ⟨_, rfl, _, _, rfl, rfl, _, rfl, bI (fun d => ?_) fun d => ?_⟩⟩
  ·have d := of_decide_eq_true d
   refine ⟨_, rfl, hi - (lo + hi) / 2, by omega, (lo + hi) / 2, hi, some (.int (((lo : Int) + (hi : Int)) / 2)), ?_, rfl, rfl, by omega, hle, .inr ⟨_, hg, d⟩, h2⟩
   rw [← em]
   rfl
  ·have d : ¬ ns[(lo + hi) / 2] ≤ goal := fun z => d (decide_eq_true z)
   refine ⟨_, rfl, (lo + hi) / 2 - lo, by omega, lo, (lo + hi) / 2, some (.int (((lo : Int) + (hi : Int)) / 2)), ?_, rfl, rfl, by omega, by omega, h1, .inr ⟨_, hg, by omega⟩⟩
   rw [← em]
   rfl
 ·have c : ¬ (1 : Int) < (hi : Int) - (lo : Int) := fun z => c (decide_eq_true z)
  have e : hi = lo + 1 := by omega
  subst e
  exact ⟨_, rfl, q lo (by omega) h1 h2⟩
def tL : Sp := fun vs H Q E => ∃ nth many : Int, vs = [.int nth, .int many] ∧ 0 ≤ nth ∧ nth < many ∧ Q .non H
theorem lR (T : Tx K mg a) : aU P w K mg base CX0 1 a.f_check_nth a.fd_check_nth ["nth", "many"] tL := by
 refine T.D_check_nth.F.ok uA (fun vs H Q E h => ?_) (fun cdv A outer s H vs Q E hr h => ?_)
 ·obtain ⟨p, m, rfl, _⟩ := h
  rfl
 obtain ⟨nth, mny, rfl, h0, h1, q⟩ := h
 refine ⟨_, (aq (aX (PW.pt (lO (aM j9 (pv 0) au (aO _)) (jx (aM vR (pv 0) (pv 1) (aO _))))) (aq cG) aN)), ?_⟩
 refine ⟨_, rfl, _, _, rfl, rfl, _, rfl, bI (fun c => ?_) fun c => ?_⟩
 ·have c := of_decide_eq_true c
  omega
 refine ⟨_, rfl, _, rfl, _, _, rfl, rfl, _, rfl, bI (fun c2 => ?_) fun c2 => ?_⟩
 ·have c2 := of_decide_eq_true c2
  omega
 exact q
def uz : Sp := fun vs H Q E => ∃ (t f sn bl ah : Addr) (ns ss : List Int) (rest : List V) (nth : Int), vs = [.ref t, .ref f, .int nth] ∧ Ask H t f sn bl ah ns ss rest ∧ ss.length < 1000 ∧ 0 ≤ nth ∧ nth < ns.sum ∧ ∀ (H' : Hp) (p : Nat) (ss' : List Int), ns[p]? = some 1 → (ns.take p).sum = nth → bF (many ns.length) 1 ss ss' → aR (upd H sn (.lst (ss'.map V.int))) H' → Q (.int (p : Int)) H'
theorem uC (T : Tx K mg a) : aU P w K mg base CX0 4 a.f_one_place a.fd_one_place ["tables", "look", "nth"] uz := by
 refine T.D_one_place.F.ok iR (fun vs H Q E h => ?_) (fun cdv A outer s H vs Q E hr h => ?_)
 ·obtain ⟨t, f, sn, bl, ah, ns, ss, rest, nth, rfl, _⟩ := h
  rfl
 obtain ⟨t, f, sn, bl, ah, ns, ss, rest, nth, rfl, R, hls, p0, p1, q⟩ := h
 have ht := R.tab.tup
 have hah := R.tab.ahs
 have hb := R.bits
 have hl := R.len
 have hM : many ns.length ≤ 128 := by
  unfold many
  omega
 have hall : ns.take (32 * many ns.length) = ns := List.take_of_length_le (by unfold many; omega)
 have hla : atI ((ahd ns (many ns.length)).map V.int) (-1) = some (.int ns.sum) := by
  rw [vV, List.map_append, hall]
  exact mK _ _
 refine ⟨_, (ak (aF (i := 3) iR.nd rfl (Or.inl rfl) (bc bB (pv 0) au (fun _ _ => rfl)))
  (ak (aY (aG T.D_check_nth (lR T) (by decide) hr aH rfl (aa (pv 2) (aa (bc bB (pv 3) (qU kE au) (fun _ _ => rfl)) aj))))
  (ak (aF (i := 4) iR.nd rfl (Or.inl rfl) (aG T.D_last_no_greater (fU T) (by decide) hr aH rfl (aa (pv 3) (aa (pv 2) aj))))
  (aq (aD (aB aZ (aB b7 (bx (v := .int 32) rfl T.c_BLOCK_BITS ⟨_, rfl⟩) (pv 4)) (aG T.D_one_in (rW T) (by decide) hr aH rfl (aa (di ((cU T).mono (by decide)) hr (i := 1) rfl (aa (pv 4) aj)) (aa (aB bj (pv 2) (bc bB (pv 3) (pv 4) (fun _ _ => rfl))) aj))))))))), ?_⟩
 refine ⟨_, rfl, t, _, _, _, rfl, rfl, SqT.of ht, lY _ _ _ R.tab.few, ?_⟩
 refine ⟨_, rfl, _, rfl, _, rfl, ah, _, _, _, rfl, rfl, SqT.of hah, hla, _, _, rfl, p0, p1, ?_⟩
 refine ⟨_, rfl, _, rfl, ah, _, _, rfl, .inr (SqT.of hah), (by rw [dz]; omega), (by rw [dz]; omega), fun lo hlo c1 c2 => ?_⟩
 rw [dz] at hlo c2
 have hlo2 : lo < many ns.length := by
  rcases c2 with c2 | ⟨x, e, _⟩
  ·have e : lo = many ns.length := by omega
   rcases c1 with c1 | ⟨x, e2, c1⟩
   ·have e3 : many ns.length = 0 := by omega
    have : ns.sum = 0 := by
     rw [← hall, e3]
     rfl
    omega
   ·rw [jQ (by omega)] at e2
    cases e2
    rw [e, hall] at c1
    omega
  ·have := (List.getElem?_eq_some_iff.mp e).1
   rw [dz] at this
   omega
 have d1 : (ns.take (32 * lo)).sum ≤ nth := by
  rcases c1 with c1 | ⟨x, e2, c1⟩
  ·subst c1
   exact p0
  ·rw [jQ (by omega)] at e2
   cases e2
   exact c1
 have d2 : nth < (ns.take (32 * lo + 32)).sum := by
  rcases c2 with c2 | ⟨x, e2, c2⟩
  ·omega
  ·rw [jQ (by omega)] at e2
   cases e2
   exact c2
 have hat : atI ((ahd ns (many ns.length)).map V.int) (lo : Int) = some (.int (ns.take (32 * lo)).sum) := jW (jQ (by omega))
 have sb := eZ hb lo 32 (by omega)
 obtain ⟨k0, hk0, hk1, hk2⟩ := xN (bA ns lo) (nth - (ns.take (32 * lo)).sum) (by omega) 32 (by omega)
 have hlk : ((cW ns).map V.int)[lo]? = some (.int (bA ns lo)) := by
  rw [List.getElem?_map, cV hlo2]
  rfl
 obtain ⟨o, fd, e1, g1⟩ := R.asks.look.fn
 have nA : ah ≠ sn := fun z => by rw [z, R.asks.seen] at hah; cases hah
 refine ⟨_, rfl, _, _, rfl, rfl, .inl ⟨by decide, by decide⟩, f, o, fd, rfl, e1, g1, _, rfl, e1, sn, bl, ss, _, lo, _, rfl, R.asks, hls, hlk, ?_⟩
 refine ⟨_, rfl, _, rfl, _, rfl, ah, _, _, _, rfl, rfl, SqT.of (by rw [aC nA]; exact hah), hat, _, _, rfl, rfl, ?_⟩
 refine ⟨_, _, rfl, fun H' sm k hk b1 o1 => ?_, fun H' sm no => absurd ⟨hk1, hk2⟩ (no k0 hk0)⟩
 refine ⟨_, _, rfl, rfl, ?_⟩
 have b1 : bit (bA ns lo) k = 1 := b1
 have o1 : ones (bA ns lo) k = nth - (ns.take (32 * lo)).sum := o1
 have hp : ns[32 * lo + k]? = some 1 := by
  have := bit_at hb lo k hk
  rw [b1] at this
  cases e : ns[32 * lo + k]? with
  | none => rw [e] at this; cases this
  | some x =>
   rw [e] at this
   have this : 1 = x := this
   rw [this]
 have hs : (ns.take (32 * lo + k)).sum = nth := by
  have := eZ hb lo k (by omega)
  omega
 have := q H' (32 * lo + k) _ hp hs (bF.one ss (by omega) (by omega)) sm
 rw [show ((32 * lo + k : Nat) : Int) = 32 * (lo : Int) + (k : Int) from by omega] at this
 exact this
def pD : Sp := fun vs H Q E => ∃ (t f sn bl ah : Addr) (ns ss : List Int) (rest : List V) (nth : Int), vs = [.ref t, .ref f, .int nth] ∧ Ask H t f sn bl ah ns ss rest ∧ ss.length < 1000 ∧ 0 ≤ nth ∧ nth < ns.length - ns.sum ∧ ∀ (H' : Hp) (p : Nat) (ss' : List Int), ns[p]? = some 0 → (p : Int) - (ns.take p).sum = nth → bF (many ns.length) 1 ss ss' → aR (upd H sn (.lst (ss'.map V.int))) H' → Q (.int (p : Int)) H'
theorem o8 (T : Tx K mg a) : aU P w K mg base CX0 4 a.f_nought_place a.fd_nought_place ["tables", "look", "nth"] pD := by
 refine T.D_nought_place.F.ok bJ (fun vs H Q E h => ?_) (fun cdv A outer s H vs Q E hr h => ?_)
 ·obtain ⟨t, f, sn, bl, ah, ns, ss, rest, nth, rfl, _⟩ := h
  rfl
 obtain ⟨t, f, sn, bl, ah, ns, ss, rest, nth, rfl, R, hls, p0, p1, q⟩ := h
 have ht := R.tab.tup
 have hah := R.tab.ahs
 have hb := R.bits
 have hl := R.len
 have hM : many ns.length ≤ 128 := by
  unfold many
  omega
 have hall : ns.take (32 * many ns.length) = ns := List.take_of_length_le (by unfold many; omega)
 have en : (ns.map V.int).length = ns.length := List.length_map ..
 have hla : atI ((ahd ns (many ns.length)).map V.int) (-1) = some (.int ns.sum) := by
  rw [vV, List.map_append, hall]
  exact mK _ _
 refine ⟨_, (ak (aF (i := 3) bJ.nd rfl (Or.inl rfl) (bc bB (pv 0) au (fun _ _ => rfl)))
  (ak (aF (i := 4) bJ.nd rfl (Or.inr rfl) (bc bB (pv 0) au (fun _ _ => rfl)))
  (ak (aY (aG T.D_check_nth (lR T) (by decide) hr aH rfl (aa (pv 2) (aa (aB bj (pv 3) (bc bB (pv 4) (qU kE au) (fun _ _ => rfl))) aj))))
  (ak (qP (i := 5) bJ.nd rfl rfl rfl (cP.one (j := 4) rfl (Or.inl rfl) rfl rfl (Or.inl rfl)) (fc rfl T.b_range (aa (aB bj (aQ aL rfl T.b_len Tw.bH (aa (pv 4) aj)) au) aj)) (fun _ _ _ _ => mL) (fun _ _ _ _ => (aB bj (aB b7 (bx (v := .int 32) rfl T.c_BLOCK_BITS ⟨_, rfl⟩) (pv 0)) (bc (show IxR _ (Ew K) from bB) (pv 1) (pv 0) (fun _ _ => rfl)))))
  (ak (aF (i := 6) bJ.nd rfl (Or.inl rfl) (aG T.D_last_no_greater (fU T) (by decide) hr aH rfl (aa (pv 5) (aa (pv 2) aj))))
  (ak (aF (i := 7) bJ.nd rfl (Or.inl rfl) (aB bj (aB bj (aB Bm au au) au) (di ((cU T).mono (by decide)) hr (i := 1) rfl (aa (pv 6) aj))))
  (aq (aD (aB aZ (aB b7 (bx (v := .int 32) rfl T.c_BLOCK_BITS ⟨_, rfl⟩) (pv 6)) (aG T.D_one_in (rW T) (by decide) hr aH rfl (aa (pv 7) (aa (aB bj (pv 2) (bc bL (pv 5) (pv 6) (fun _ _ => rfl))) aj)))))))))))), ?_⟩
 refine ⟨_, rfl, t, _, _, _, rfl, rfl, SqT.of ht, jT _ _ _ R.tab.few, ?_⟩
 refine ⟨_, rfl, t, _, _, _, rfl, rfl, SqT.of ht, lY _ _ _ R.tab.few, ?_⟩
 refine ⟨_, rfl, _, rfl, _, rfl, _, rfl, ah, _, _, _, rfl, rfl, SqT.of hah, hla, _, _, rfl, rfl, _, _, rfl, p0, p1, ?_⟩
 have hsum : 0 ≤ ns.sum := by
  have := dg hb 0 ns.length (by omega)
  rw [List.take_length] at this
  exact this
 have hMp : 0 < many ns.length := by
  unfold many
  omega
 refine ⟨_, rfl, ah, _, rfl, .inr (SqT.of hah), _, _, rfl, rfl, (many ns.length : Int), ?_, by omega, by omega, ?_⟩
 ·refine congrArg (fun x => [V.int x]) ?_
  rw [List.length_map, dz]
  omega
 intro D hD
 refine ⟨fun i m ys H' => m = many ns.length - i ∧ i ≤ many ns.length ∧ ys = (nz ns i).map V.int ∧ H' = upd H D (.lst ys), ⟨_, rfl, Nat.zero_le _, rfl, rfl⟩, ?_⟩
 rintro i m ys H' ⟨rfl, hi, rfl, rfl⟩
 by_cases hlt : i < many ns.length
 ·refine .inr ⟨hlt, fun v H4' y => ?_⟩
  obtain ⟨rfl, rfl⟩ := y
  unfold Av
  refine fu ?_
  have hatA : atI ((ahd ns (many ns.length)).map V.int) (0 + (i : Int)) = some (.int (ns.take (32 * i)).sum) := by
   rw [Int.zero_add]
   exact jW (jQ (by omega))
  refine ⟨_, rfl, _, _, rfl, rfl, .inl ⟨by decide, by decide⟩, _, rfl, _, rfl, ah, _, _, _, rfl, rfl, SqT.of (az hD _ _ _ hah), hatA, _, _, rfl, rfl, ao, ?_, many ns.length - (i + 1), by omega, rfl, hlt, ?_, ?_⟩
  ·rw [List.length_map, gU, sizeLine_eq]
   omega
  ·rw [De, List.map_append, Int.zero_add]
   rfl
  ·rw [iw]
 have e : i = many ns.length := by omega
 subst e
 refine .inl ⟨Nat.le_refl _, ?_⟩
 have smD := az hD (.lst ((nz ns (many ns.length)).map V.int))
 have xD : upd H D (.lst ((nz ns (many ns.length)).map V.int)) D = some (.lst ((nz ns (many ns.length)).map V.int)) := ao
 have R' := R.same smD
 have hsn := R.asks.seen
 generalize upd H D (.lst ((nz ns (many ns.length)).map V.int)) = H0 at *
 refine ⟨_, rfl, _, rfl, D, nz ns (many ns.length), _, rfl, .inl (SqL.of xD), (by rw [gU]; omega), (by rw [gU]; omega), fun lo hlo c1 c2 => ?_⟩
 rw [gU] at hlo c2
 have d1 : 32 * (lo : Int) - (ns.take (32 * lo)).sum ≤ nth := by
  rcases c1 with c1 | ⟨x, e2, c1⟩
  ·subst c1
   have : (ns.take (32 * 0)).sum = 0 := rfl
   omega
  ·rw [wV hlo] at e2
   cases e2
   exact c1
 have hw : 32 * lo < ns.length := by
  unfold many at hlo
  omega
 obtain ⟨wd, hw1, hw2, hw3⟩ : ∃ wd : Nat, wd ≤ 32 ∧ 32 * lo + wd ≤ ns.length ∧ nth < ((32 * lo + wd : Nat) : Int) - (ns.take (32 * lo + wd)).sum := by
  rcases c2 with c2 | ⟨x, e2, c2⟩
  ·refine ⟨ns.length - 32 * lo, by unfold many at c2; omega, by omega, ?_⟩
   rw [show 32 * lo + (ns.length - 32 * lo) = ns.length from by omega, List.take_length]
   exact p1
  ·have hx := (List.getElem?_eq_some_iff.mp e2).1
   rw [gU] at hx
   rw [wV hx] at e2
   cases e2
   refine ⟨32, by omega, by unfold many at hx; omega, ?_⟩
   have e3 : 32 * (lo + 1) = 32 * lo + 32 := by omega
   rw [e3] at c2
   omega
 have hsb := lV hb lo
 have b0 : 0 ≤ bA ns lo := qi hsb
 have b32 : bA ns lo < 2 ^ 32 := by
  have h3 := Az hsb
  have h4 : (2 : Int) ^ ((ns.drop (32 * lo)).take 32).length ≤ 2 ^ 32 := yw _ _ (by rw [List.length_take]; omega)
  exact Int.lt_of_lt_of_le h3 h4
 obtain ⟨tb, to⟩ := turned b0 b32
 have sbw := eZ hb lo wd hw1
 obtain ⟨k0, hk0, hk1, hk2⟩ := xN (2 ^ 32 - 1 - bA ns lo) (nth - (32 * (lo : Int) - (ns.take (32 * lo)).sum)) (by omega) wd (by rw [to wd hw1]; omega)
 have hlk : ((cW ns).map V.int)[lo]? = some (.int (bA ns lo)) := by
  rw [List.getElem?_map, cV hlo]
  rfl
 obtain ⟨o, fd, e1, gg1⟩ := R'.asks.look.fn
 have nD : D ≠ sn := fun z => by rw [← z] at hsn; rw [hsn] at hD; cases hD
 refine ⟨_, _, rfl, rfl, ⟨by decide, by decide, by decide⟩, _, _, rfl, rfl, f, o, fd, rfl, e1, gg1, _, rfl, e1, sn, bl, ss, _, lo, _, rfl, R'.asks, hls, hlk, _, _, rfl, rfl, ?_⟩
 have hat : atI ((nz ns (many ns.length)).map V.int) (lo : Int) = some (.int (32 * (lo : Int) - (ns.take (32 * lo)).sum)) := jW (wV hlo)
 refine ⟨_, rfl, _, _, rfl, rfl, .inl ⟨by decide, by decide⟩, _, rfl, _, rfl, _, rfl, _, rfl, D, _, _, _, rfl, rfl, SqL.of (by rw [aC nD]; exact xD), hat, _, _, rfl, rfl, ?_⟩
 refine ⟨_, _, rfl, fun H' sm k hk b1 o1 => ?_, fun H' sm no => absurd ⟨hk1, hk2⟩ (no k0 (by omega))⟩
 refine ⟨_, _, rfl, rfl, ?_⟩
 have b1 : bit (2 ^ 32 - 1 - bA ns lo) k = 1 := b1
 have o1 : ones (2 ^ 32 - 1 - bA ns lo) k = nth - (32 * (lo : Int) - (ns.take (32 * lo)).sum) := o1
 have ek : k = k0 := yM b1 hk1 (by omega)
 have hk9 : k < wd := by omega
 have bz := tb k hk
 have oz := to k (by omega)
 have hp : ns[32 * lo + k]? = some 0 := by
  have h5 := bit_at hb lo k hk
  have h6 : ns[32 * lo + k]? = some ns[32 * lo + k] := List.getElem?_eq_getElem (by omega)
  rw [h6] at h5 ⊢
  have h5 : bit (bA ns lo) k = ns[32 * lo + k] := h5
  exact congrArg some (by omega)
 have hs : ((32 * lo + k : Nat) : Int) - (ns.take (32 * lo + k)).sum = nth := by
  have := eZ hb lo k (by omega)
  omega
 have sU : aR (L2.upd H sn (.lst ((ss ++ [(lo : Int)]).map V.int))) (L2.upd H0 sn (.lst ((ss ++ [(lo : Int)]).map V.int))) := fun b o e => by
  by_cases z : b = sn
  ·subst z
   rw [ao] at e ⊢
   exact e
  ·rw [aC z] at e ⊢
   exact smD b o e
 have := q H' (32 * lo + k) _ hp hs (bF.one ss (by omega) (by omega)) (sU.trans sm)
 rw [show ((32 * lo + k : Nat) : Int) = 32 * (lo : Int) + (k : Int) from by omega] at this
 exact this
def rK : Sp := fun vs H Q E => ∃ (t f sn bl ah : Addr) (ns ss : List Int) (rest : List V) (at0 : Nat), vs = [.ref t, .ref f, .int (at0 : Int)] ∧ Ask H t f sn bl ah ns ss rest ∧ ss.length < 1000 ∧ at0 ≤ ns.length ∧
 ∀ ss' H', bF (many ns.length) 1 ss ss' → aR (upd H sn (.lst (ss'.map V.int))) H' → Q (.int ((at0 : Int) - (ns.take at0).sum)) H'
theorem rN (T : Tx K mg a) : aU P w K mg base CX0 5 a.f_noughts_at a.fd_noughts_at ["tables", "look", "at"] rK := by
 refine T.D_noughts_at.F.ok rA (fun vs H Q E h => ?_) (fun cdv A outer s H vs Q E hr h => ?_)
 ·obtain ⟨t, f, sn, bl, ah, ns, ss, rest, at0, rfl, _⟩ := h
  rfl
 obtain ⟨t, f, sn, bl, ah, ns, ss, rest, at0, rfl, R, hls, h1, q⟩ := h
 refine ⟨_, (aq (aD (aB bj (pv 2) (aG T.D_ones_at (iI T) (by decide) hr aH rfl (aa (pv 0) (aa (pv 1) (aa (pv 2) aj))))))), ?_⟩
 exact ⟨_, rfl, _, rfl, _, rfl, _, rfl, t, f, sn, bl, ah, ns, ss, rest, at0, rfl, R, hls, h1, fun ss' H' w s => ⟨_, _, rfl, rfl, q ss' H' w s⟩⟩
theorem jh.out {H : Hp} {f b : Addr} {c : qW} {cs : List Addr} {fvs : List V} {xs : List V} (h : jh H f c cs fvs) (e : H b = some (.tup xs)) : b ∉ cs := fun z => by
 obtain ⟨i, hi⟩ := List.getElem?_of_mem z
 obtain ⟨co, v, u, _, e2, _⟩ := h.cells i b hi
 rw [e] at e2
 cases e2
def Quiet (H : Hp) (f nd : Addr) (xs : List V) : Prop := (∃ cs, jh H f aW cs [.ref nd]) ∧ H nd = some (.tup xs)
theorem Quiet.fn {H : Hp} {f nd : Addr} {xs : List V} (h : Quiet H f nd xs) : ∃ o fd, H f = some (aK f o) ∧ o.data = .func fd := by
 obtain ⟨⟨cs, ca⟩, _⟩ := h
 obtain ⟨cd, pm, ctv, oc, vs, t, h1, _⟩ := ca.ex
 exact ⟨_, _, h1, rfl⟩
theorem Quiet.same {H H' : Hp} {f nd : Addr} {xs : List V} (h : Quiet H f nd xs) (s : aR H H') : Quiet H' f nd xs := by
 obtain ⟨⟨cs, ca⟩, h2⟩ := h
 exact ⟨⟨cs, ca.same fun b o e => s _ _ e⟩, s _ _ h2⟩
def oF : Addr → Sp := fun f vs H Q _ => ∃ (nd : Addr) (xs : List V) (n : Nat) (x : V), vs = [.int (n : Int)] ∧ Quiet H f nd xs ∧ xs[n]? = some x ∧ Q x H
theorem dC (T : Tx K mg a) : oU P w K mg base 1 oF := by
 refine FQ mO (fun _ _ _ _ us hl => match us, hl with | [_], _ => rfl) fun f vs H Q h => ?_
 obtain ⟨nd, xs, n, x, rfl, ⟨⟨cs, ca⟩, h2⟩, hg, q⟩ := h
 have o2 := jh.out ca h2
 refine ⟨rfl, cs, [.ref nd], ca, fun cd A outer s hr => ⟨_, (bc bB (pv 1) (pv 0) (fun _ _ => rfl)), ?_⟩⟩
 have g2 : hide H cs nd = some (.tup xs) := by rw [bG o2]; exact h2
 refine ⟨_, rfl, _, rfl, nd, _, _, _, rfl, rfl, SqT.of g2, mD hg, ?_⟩
 show Q x (over H cs (hide H cs))
 rw [sG]
 exact q
def ud (Pt : Addr) : Sp := fun vs H Q _ => ∃ (t nd : Addr) (x y : V) (xs : List V), vs = [.ref t] ∧ H t = some (.tup [x, y, .ref nd]) ∧ H nd = some (.tup xs) ∧ TabAt H Pt (jd bO) aW.qual ∧
 ∀ f H2, H f = none → lD Pt H H2 → TabAt H2 Pt (jd bO) aW.qual → Quiet H2 f nd xs → Q (.ref f) H2
theorem my (T : Tx K mg a) (B : Bs mg base a) : aU P w K mg base CX0 1 a.f_heap_look a.fd_heap_look ["tables"] (ud a.tP_heap_look) := by
 refine Fun.makerL1 (T := aW) (pos := jd bO) T.D_heap_look.F lM tK B.bm T.w_heap_look B.C_heap_look (fun vs H Q E h => ?_) rfl (fun cdv A outer s H vs Q E hr h => ?_)
 ·obtain ⟨t, nd, x, y, xs, rfl, _⟩ := h
  rfl
 obtain ⟨t, nd, x, y, xs, rfl, ht, hn, hT, q⟩ := h
 refine ⟨_, (aF (i := 1) lM.nd rfl (Or.inr rfl) (bc bB (pv 0) au (fun _ _ => rfl))), ?_⟩
 refine ⟨_, rfl, t, _, _, _, rfl, rfl, SqT.of ht, rfl, ?_⟩
 refine ⟨hT, [.ref nd], fun j m e => ?_, rfl, fun fi cs H2 n1 n2 n3 n4 n5 => q fi H2 n1 n3 n4 ⟨⟨cs, n5⟩, n3 _ _ hn (TabAt.ne hT hn nofun)⟩⟩
 match j, e with
 | 0, e => cases e; exact ⟨_, rfl, rfl⟩
 | j + 1, e => simp at e
def wy : Sp := fun vs H Q _ => ∃ (f nd : Addr) (xs : List V) (ns : List Int) (S s n a0 e : Nat) (g : Int), vs = [.int (S : Int), .ref f, .int (n : Int), .int g, .int (s : Int)] ∧ Quiet H f nd xs ∧ fZ ns S 1 xs ∧ ns.length ≤ S ∧ s ≤ 1 ∧ n * 2 ^ e = S + a0 ∧ a0 + 2 ^ e ≤ ns.length ∧ 1 ≤ n ∧ lG xs n ≤ g ∧
 ∀ i : Nat, Hit ns s a0 (a0 + 2 ^ e) g i → Q (.int (i : Int)) H
theorem gW (T : Tx K mg a) : aU P w K mg base CX0 2 a.f_place_beneath a.fd_place_beneath ["size", "look", "node", "goal", "side"] wy := by
 refine T.D_place_beneath.F.ok cL (fun vs H Q E h => ?_) (fun cdv A outer s H vs Q E hr h => ?_)
 ·obtain ⟨f, nd, xs, ns, S, s, n, a0, e, g, rfl, _⟩ := h
  rfl
 obtain ⟨f, nd, xs, ns, S, sd, n, a0, e, g, rfl, hA, hv, hlS, hs, hn, ha, h1, hg, q⟩ := h
 refine ⟨_, (ak (aF (i := 5) cL.nd rfl (Or.inl rfl) (pv 2))
  (ak (jL PassesOwn.never (aM j9 (pv 5) (pv 0) (aO _)) (ak (aF (i := 5) cL.nd rfl (Or.inl rfl) (aB aZ (aB b7 au (pv 5)) (pv 4)))
  (aq (aX (aM ie (di ((dC T).mono (by decide)) hr (i := 1) rfl (aa (pv 5) aj)) (pv 3) (aO _)) (aq (aF (i := 5) cL.nd rfl (Or.inl rfl) (aB bj (aB aZ (pv 5) au) (aB b7 au (pv 4))))) aN))))
  (aq (aD (aB bj (pv 5) (pv 0)))))), ?_⟩
 refine ⟨_, rfl, ?_⟩
 refine ⟨fun m σ H' => ∃ (k e' b : Nat), σ = [some (.int (S : Int)), some (.ref f), some (.int (n : Int)), some (.int g), some (.int (sd : Int)), some (.int (k : Int))] ∧ m = e' ∧ rE ns xs S sd a0 (a0 + 2 ^ e) g e' k b ∧ H' = H,
  ⟨_, n, e, a0, rfl, rfl, rE.start hn h1 hg, rfl⟩, ?_⟩
 rintro e' σ H' ⟨k, _, b, rfl, rfl, hd, rfl⟩
 refine ⟨_, rfl, _, rfl, _, _, rfl, rfl, _, rfl, bI (fun c => ?_) fun c => ?_⟩
 ·have c : (k : Int) < (S : Int) := of_decide_eq_true c
  rcases e' with _ | e'
  ·have := (hd.hit hv hlS ha hs).1
   omega
  obtain ⟨v, xv, km, kb, d1, d2⟩ := hd.step hv hlS ha hs
  refine ⟨_, fun σ' H2 z => z, ?_⟩
  refine ⟨_, rfl, _, _, rfl, rfl, .inl ⟨by decide, by decide⟩, _, rfl, _, _, rfl, rfl, ?_⟩
  obtain ⟨o, fd, e1, g1⟩ := hA.fn
  have ek : (2 : Int) * (k : Int) + (sd : Int) = ((2 * k + sd : Nat) : Int) := by omega
  have hone := hd.one
  refine ⟨f, o, fd, rfl, e1, g1, _, rfl, e1, nd, xs, 2 * k + sd, _, ?_, hA, xv, ?_⟩
  ·exact congrArg (fun v => [v]) (congrArg V.int ek)
  refine ⟨_, rfl, _, _, rfl, rfl, _, rfl, bI (fun z => ?_) fun z => ?_⟩
  ·have z : g < v := of_decide_eq_true z
   obtain ⟨b', d'⟩ := d2 z
   refine ⟨_, rfl, _, _, rfl, rfl, _, rfl, _, _, rfl, rfl, .inl ⟨by decide, by decide⟩, _, _, rfl, rfl, e', by omega, 2 * k + 1 - sd, e', b', ?_, rfl, d', rfl⟩
   rw [show ((2 * k + 1 - sd : Nat) : Int) = 2 * (k : Int) + (sd : Int) + 1 - 2 * (sd : Int) from by omega]
   rfl
  ·have z : ¬ g < v := fun y => z (decide_eq_true y)
   obtain ⟨b', d'⟩ := d1 (by omega)
   refine ⟨e', by omega, 2 * k + sd, e', b', ?_, rfl, d', rfl⟩
   rw [← ek]
   rfl
 ·have c : ¬ (k : Int) < (S : Int) := fun y => c (decide_eq_true y)
  rcases e' with _ | e'
  ·obtain ⟨ek, hh⟩ := hd.hit hv hlS ha hs
   refine ⟨_, rfl, _, rfl, _, _, rfl, rfl, ?_⟩
   have := q b hh
   rw [show (b : Int) = (k : Int) - (S : Int) from by omega] at this
   exact this
  ·obtain ⟨v, xv, km, _⟩ := hd.step hv hlS ha hs
   omega
def Bt : Sp := fun vs H Q _ => ∃ (f nd : Addr) (xs : List V) (ns : List Int) (S st : Nat) (g : Int), vs = [.int (ns.length : Int), .ref f, .int (st : Int), .int g] ∧ Quiet H f nd xs ∧ jb ns.length S ∧ fZ ns S 1 xs ∧ ns.length ≤ 4096 ∧ st ≤ ns.length ∧
 ∀ (x : V) (H' : Hp), aR H H' → ((x = .non ∧ ∀ j c, st ≤ j → ns[j]? = some c → g < c) ∨ ∃ i : Nat, x = .int (i : Int) ∧ Hit ns 0 st ns.length g i) → Q x H'
theorem nF (T : Tx K mg a) : aU P w K mg base CX0 3 a.f_first_at_most a.fd_first_at_most ["many", "look", "start", "goal"] Bt := by
 refine T.D_first_at_most.F.ok gY (fun vs H Q E h => ?_) (fun cdv A outer s H vs Q E hr h => ?_)
 ·obtain ⟨f, nd, xs, ns, S, st, g, rfl, _⟩ := h
  rfl
 obtain ⟨f, nd, xs, ns, S, st, g, rfl, hA, hSz, hv, hl, h1, q⟩ := h
 refine ⟨_, (ak (bR PassesOwn.never rfl (dH (aG T.D_cover (vO T) (by decide) hr aH rfl (aa (pv 0) (aa (pv 2) (aa (pv 0) aj))))) (aV (i := 4) gY.nd rfl (Or.inl rfl)) (aq (aX (aM gZ (di ((dC T).mono (by decide)) hr (i := 1) rfl (aa (pv 4) aj)) (pv 3) (aO _)) (aq (aD (aG T.D_place_beneath (gW T) (by decide) hr aH rfl (aa (aG T.D_size_of (iB T) (by decide) hr aH rfl (aa (pv 0) aj)) (aa (pv 1) (aa (pv 4) (aa (pv 3) (aa au aj)))))))) aN)))
  (aq (aD cB))), ?_⟩
 have hS0 := hSz.pos
 obtain ⟨h, eS, hlS, hj⟩ := id hSz
 refine ⟨_, rfl, _, rfl, _, rfl, ns.length, st, ns.length, rfl, h1, Nat.le_refl _, hl, fun S' r H1 hS' hr0 sm1 hr1 => ?_⟩
 have := jb.uniq hS' hSz
 subst this
 have ch := oY (st := st) ⟨h, eS⟩ h1 hlS hS0
 obtain ⟨_, v1, _, _⟩ := lg hv hlS (Nat.le_refl _) ch (Nat.le_refl _)
 have hA1 := hA.same sm1
 refine ⟨r, rfl, ⟨_, SqL.of hr1⟩, ?_⟩
 refine cZ (xs := nats (cover S' st ns.length)) (fun i σ H' => (∃ k4, σ = [some (.int (ns.length : Int)), some (.ref f), some (.int (st : Int)), some (.int g), k4]) ∧ H' = H1 ∧ ∃ (b : Nat), Chain S' st ns.length ((cover S' st ns.length).drop i) (S' + b) (S' + ns.length) ∧ st ≤ b ∧ ∀ j c, st ≤ j → j < b → ns[j]? = some c → g < c) ⟨⟨none, rfl⟩, rfl, st, ch, Nat.le_refl _, fun j c j1 j2 => by omega⟩ ?_ ?_ ?_
 ·rintro i σ H' _ ⟨_, rfl, _⟩
  exact SqL.of hr1
 ·rintro i x σ H' hx ⟨⟨k4, rfl⟩, rfl, b, chi, hb, hlow⟩
  unfold nats at hx
  rw [List.getElem?_map] at hx
  obtain ⟨n, hn, rfl⟩ : ∃ n, (cover S' st ns.length)[i]? = some n ∧ x = .int (n : Int) := by
   cases e : (cover S' st ns.length)[i]? with
   | none => rw [e] at hx; cases hx
   | some n => rw [e] at hx; exact ⟨n, rfl, (Option.some.inj hx).symm⟩
  have hi := (List.getElem?_eq_some_iff.mp hn).1
  have hd : (cover S' st ns.length).drop i = n :: (cover S' st ns.length).drop (i + 1) := by
   rw [List.drop_eq_getElem_cons hi]
   congr 1
   exact (List.getElem?_eq_some_iff.mp hn).2
  rw [hd] at chi
  obtain ⟨e, ex, ⟨n1, n2, n3, n4⟩, chn⟩ := chi
  have hp : 0 < 2 ^ e := Nat.two_pow_pos e
  have e5 : (n + 1) * 2 ^ e = S' + (b + 2 ^ e) := by rw [Nat.succ_mul, ex]; omega
  rw [e5] at chn n3
  obtain ⟨w1, w2, w3⟩ := v1 n (List.mem_of_getElem? hn)
  obtain ⟨M, m1, m2, m3⟩ := hv.least hlS e n b ex (by omega) n1
  have ev := eY m1
  obtain ⟨o, fd, e1, g1⟩ := hA1.fn
  refine ⟨f, o, fd, rfl, e1, g1, _, rfl, e1, nd, xs, n, _, rfl, hA1, w3, ?_⟩
  refine ⟨_, rfl, _, _, rfl, rfl, _, rfl, bI (fun z => ?_) fun z => ?_⟩
  ·have z : lG xs n ≤ g := of_decide_eq_true z
   refine ⟨_, rfl, ns.length, rfl, by omega, fun S2 hS2 => ?_⟩
   have := jb.uniq hS2 hSz
   subst this
   refine ⟨_, rfl, _, rfl, _, rfl, f, nd, xs, ns, S2, 0, n, b, e, g, rfl, hA1, hv, hlS, by decide, ex, by omega, n1, z, fun p hh4 => ?_⟩
   refine q _ _ sm1 (.inr ⟨p, rfl, ?_⟩)
   obtain ⟨p1, p2, p3, p4⟩ := hh4
   refine ⟨by omega, by omega, p3, fun j c j1 j2 j3 ec => ?_⟩
   rw [if_pos rfl] at j3
   rcases Nat.lt_or_ge j b with y | y
   ·exact hlow j c j1 y ec
   ·exact p4 j c y (by omega) (by rw [if_pos rfl]; exact j3) ec
  ·have z : ¬ lG xs n ≤ g := fun y => z (decide_eq_true y)
   refine ⟨⟨_, rfl⟩, rfl, b + 2 ^ e, chn, by omega, fun j c j1 j2 ec => ?_⟩
   rcases Nat.lt_or_ge j b with y | y
   ·exact hlow j c j1 y ec
   ·have := m3 j c y j2 ec
    omega
 ·rintro σ H' ⟨⟨k4, rfl⟩, rfl, b, chi, hb, hlow⟩
  have e0 : (nats (cover S' st ns.length)).length = (cover S' st ns.length).length := List.length_map ..
  rw [e0, List.drop_length] at chi
  have chi : S' + b = S' + ns.length := chi
  refine q _ _ sm1 (.inl ⟨rfl, fun j c j1 ec => ?_⟩)
  have := (List.getElem?_eq_some_iff.mp ec).1
  exact hlow j c j1 (by omega) ec
def BW : Sp := fun vs H Q _ => ∃ (f nd : Addr) (xs : List V) (ns : List Int) (S sp : Nat) (g : Int), vs = [.int (ns.length : Int), .ref f, .int (sp : Int), .int g] ∧ Quiet H f nd xs ∧ jb ns.length S ∧ fZ ns S 1 xs ∧ ns.length ≤ 4096 ∧ sp ≤ ns.length ∧
 ∀ (x : V) (H' : Hp), aR H H' → ((x = .non ∧ ∀ j c, j < sp → ns[j]? = some c → g < c) ∨ ∃ i : Nat, x = .int (i : Int) ∧ Hit ns 1 0 sp g i) → Q x H'
theorem ph (T : Tx K mg a) : aU P w K mg base CX0 3 a.f_last_at_most a.fd_last_at_most ["many", "look", "stop", "goal"] BW := by
 refine T.D_last_at_most.F.ok iV (fun vs H Q E h => ?_) (fun cdv A outer s H vs Q E hr h => ?_)
 ·obtain ⟨f, nd, xs, ns, S, sp, g, rfl, _⟩ := h
  rfl
 obtain ⟨f, nd, xs, ns, S, sp, g, rfl, hA, hSz, hv, hl, h1, q⟩ := h
 refine ⟨_, (ak (bR PassesOwn.never rfl (An rfl T.b_reversed (aa (aG T.D_cover (vO T) (by decide) hr aH rfl (aa (pv 0) (aa au (aa (pv 2) aj)))) aj) Tw.jg) (aV (i := 4) iV.nd rfl (Or.inl rfl)) (aq (aX (aM gZ (di ((dC T).mono (by decide)) hr (i := 1) rfl (aa (pv 4) aj)) (pv 3) (aO _)) (aq (aD (aG T.D_place_beneath (gW T) (by decide) hr aH rfl (aa (aG T.D_size_of (iB T) (by decide) hr aH rfl (aa (pv 0) aj)) (aa (pv 1) (aa (pv 4) (aa (pv 3) (aa au aj)))))))) aN)))
  (aq (aD cB))), ?_⟩
 have hS0 := hSz.pos
 obtain ⟨h, eS, hlS, hj⟩ := id hSz
 refine ⟨_, rfl, _, rfl, ns.length, 0, sp, rfl, Nat.zero_le _, h1, hl, fun S' r H1 hS' hr0 sm1 hr1 => ?_⟩
 have := jb.uniq hS' hSz
 subst this
 have ch := oY (st := 0) ⟨h, eS⟩ (Nat.zero_le sp) (by omega) hS0
 obtain ⟨_, v1, _, _⟩ := lg hv hlS h1 ch (Nat.le_refl _)
 have hA1 := hA.same sm1
 have e0 : (nats (cover S' 0 sp)).length = (cover S' 0 sp).length := List.length_map ..
 refine ⟨r, _, rfl, SqL.of hr1, ?_⟩
 refine ym (xs := nats (cover S' 0 sp)) (fun i σ H' => (∃ k4, σ = [some (.int (ns.length : Int)), some (.ref f), some (.int (sp : Int)), some (.int g), k4]) ∧ H' = H1 ∧ ∃ (b : Nat), Chain S' 0 sp ((cover S' 0 sp).take ((cover S' 0 sp).length - i)) (S' + 0) (S' + b) ∧ b ≤ sp ∧ ∀ j c, b ≤ j → j < sp → ns[j]? = some c → g < c) ⟨⟨none, rfl⟩, rfl, sp, by rw [Nat.sub_zero, List.take_length]; exact ch, Nat.le_refl _, fun j c j1 j2 => by omega⟩ ?_ ?_ ?_
 ·rintro i σ H' _ ⟨_, rfl, _⟩
  exact SqL.of hr1
 ·rintro i x σ H' hi hx ⟨⟨k4, rfl⟩, rfl, b, chi, hb, hlow⟩
  rw [e0] at hi hx
  unfold nats at hx
  rw [List.getElem?_map] at hx
  obtain ⟨n, hn, rfl⟩ : ∃ n, (cover S' 0 sp)[(cover S' 0 sp).length - 1 - i]? = some n ∧ x = .int (n : Int) := by
   cases e : (cover S' 0 sp)[(cover S' 0 sp).length - 1 - i]? with
   | none => rw [e] at hx; cases hx
   | some n => rw [e] at hx; exact ⟨n, rfl, (Option.some.inj hx).symm⟩
  have et : (cover S' 0 sp).take ((cover S' 0 sp).length - i) = (cover S' 0 sp).take ((cover S' 0 sp).length - (i + 1)) ++ [n] := by
   rw [show (cover S' 0 sp).length - i = ((cover S' 0 sp).length - (i + 1)) + 1 from by omega, List.take_add_one, show (cover S' 0 sp).length - (i + 1) = (cover S' 0 sp).length - 1 - i from by omega, hn]
   rfl
  obtain ⟨y, y1, y2⟩ := oR ((cover S' 0 sp).length - (i + 1)) chi
  have elen : ((cover S' 0 sp).take ((cover S' 0 sp).length - (i + 1))).length = (cover S' 0 sp).length - (i + 1) := by
   rw [List.length_take]
   omega
  rw [et, List.take_append_of_le_length (by rw [elen]; exact Nat.le_refl _), List.take_of_length_le (by rw [elen]; exact Nat.le_refl _)] at y1
  rw [et, List.drop_append_of_le_length (by rw [elen]; exact Nat.le_refl _), List.drop_of_length_le (by rw [elen]; exact Nat.le_refl _), List.nil_append] at y2
  obtain ⟨e, ex, ⟨n1, n2, n3, n4⟩, chn⟩ := y2
  have hy := vY y1
  obtain ⟨a0, rfl⟩ : ∃ a0, y = S' + a0 := ⟨y - S', by omega⟩
  have hp : 0 < 2 ^ e := Nat.two_pow_pos e
  have e5 : (n + 1) * 2 ^ e = S' + (a0 + 2 ^ e) := by rw [Nat.succ_mul, ex]; omega
  have chn : (n + 1) * 2 ^ e = S' + b := chn
  rw [e5] at chn n3
  obtain ⟨w1, w2, w3⟩ := v1 n (List.mem_of_getElem? hn)
  obtain ⟨M, m1, m2, m3⟩ := hv.least hlS e n a0 ex (by omega) n1
  have ev := eY m1
  obtain ⟨o, fd, e1, g1⟩ := hA1.fn
  refine ⟨f, o, fd, rfl, e1, g1, _, rfl, e1, nd, xs, n, _, rfl, hA1, w3, ?_⟩
  refine ⟨_, rfl, _, _, rfl, rfl, _, rfl, bI (fun z => ?_) fun z => ?_⟩
  ·have z : lG xs n ≤ g := of_decide_eq_true z
   refine ⟨_, rfl, ns.length, rfl, by omega, fun S2 hS2 => ?_⟩
   have := jb.uniq hS2 hSz
   subst this
   refine ⟨_, rfl, _, rfl, _, rfl, f, nd, xs, ns, S2, 1, n, a0, e, g, rfl, hA1, hv, hlS, by decide, ex, by omega, n1, z, fun p hh4 => ?_⟩
   refine q _ _ sm1 (.inr ⟨p, rfl, ?_⟩)
   obtain ⟨p1, p2, p3, p4⟩ := hh4
   refine ⟨Nat.zero_le _, by omega, p3, fun j c j1 j2 j3 ec => ?_⟩
   rw [if_neg (by decide)] at j3
   rcases Nat.lt_or_ge j b with y | y
   ·exact p4 j c (by omega) (by omega) (by rw [if_neg (by decide)]; exact j3) ec
   ·exact hlow j c y j2 ec
  ·have z : ¬ lG xs n ≤ g := fun y => z (decide_eq_true y)
   refine ⟨⟨_, rfl⟩, rfl, a0, y1, by omega, fun j c j1 j2 ec => ?_⟩
   rcases Nat.lt_or_ge j b with y | y
   ·have := m3 j c j1 (by omega) ec
    omega
   ·exact hlow j c y j2 ec
 ·rintro σ H' ⟨⟨k4, rfl⟩, rfl, b, chi, hb, hlow⟩
  rw [e0, Nat.sub_self, List.take_zero] at chi
  have chi : S' + 0 = S' + b := chi
  exact q _ _ sm1 (.inl ⟨rfl, fun j c j1 ec => hlow j c (by omega) j1 ec⟩)
structure BP where
 t : Addr
 f : Addr
 sn : Addr
 bl : Addr
 ah : Addr
 nd : Addr
 ns : List Int
 lows : List Int
 S : Nat
 xs : List V
structure Brk (H : Hp) (Ph : Addr) (p : BP) (ss : List Int) : Prop where
 ask : Ask H p.t p.f p.sn p.bl p.ah p.ns ss [.ref p.nd]
 nds : H p.nd = some (.tup p.xs)
 low : xq p.ns p.lows
 sz : jb p.lows.length p.S
 heap : fZ p.lows p.S 1 p.xs
 tab : TabAt H Ph (jd bO) aW.qual
structure Did (H H' : Hp) (Ph sn : Addr) (n k : Nat) (ss ss' : List Int) : Prop where
 kp : ∀ b o, H b = some o → b ≠ Ph → b ≠ sn → H' b = some o
 seen : H' sn = some (.lst (ss'.map V.int))
 tab : TabAt H' Ph (jd bO) aW.qual
 wr : bF n k ss ss'
theorem Did.trans {H H1 H2 : Hp} {Ph sn : Addr} {n j k : Nat} {a b c : List Int} (h : Did H H1 Ph sn n j a b) (h' : Did H1 H2 Ph sn n k b c) : Did H H2 Ph sn n (j + k) a c :=
 ⟨fun x o e n1 n2 => h'.kp x o (h.kp x o e n1 n2) n1 n2, h'.seen, h'.tab, h.wr.trans h'.wr⟩
theorem Did.le {H H1 : Hp} {Ph sn : Addr} {n j k : Nat} {a b : List Int} (h : Did H H1 Ph sn n j a b) (hk : j ≤ k) : Did H H1 Ph sn n k a b := ⟨h.kp, h.seen, h.tab, h.wr.le hk⟩
theorem Did.same {H H1 H2 : Hp} {Ph sn : Addr} {n j : Nat} {a b : List Int} (h : Did H H1 Ph sn n j a b) (s : aR H1 H2) : Did H H2 Ph sn n j a b :=
 ⟨fun x o e n1 n2 => s _ _ (h.kp x o e n1 n2), s _ _ h.seen, TabAt.same h.tab s, h.wr⟩
theorem Brk.self {H : Hp} {Ph : Addr} {p : BP} {ss : List Int} (h : Brk H Ph p ss) (n : Nat) : Did H H Ph p.sn n 0 ss ss := ⟨fun _ _ e _ _ => e, h.ask.asks.seen, h.tab, bF.none ss⟩
theorem Brk.look {H H' : Hp} {Ph : Addr} {p : BP} {ss ss' : List Int} (h : Brk H Ph p ss) {n k : Nat} (w : bF n k ss ss') (s : aR (L2.upd H p.sn (.lst (ss'.map V.int))) H') : Did H H' Ph p.sn n k ss ss' :=
 ⟨fun x o e n1 n2 => s _ _ (by rw [aC n2]; exact e), s _ _ ao, TabAt.same (TabAt.upd h.tab h.ask.asks.seen) s, w⟩
theorem Brk.did {H H' : Hp} {Ph : Addr} {p : BP} {ss ss' : List Int} {n k : Nat} (h : Brk H Ph p ss) (d : Did H H' Ph p.sn n k ss ss') (hl : ss'.length ≤ 1000) : Brk H' Ph p ss' := by
 have nP : ∀ b o, H b = some o → (∀ ps, o ≠ .tbl ps) → b ≠ Ph := fun b o e n => TabAt.ne h.tab e n
 have nS : ∀ b o, H b = some o → (∀ ps, o ≠ .lst ps) → b ≠ p.sn := fun b o e n z => by
  rw [z, h.ask.asks.seen] at e
  cases e
  exact n _ rfl
 have k1 : ∀ b o, H b = some o → (∀ ps, o ≠ .tbl ps) → (∀ ps, o ≠ .lst ps) → H' b = some o := fun b o e n1 n2 => d.kp b o e (nP b o e n1) (nS b o e n2)
 obtain ⟨cs, ca⟩ := h.ask.asks.look
 exact ⟨⟨⟨k1 _ _ h.ask.tab.tup nofun nofun, k1 _ _ h.ask.tab.ahs nofun nofun, h.ask.tab.few⟩, ⟨⟨cs, ca.same fun b o e => k1 _ _ e nofun nofun⟩, d.seen, d.kp _ _ h.ask.asks.nodes (nP _ _ h.ask.asks.nodes nofun) h.ask.asks.ne.symm, h.ask.asks.ne, hl⟩, h.ask.bits, h.ask.len⟩, k1 _ _ h.nds nofun nofun, h.low, h.sz, h.heap, d.tab⟩
theorem Brk.same {H H' : Hp} {Ph : Addr} {p : BP} {ss : List Int} (h : Brk H Ph p ss) (s : aR H H') : Brk H' Ph p ss := ⟨h.ask.same s, s _ _ h.nds, h.low, h.sz, h.heap, TabAt.same h.tab s⟩
theorem Brk.lenL {H : Hp} {Ph : Addr} {p : BP} {ss : List Int} (h : Brk H Ph p ss) : p.lows.length = many p.ns.length ∧ many p.ns.length ≤ 128 := ⟨h.low.len, by have := h.ask.len; unfold many; omega⟩
theorem Brk.made {H H' : Hp} {Ph : Addr} {p : BP} {ss : List Int} (h : Brk H Ph p ss) (b : lD Ph H H') (t : TabAt H' Ph (jd bO) aW.qual) (n : Nat) : Did H H' Ph p.sn n 0 ss ss :=
 ⟨fun x o e n1 _ => b x o e n1, b _ _ h.ask.asks.seen (TabAt.ne h.tab h.ask.asks.seen nofun), t, bF.none ss⟩
theorem Did.free {H H' : Hp} {Ph sn l : Addr} {n k : Nat} {ss ss' : List Int} (d : Did H H' Ph sn n k ss ss') (h : H' l = none) : H l = none := by
 cases e : H l with
 | none => rfl
 | some o =>
  by_cases z1 : l = Ph
  ·obtain ⟨ps, h1, _⟩ := d.tab
   rw [z1, h1] at h
   cases h
  by_cases z2 : l = sn
  ·rw [z2, d.seen] at h
   cases h
  rw [d.kp l o e z1 z2] at h
  cases h
def pB : Sp := fun vs H Q _ => ∃ (j at0 : Nat), vs = [.int (j : Int), .int (at0 : Int)] ∧ Q (.int ((at0 - 32 * j : Nat) : Int)) H
theorem pA (T : Tx K mg a) : aU P w K mg base CX0 1 a.f_start_within a.fd_start_within ["number", "at"] pB := by
 refine T.D_start_within.F.ok o9 (fun vs H Q E h => ?_) (fun cdv A outer s H vs Q E hr h => ?_)
 ·obtain ⟨j, at0, rfl, _⟩ := h
  rfl
 obtain ⟨j, at0, rfl, q⟩ := h
 refine ⟨_, (aq (aD (aQ (yJ rfl) rfl T.b_max Tw.Fe (aa (aB bj (pv 1) (aB b7 (bx (v := .int 32) rfl T.c_BLOCK_BITS ⟨_, rfl⟩) (pv 0))) (aa au aj))))), ?_⟩
 refine ⟨_, rfl, _, rfl, _, _, rfl, rfl, .inl ⟨by decide, by decide⟩, _, _, rfl, rfl, _, _, rfl, ?_⟩
 have e : (if (at0 : Int) - 32 * (j : Int) < 0 then (0 : Int) else (at0 : Int) - 32 * (j : Int)) = ((at0 - 32 * j : Nat) : Int) := by
  split <;> omega
 rw [← e] at q
 exact q
def pZ : Sp := fun vs H Q _ => ∃ (t ah : Addr) (ns : List Int) (rest : List V), vs = [.ref t] ∧ Tab H t ah ns rest ∧ Q (.int (many ns.length : Nat)) H
theorem jM (T : Tx K mg a) : aU P w K mg base CX0 1 a.f_block_count a.fd_block_count ["tables"] pZ := by
 refine T.D_block_count.F.ok qO (fun vs H Q E h => ?_) (fun cdv A outer s H vs Q E hr h => ?_)
 ·obtain ⟨t, ah, ns, rest, rfl, _⟩ := h
  rfl
 obtain ⟨t, ah, ns, rest, rfl, hT, q⟩ := h
 refine ⟨_, (aq (aD (aB bj (aQ aL rfl T.b_len Tw.bH (aa (bc bB (pv 0) au (fun _ _ => rfl)) aj)) au))), ?_⟩
 refine ⟨_, rfl, t, _, _, _, rfl, rfl, SqT.of hT.tup, lY _ _ _ hT.few, ah, _, rfl, .inr (SqT.of hT.ahs), _, _, rfl, rfl, ?_⟩
 have e : (((ahd ns (many ns.length)).map V.int).length : Int) - 1 = ((many ns.length : Nat) : Int) := by
  rw [List.length_map, dz]
  omega
 rw [← e] at q
 exact q
def pC : Sp := fun vs H Q _ => ∃ (j : Nat) (x : V), vs = [.int (j : Int), x] ∧ ((x = .non ∧ Q .non H) ∨ ∃ k : Nat, x = .int (k : Int) ∧ Q (.int ((32 * j + k : Nat) : Int)) H)
theorem iZ (T : Tx K mg a) : aU P w K mg base CX0 1 a.f_place_of_bit a.fd_place_of_bit ["number", "within"] pC := by
 refine T.D_place_of_bit.F.ok pH (fun vs H Q E h => ?_) (fun cdv A outer s H vs Q E hr h => ?_)
 ·obtain ⟨j, x, rfl, _⟩ := h
  rfl
 obtain ⟨j, x, rfl, h⟩ := h
 refine ⟨_, (ak (aX (gK (iy (pv 1))) (aq (aD cB)) aN)
  (aq (aD (aB aZ (aB b7 (bx (v := .int 32) rfl T.c_BLOCK_BITS ⟨_, rfl⟩) (pv 0)) (pv 1))))), ?_⟩
 rcases h with ⟨rfl, q⟩ | ⟨k, rfl, q⟩
 ·exact ⟨_, rfl, _, rfl, fu q⟩
 ·refine ⟨_, rfl, _, rfl, cI ⟨_, rfl, _, _, rfl, rfl, .inl ⟨by decide, by decide⟩, _, rfl, _, _, rfl, rfl, ?_⟩⟩
  rw [show ((32 * j + k : Nat) : Int) = 32 * (j : Int) + (k : Int) from by omega] at q
  exact q
def pG : Sp := fun vs H Q _ => ∃ (t f sn bl ah : Addr) (ns ss : List Int) (rest : List V) (j at0 : Nat) (g : Int), vs = [.ref t, .ref f, .int (j : Int), .int (at0 : Int), .int g] ∧ Ask H t f sn bl ah ns ss rest ∧ ss.length < 1000 ∧ 32 * j < ns.length ∧
 ∀ x ss' H', ((x = .non ∧ bT ns (max at0 (32 * j)) (32 * j + wide ns.length j) g) ∨ ∃ k : Nat, x = .int (k : Int) ∧ cO ns (max at0 (32 * j)) (32 * j + wide ns.length j) g k) → bF (many ns.length) 1 ss ss' → aR (upd H sn (.lst (ss'.map V.int))) H' → Q x H'
theorem iY (T : Tx K mg a) : aU P w K mg base CX0 5 a.f_first_within a.fd_first_within ["tables", "look", "number", "at", "goal"] pG := by
 refine T.D_first_within.F.ok eH (fun vs H Q E h => ?_) (fun cdv A outer s H vs Q E hr h => ?_)
 ·obtain ⟨t, f, sn, bl, ah, ns, ss, rest, j, at0, g, rfl, _⟩ := h
  rfl
 obtain ⟨t, f, sn, bl, ah, ns, ss, rest, j, at0, g, rfl, hA, hls, hj, q⟩ := h
 refine ⟨_, (ak (aF (i := 5) eH.nd rfl (Or.inl rfl) (aG T.D_start_within (pA T) (by decide) hr aH rfl (aa (pv 2) (aa (pv 3) aj))))
  (ak (aF (i := 6) eH.nd rfl (Or.inl rfl) (aG T.D_end_within (gB T) (by decide) hr aH rfl (aa (pv 2) (aa (bc bB (pv 0) au (fun _ _ => rfl)) aj))))
  (aq (aD (aG T.D_place_of_bit (iZ T) (by decide) hr aH rfl (aa (pv 2) (aa (aG T.D_first_low_in (o5 T) (by decide) hr aH rfl (aa (di ((cU T).mono (by decide)) hr (i := 1) rfl (aa (pv 2) aj)) (aa (pv 5) (aa (pv 6) (aa (aB bj (pv 4) (aG T.D_base_of (lr T) (by decide) hr aH rfl (aa (pv 0) (aa (pv 2) aj)))) aj))))) aj))))))), ?_⟩
 obtain ⟨o, fd, e1, g1⟩ := hA.asks.look.fn
 have hm : j < many ns.length := by
  unfold many
  omega
 have hw : wide ns.length j ≤ 32 := by
  unfold wide
  omega
 have hg : ((cW ns).map V.int)[j]? = some (.int (bA ns j)) := by
  rw [List.getElem?_map, cV hm]
  rfl
 refine ⟨_, rfl, _, rfl, j, at0, rfl, ?_⟩
 refine ⟨_, rfl, _, rfl, t, _, _, _, rfl, rfl, SqT.of hA.tab.tup, jT _ _ _ hA.tab.few, j, ns.length, rfl, Nat.le_of_lt hj, ?_⟩
 refine ⟨_, rfl, f, o, fd, rfl, e1, g1, _, rfl, e1, sn, bl, ss, _, j, _, rfl, hA.asks, hls, hg, ?_⟩
 have hA2 := hA.more (tt := ss ++ [(j : Int)]) (by rw [List.length_append, List.length_singleton]; omega)
 refine ⟨_, rfl, _, rfl, _, rfl, _, rfl, _, rfl, t, ah, ns, rest, j, rfl, hA2.tab, Nat.le_of_lt hm, _, _, rfl, rfl, ?_⟩
 have em : 32 * j + (at0 - 32 * j) = max at0 (32 * j) := by omega
 have w := bF.one (n := many ns.length) ss (i := (j : Int)) (by omega) (by omega)
 refine ⟨bA ns j, at0 - 32 * j, wide ns.length j, g - ht ns (32 * j), rfl, hw, fun H' k sm hd hle => ?_, fun H' sm hno => ?_⟩
 ·have := first_within hA.bits hw hd hle
  rw [em] at this
  exact ⟨j, _, rfl, .inr ⟨k, rfl, q _ _ H' (.inr ⟨_, rfl, this⟩) w sm⟩⟩
 ·have := oH hA.bits hw hno
  rw [em] at this
  exact ⟨j, _, rfl, .inl ⟨rfl, q _ _ H' (.inl ⟨rfl, this⟩) w sm⟩⟩
def rO (Ph : Addr) : Sp := fun vs H Q _ => ∃ (p : BP) (ss : List Int) (at0 : Nat) (g : Int), vs = [.ref p.t, .ref p.f, .int (at0 : Int), .int g] ∧ Brk H Ph p ss ∧ ss.length ≤ 990 ∧ at0 ≤ p.ns.length ∧
 ∀ x ss' H', ((x = .non ∧ bT p.ns at0 p.ns.length g) ∨ ∃ k : Nat, x = .int (k : Int) ∧ cO p.ns at0 p.ns.length g k) → Did H H' Ph p.sn (many p.ns.length) 2 ss ss' → Q x H'
theorem rD (T : Tx K mg a) (B : Bs mg base a) : aU P w K mg base CX0 6 a.f_low_behind a.fd_low_behind ["tables", "look", "at", "goal"] (rO a.tP_heap_look) := by
 refine T.D_low_behind.F.ok dI (fun vs H Q E h => ?_) (fun cdv A outer s H vs Q E hr h => ?_)
 ·obtain ⟨p, ss, at0, g, rfl, _⟩ := h
  rfl
 obtain ⟨p, ss, at0, g, rfl, hB, hls, h1, q⟩ := h
 refine ⟨_, (ak (aY (aG T.D_check_place (dh T) (by decide) hr aH rfl (aa (pv 2) (aa (bc bB (pv 0) au (fun _ _ => rfl)) aj))))
  (ak (aX (aM fO (pv 2) (bc bB (pv 0) au (fun _ _ => rfl)) (aO _)) (aq (aD cB)) aN)
  (ak (aF (i := 4) dI.nd rfl (Or.inl rfl) (aB dG (pv 2) (bx (v := .int 32) rfl T.c_BLOCK_BITS ⟨_, rfl⟩)))
  (ak (aF (i := 5) dI.nd rfl (Or.inl rfl) (aG T.D_first_within (iY T) (by decide) hr aH rfl (aa (pv 0) (aa (pv 1) (aa (pv 4) (aa (pv 2) (aa (pv 3) aj)))))))
  (ak (aX (gK (yj (pv 5))) (aq (aD (pv 5))) aN)
  (ak (aF (i := 6) dI.nd rfl (Or.inl rfl) (aG T.D_first_at_most (nF T) (by decide) hr aH rfl (aa (aG T.D_block_count (jM T) (by decide) hr aH rfl (aa (pv 0) aj)) (aa (aG T.D_heap_look (my T B) (by decide) hr aH rfl (aa (pv 0) aj)) (aa (aB aZ (pv 4) au) (aa (pv 3) aj))))))
  (ak (aX (gK (iy (pv 6))) (aq (aD cB)) aN)
  (aq (aD (aG T.D_first_within (iY T) (by decide) hr aH rfl (aa (pv 0) (aa (pv 1) (aa (pv 6) (aa (pv 2) (aa (pv 3) aj))))))))))))))), ?_⟩
 have hlen := hB.ask.len
 refine ⟨_, rfl, _, rfl, p.t, _, _, _, rfl, rfl, SqT.of hB.ask.tab.tup, rfl, _, _, rfl, by omega, by omega, ?_⟩
 refine ⟨_, rfl, _, rfl, p.t, _, _, _, rfl, rfl, SqT.of hB.ask.tab.tup, rfl, rfl, _, rfl, bI (fun c => ?_) fun c => ?_⟩
 ·have c : V.int (at0 : Int) = V.int (p.ns.length : Int) := of_decide_eq_true c
  injection c with c
  exact q _ ss H (.inl ⟨rfl, bT.empty (by omega)⟩) ((hB.self _).le (by decide))
 have c : (at0 : Int) ≠ (p.ns.length : Int) := fun z => c (decide_eq_true (congrArg V.int z))
 have ef : (at0 : Int) / 32 = ((at0 / 32 : Nat) : Int) := by omega
 refine ⟨_, rfl, _, _, rfl, rfl, ⟨by decide, by decide⟩, ?_⟩
 refine ⟨_, rfl, _, rfl, _, rfl, _, rfl, _, rfl, p.t, p.f, p.sn, p.bl, p.ah, p.ns, ss, _, at0 / 32, at0, g, ?_, hB.ask, by omega, by omega, fun x ss1 H1 hx wr1 s1 => ?_⟩
 ·rw [← ef]
  rfl
 have d1 := hB.look wr1 s1
 have l1 := wr1.len
 have hB1 := hB.did d1 (by omega)
 rw [show max at0 (32 * (at0 / 32)) = at0 from by omega] at hx
 rcases hx with ⟨rfl, hno⟩ | ⟨k, rfl, hf⟩
 rotate_left
 ·refine ⟨_, rfl, _, rfl, fu ⟨_, rfl, q _ ss1 H1 (.inr ⟨k, rfl, hf.wider (by unfold wide; omega)⟩) (d1.le (by decide))⟩⟩
 refine ⟨_, rfl, _, rfl, cI ?_⟩
 obtain ⟨e1, e2⟩ := hB.lenL
 refine ⟨_, rfl, p.t, p.ah, p.ns, _, rfl, hB1.ask.tab, ?_⟩
 refine ⟨_, rfl, p.t, p.nd, _, _, p.xs, rfl, hB1.ask.tab.tup, hB1.nds, hB1.tab, fun fh H5 nf b5 hT5 qu => ?_⟩
 have d5 := d1.trans (hB1.made b5 hT5 (many p.ns.length))
 have hB5 := hB.did d5 (by omega)
 have ev : [V.int ((many p.ns.length : Nat) : Int), .ref fh, .int ((at0 : Int) / 32 + 1), .int g] = [.int (p.lows.length : Int), .ref fh, .int ((at0 / 32 + 1 : Nat) : Int), .int g] := by
  rw [e1, ef]
  rfl
 have hle : at0 / 32 + 1 ≤ many p.ns.length := by
  unfold many
  omega
 refine ⟨_, rfl, _, _, rfl, rfl, _, rfl, fh, p.nd, p.xs, p.lows, p.S, at0 / 32 + 1, g, ev, qu, hB.sz, hB.heap, by omega, by omega, fun x H6 s6 hx => ?_⟩
 have d6 := d5.same s6
 have hB6 := hB5.same s6
 have hno1 : bT p.ns at0 (32 * (at0 / 32 + 1)) g ∨ 32 * (at0 / 32 + 1) > p.ns.length := by
  rcases Nat.lt_or_ge p.ns.length (32 * (at0 / 32 + 1)) with z | z
  ·exact .inr z
  ·rw [show 32 * (at0 / 32) + wide p.ns.length (at0 / 32) = 32 * (at0 / 32 + 1) from by unfold wide; omega] at hno
   exact .inl hno
 rcases hx with ⟨rfl, hall⟩ | ⟨i, rfl, h3, h4, ⟨c5, h5, h5'⟩, h6⟩
 ·refine ⟨_, rfl, _, rfl, fu (q _ ss1 H6 (.inl ⟨rfl, ?_⟩) (d6.le (by decide)))⟩
  rcases hno1 with hno1 | z
  ·refine hno1.join (hB.low.none (i := at0 / 32 + 1) (j := many p.ns.length) (fun t cc t1 t2 e => hall t cc t1 e) ?_ (Nat.le_refl _))
   unfold many
   omega
  ·rw [show 32 * (at0 / 32) + wide p.ns.length (at0 / 32) = p.ns.length from by unfold wide; omega] at hno
   exact hno
 rw [e1] at h4
 have hi : 32 * i < p.ns.length := by
  unfold many at h4
  omega
 have hno1' : bT p.ns at0 (32 * (at0 / 32 + 1)) g := by
  rcases hno1 with z | z
  ·exact z
  ·omega
 refine ⟨_, rfl, _, rfl, cI ?_⟩
 refine ⟨_, rfl, _, rfl, _, rfl, _, rfl, _, rfl, p.t, p.f, p.sn, p.bl, p.ah, p.ns, ss1, _, i, at0, g, rfl, hB6.ask, by omega, hi, fun x ss7 H7 hx wr7 s7 => ?_⟩
 have d7 := d6.trans (hB6.look wr7 s7)
 rw [show max at0 (32 * i) = 32 * i from by omega, show 32 * i + wide p.ns.length i = min (32 * i + 32) p.ns.length from by unfold wide; omega] at hx
 have hno2 : bT p.ns at0 (32 * i) g := hno1'.join (hB.low.none (i := at0 / 32 + 1) (j := i) (fun t cc t1 t2 e => h6 t cc t1 (by rw [e1]; omega) (by rw [if_pos rfl]; exact t2) e) (Nat.le_refl _) (by omega))
 rcases hx with ⟨rfl, hn⟩ | ⟨k, rfl, hf⟩
 ·exact absurd hn (hB.low.some h5 h5')
 ·refine q _ ss7 H7 (.inr ⟨k, rfl, ?_⟩) d7
  exact ((cO.after hno2 hf (by omega)).wider (by omega))
def qx : Sp := fun vs H Q _ => ∃ (t f sn bl ah : Addr) (ns ss : List Int) (rest : List V) (j up : Nat) (g : Int), vs = [.ref t, .ref f, .int (j : Int), .int (up : Int), .int g] ∧ Ask H t f sn bl ah ns ss rest ∧ ss.length < 1000 ∧ 32 * j < up ∧ up ≤ ns.length ∧
 ∀ x ss' H', ((x = .non ∧ bT ns (32 * j) (32 * j + wide up j) g) ∨ ∃ k : Nat, x = .int (k : Int) ∧ gM ns (32 * j) (32 * j + wide up j) g k) → bF (many ns.length) 1 ss ss' → aR (upd H sn (.lst (ss'.map V.int))) H' → Q x H'
theorem ju (T : Tx K mg a) : aU P w K mg base CX0 5 a.f_last_within a.fd_last_within ["tables", "look", "number", "upto", "goal"] qx := by
 refine T.D_last_within.F.ok jl (fun vs H Q E h => ?_) (fun cdv A outer s H vs Q E hr h => ?_)
 ·obtain ⟨t, f, sn, bl, ah, ns, ss, rest, j, up, g, rfl, _⟩ := h
  rfl
 obtain ⟨t, f, sn, bl, ah, ns, ss, rest, j, up, g, rfl, hA, hls, hj, hup, q⟩ := h
 refine ⟨_, (ak (aF (i := 5) jl.nd rfl (Or.inl rfl) (aG T.D_end_within (gB T) (by decide) hr aH rfl (aa (pv 2) (aa (pv 3) aj))))
  (aq (aD (aG T.D_place_of_bit (iZ T) (by decide) hr aH rfl (aa (pv 2) (aa (aG T.D_last_low_in (p7 T) (by decide) hr aH rfl (aa (di ((cU T).mono (by decide)) hr (i := 1) rfl (aa (pv 2) aj)) (aa au (aa (pv 5) (aa (aB bj (pv 4) (aG T.D_base_of (lr T) (by decide) hr aH rfl (aa (pv 0) (aa (pv 2) aj)))) aj))))) aj)))))), ?_⟩
 obtain ⟨o, fd, e1, g1⟩ := hA.asks.look.fn
 have hm : j < many ns.length := by
  unfold many
  omega
 have hw : wide up j ≤ 32 := by
  unfold wide
  omega
 have hg : ((cW ns).map V.int)[j]? = some (.int (bA ns j)) := by
  rw [List.getElem?_map, cV hm]
  rfl
 refine ⟨_, rfl, _, rfl, j, up, rfl, Nat.le_of_lt hj, ?_⟩
 refine ⟨_, rfl, f, o, fd, rfl, e1, g1, _, rfl, e1, sn, bl, ss, _, j, _, rfl, hA.asks, hls, hg, ?_⟩
 have hA2 := hA.more (tt := ss ++ [(j : Int)]) (by rw [List.length_append, List.length_singleton]; omega)
 refine ⟨_, rfl, _, rfl, _, rfl, _, rfl, t, ah, ns, rest, j, rfl, hA2.tab, Nat.le_of_lt hm, _, _, rfl, rfl, ?_⟩
 have w := bF.one (n := many ns.length) ss (i := (j : Int)) (by omega) (by omega)
 refine ⟨bA ns j, 0, wide up j, g - ht ns (32 * j), rfl, hw, fun H' k sm hd hle => ?_, fun H' sm hno => ?_⟩
 ·exact ⟨j, _, rfl, .inr ⟨k, rfl, q _ _ H' (.inr ⟨_, rfl, last_within hA.bits hw hd hle⟩) w sm⟩⟩
 ·exact ⟨j, _, rfl, .inl ⟨rfl, q _ _ H' (.inl ⟨rfl, oH hA.bits hw hno⟩) w sm⟩⟩
def mZ (Ph : Addr) : Sp := fun vs H Q _ => ∃ (p : BP) (ss : List Int) (at0 : Nat) (g : Int), vs = [.ref p.t, .ref p.f, .int ((at0 : Int) - 1), .int g] ∧ Brk H Ph p ss ∧ ss.length ≤ 990 ∧ at0 ≤ p.ns.length + 1 ∧
 ∀ x ss' H', ((x = .non ∧ bT p.ns 0 (at0 - 1) g) ∨ ∃ k : Nat, x = .int (k : Int) ∧ gM p.ns 0 (at0 - 1) g k) → Did H H' Ph p.sn (many p.ns.length) 2 ss ss' → Q x H'
theorem nZ (T : Tx K mg a) (B : Bs mg base a) : aU P w K mg base CX0 6 a.f_last_low_upto a.fd_last_low_upto ["tables", "look", "upto", "goal"] (mZ a.tP_heap_look) := by
 refine T.D_last_low_upto.F.ok cH (fun vs H Q E h => ?_) (fun cdv A outer s H vs Q E hr h => ?_)
 ·obtain ⟨p, ss, at0, g, rfl, _⟩ := h
  rfl
 obtain ⟨p, ss, at0, g, rfl, hB, hls, h1, q⟩ := h
 refine ⟨_, (ak (aX (aM j9 (pv 2) au (aO _)) (aq (aD cB)) aN)
  (ak (aF (i := 4) cH.nd rfl (Or.inl rfl) (aB dG (aB bj (pv 2) au) (bx (v := .int 32) rfl T.c_BLOCK_BITS ⟨_, rfl⟩)))
  (ak (aF (i := 5) cH.nd rfl (Or.inl rfl) (aG T.D_last_within (ju T) (by decide) hr aH rfl (aa (pv 0) (aa (pv 1) (aa (pv 4) (aa (pv 2) (aa (pv 3) aj)))))))
  (ak (aX (gK (yj (pv 5))) (aq (aD (pv 5))) aN)
  (ak (aF (i := 6) cH.nd rfl (Or.inl rfl) (aG T.D_last_at_most (ph T) (by decide) hr aH rfl (aa (aG T.D_block_count (jM T) (by decide) hr aH rfl (aa (pv 0) aj)) (aa (aG T.D_heap_look (my T B) (by decide) hr aH rfl (aa (pv 0) aj)) (aa (pv 4) (aa (pv 3) aj))))))
  (ak (aX (gK (iy (pv 6))) (aq (aD cB)) aN)
  (aq (aD (aG T.D_last_within (ju T) (by decide) hr aH rfl (aa (pv 0) (aa (pv 1) (aa (pv 6) (aa (pv 2) (aa (pv 3) aj)))))))))))))), ?_⟩
 have hlen := hB.ask.len
 refine ⟨_, rfl, _, _, rfl, rfl, _, rfl, bI (fun c => ?_) fun c => ?_⟩
 ·have c : (at0 : Int) - 1 < 1 := of_decide_eq_true c
  exact q _ ss H (.inl ⟨rfl, bT.empty (by omega)⟩) ((hB.self _).le (by decide))
 have c : ¬ (at0 : Int) - 1 < 1 := fun z => c (decide_eq_true z)
 obtain ⟨up, rfl⟩ : ∃ up, at0 = up + 1 := ⟨at0 - 1, by omega⟩
 rw [Nat.add_sub_cancel] at q
 have eu : ((up + 1 : Nat) : Int) - 1 = (up : Int) := by omega
 have ef : (((up + 1 : Nat) : Int) - 1 - 1) / 32 = (((up - 1) / 32 : Nat) : Int) := by omega
 refine ⟨_, rfl, _, _, rfl, rfl, _, _, rfl, rfl, ⟨by decide, by decide⟩, ?_⟩
 refine ⟨_, rfl, _, rfl, _, rfl, _, rfl, _, rfl, p.t, p.f, p.sn, p.bl, p.ah, p.ns, ss, _, (up - 1) / 32, up, g, ?_, hB.ask, by omega, by omega, by omega, fun x ss1 H1 hx wr1 s1 => ?_⟩
 ·rw [← ef, ← eu]
  rfl
 have d1 := hB.look wr1 s1
 have l1 := wr1.len
 have hB1 := hB.did d1 (by omega)
 rw [show 32 * ((up - 1) / 32) + wide up ((up - 1) / 32) = up from by unfold wide; omega] at hx
 rcases hx with ⟨rfl, hno⟩ | ⟨k, rfl, hf⟩
 rotate_left
 ·refine ⟨_, rfl, _, rfl, fu ⟨_, rfl, q _ ss1 H1 (.inr ⟨k, rfl, hf.wider (by omega)⟩) (d1.le (by decide))⟩⟩
 refine ⟨_, rfl, _, rfl, cI ?_⟩
 obtain ⟨e1, e2⟩ := hB.lenL
 refine ⟨_, rfl, p.t, p.ah, p.ns, _, rfl, hB1.ask.tab, ?_⟩
 refine ⟨_, rfl, p.t, p.nd, _, _, p.xs, rfl, hB1.ask.tab.tup, hB1.nds, hB1.tab, fun fh H5 nf b5 hT5 qu => ?_⟩
 have d5 := d1.trans (hB1.made b5 hT5 (many p.ns.length))
 have hB5 := hB.did d5 (by omega)
 have ev : [V.int ((many p.ns.length : Nat) : Int), .ref fh, .int ((((up + 1 : Nat) : Int) - 1 - 1) / 32), .int g] = [.int (p.lows.length : Int), .ref fh, .int (((up - 1) / 32 : Nat) : Int), .int g] := by
  rw [e1, ef]
 have hle : (up - 1) / 32 ≤ many p.ns.length := by
  unfold many
  omega
 refine ⟨_, rfl, _, rfl, fh, p.nd, p.xs, p.lows, p.S, (up - 1) / 32, g, ev, qu, hB.sz, hB.heap, by omega, by omega, fun x H6 s6 hx => ?_⟩
 have d6 := d5.same s6
 have hB6 := hB5.same s6
 rcases hx with ⟨rfl, hall⟩ | ⟨i, rfl, h3, h4, ⟨c5, h5, h5'⟩, h6⟩
 ·refine ⟨_, rfl, _, rfl, fu (q _ ss1 H6 (.inl ⟨rfl, ?_⟩) (d6.le (by decide)))⟩
  have := hB.low.none (i := 0) (j := (up - 1) / 32) (b := 32 * ((up - 1) / 32)) (fun t cc t1 t2 e => hall t cc t2 e) (Nat.le_refl _) (by omega)
  exact this.join hno
 refine ⟨_, rfl, _, rfl, cI ?_⟩
 refine ⟨_, rfl, _, rfl, _, rfl, _, rfl, _, rfl, p.t, p.f, p.sn, p.bl, p.ah, p.ns, ss1, _, i, up, g, ?_, hB6.ask, by omega, by omega, by omega, fun x ss7 H7 hx wr7 s7 => ?_⟩
 ·rw [← eu]
  rfl
 have d7 := d6.trans (hB6.look wr7 s7)
 rw [show 32 * i + wide up i = 32 * (i + 1) from by unfold wide; omega] at hx
 have hno2 : bT p.ns (32 * (i + 1)) up g := (hB.low.none (i := i + 1) (j := (up - 1) / 32) (b := 32 * ((up - 1) / 32)) (fun t cc t1 t2 e => h6 t cc (Nat.zero_le _) t2 (by rw [if_neg (by decide)]; omega) e) (Nat.le_refl _) (by omega)).join hno
 rcases hx with ⟨rfl, hn⟩ | ⟨k, rfl, hf⟩
 ·refine absurd ?_ (hB.low.some h5 h5')
  rw [show min (32 * i + 32) p.ns.length = 32 * (i + 1) from by omega]
  exact hn
 ·exact q _ ss7 H7 (.inr ⟨k, rfl, (gM.ahead hno2 hf (by omega)).wider (by omega)⟩) d7
def ur (Ph : Addr) : Sp := fun vs H Q _ => ∃ (p : BP) (ss : List Int) (at0 : Nat) (g : Int), vs = [.ref p.t, .ref p.f, .int (at0 : Int), .int g] ∧ Brk H Ph p ss ∧ ss.length ≤ 990 ∧ at0 ≤ p.ns.length ∧
 ∀ x ss' H', ((x = .non ∧ Ec p.ns at0 g) ∨ ∃ k : Nat, x = .int (k : Int) ∧ gr p.ns at0 g k) → Did H H' Ph p.sn (many p.ns.length) 2 ss ss' → Q x H'
theorem tM (T : Tx K mg a) (B : Bs mg base a) : aU P w K mg base CX0 7 a.f_low_ahead a.fd_low_ahead ["tables", "look", "at", "goal"] (ur a.tP_heap_look) := by
 refine T.D_low_ahead.F.ok mz (fun vs H Q E h => ?_) (fun cdv A outer s H vs Q E hr h => ?_)
 ·obtain ⟨p, ss, at0, g, rfl, _⟩ := h
  rfl
 obtain ⟨p, ss, at0, g, rfl, hB, hls, h1, q⟩ := h
 refine ⟨_, (ak (aY (aG T.D_check_place (dh T) (by decide) hr aH rfl (aa (pv 2) (aa (bc bB (pv 0) au (fun _ _ => rfl)) aj))))
  (ak (aF (i := 4) mz.nd rfl (Or.inl rfl) (aG T.D_last_low_upto (nZ T B) (by decide) hr aH rfl (aa (pv 0) (aa (pv 1) (aa (aB bj (pv 2) au) (aa (pv 3) aj))))))
  (ak (aX (PW.pt (jz (gK (iy (pv 4))) (jz (aM ie (pv 2) au (aO _)) (iJ (aM vR (pv 3) au (aO _)))))) (aq (aD au)) aN)
  (aq (aD (pv 4)))))), ?_⟩
 refine ⟨_, rfl, _, rfl, p.t, _, _, _, rfl, rfl, SqT.of hB.ask.tab.tup, rfl, _, _, rfl, by omega, by omega, ?_⟩
 refine ⟨_, rfl, _, rfl, _, rfl, _, _, rfl, rfl, _, rfl, p, ss, at0, g, rfl, hB, hls, by omega, fun x ss1 H1 hx d1 => ?_⟩
 rcases hx with ⟨rfl, hno⟩ | ⟨k, rfl, f1, f2, f3, f4⟩
 rotate_left
 ·refine ⟨_, rfl, _, rfl, cI (cI ⟨_, rfl, q _ ss1 H1 (.inr ⟨k, rfl, by omega, f3, fun i i1 i2 => f4 i i1 (by omega)⟩) d1⟩)⟩
 refine ⟨_, rfl, _, rfl, fu ?_⟩
 refine ⟨_, rfl, _, _, rfl, rfl, _, rfl, bI (fun c1 => ?_) fun c1 => cI ⟨_, rfl, q _ ss1 H1 (.inl ⟨rfl, fun i hi => ?_⟩) d1⟩⟩
 rotate_left
 ·have c1 : ¬ (0 : Int) < (at0 : Int) := fun z => c1 (decide_eq_true z)
  omega
 have c1 : (0 : Int) < (at0 : Int) := of_decide_eq_true c1
 refine ⟨_, rfl, _, _, rfl, rfl, _, rfl, bI (fun c2 => ?_) fun c2 => ⟨_, rfl, q _ ss1 H1 (.inl ⟨rfl, fun i hi => ?_⟩) d1⟩⟩
 ·have c2 : (0 : Int) ≤ g := of_decide_eq_true c2
  have := q _ ss1 H1 (.inr ⟨0, rfl, by omega, by rw [eU]; exact c2, fun i i1 i2 => hno i i1 (by omega)⟩) d1
  exact this
 ·have c2 : ¬ (0 : Int) ≤ g := fun z => c2 (decide_eq_true z)
  rcases Nat.eq_zero_or_pos i with rfl | h0
  ·rw [eU]
   omega
  ·exact hno i h0 (by omega)
def nR : Sp := fun vs H Q E => ∃ (t f sn bl ah : Addr) (ns ss : List Int) (rest : List V) (at0 : Nat) (b : Int), vs = [.ref t, .ref f, .int (at0 : Int), .int b] ∧ Ask H t f sn bl ah ns ss rest ∧ ss.length < 1000 ∧ ns[at0]? = some b ∧
 ∀ ss' H', bF (many ns.length) 1 ss ss' → aR (upd H sn (.lst (ss'.map V.int))) H' → Q .non H'
theorem gR (T : Tx K mg a) : aU P w K mg base CX0 3 a.f_check_bracket a.fd_check_bracket ["tables", "look", "at", "bit"] nR := by
 refine T.D_check_bracket.F.ok nW (fun vs H Q E h => ?_) (fun cdv A outer s H vs Q E hr h => ?_)
 ·obtain ⟨t, f, sn, bl, ah, ns, ss, rest, at0, b, rfl, _⟩ := h
  rfl
 obtain ⟨t, f, sn, bl, ah, ns, ss, rest, at0, b, rfl, hA, hls, hb, q⟩ := h
 refine ⟨_, (aq (aX (aM yx (aG T.D_bit_at (rR T) (by decide) hr aH rfl (aa (pv 0) (aa (pv 1) (aa (pv 2) aj)))) (pv 3) (aO _)) (aq cG) aN)), ?_⟩
 exact ⟨_, rfl, _, rfl, _, rfl, t, f, sn, bl, ah, ns, ss, rest, at0, b, rfl, hA, hls, hb, fun ss' H' w sm => ⟨_, rfl, rfl, _, rfl, vh rfl (q ss' H' w sm)⟩⟩
def wB (Ph : Addr) : Sp := fun vs H Q _ => ∃ (p : BP) (ss : List Int) (at0 : Nat), vs = [.ref p.t, .ref p.f, .int (at0 : Int)] ∧ Brk H Ph p ss ∧ ss.length ≤ 980 ∧ Tree p.ns ∧ p.ns[at0]? = some 1 ∧
 ∀ (k : Nat) ss' H', cO p.ns at0 p.ns.length (ht p.ns at0) (k + 1) → Did H H' Ph p.sn (many p.ns.length) 4 ss ss' → Q (.int (k : Int)) H'
theorem wX (T : Tx K mg a) (B : Bs mg base a) : aU P w K mg base CX0 7 a.f_closing a.fd_closing ["tables", "look", "at"] (wB a.tP_heap_look) := by
 refine T.D_closing.F.ok wD (fun vs H Q E h => ?_) (fun cdv A outer s H vs Q E hr h => ?_)
 ·obtain ⟨p, ss, at0, rfl, _⟩ := h
  rfl
 obtain ⟨p, ss, at0, rfl, hB, hls, htr, hb, q⟩ := h
 have hat := (List.getElem?_eq_some_iff.mp hb).1
 refine ⟨_, (ak (aY (aG T.D_check_bracket (gR T) (by decide) hr aH rfl (aa (pv 0) (aa (pv 1) (aa (pv 2) (aa au aj))))))
  (aq (aD (aB bj (aG T.D_low_behind (rD T B) (by decide) hr aH rfl (aa (pv 0) (aa (pv 1) (aa (pv 2) (aa (aG T.D_height (tu T) (by decide) hr aH rfl (aa (pv 0) (aa (pv 1) (aa (pv 2) aj)))) aj))))) au)))), ?_⟩
 refine ⟨_, rfl, _, rfl, _, rfl, p.t, p.f, p.sn, p.bl, p.ah, p.ns, ss, _, at0, 1, rfl, hB.ask, by omega, hb, fun ss1 H1 w1 s1 => ?_⟩
 have d1 := hB.look w1 s1
 have l1 := w1.len
 have hB1 := hB.did d1 (by omega)
 refine ⟨_, rfl, _, rfl, _, rfl, _, rfl, _, rfl, _, rfl, p.t, p.f, p.sn, p.bl, p.ah, p.ns, ss1, _, at0, rfl, hB1.ask, by omega, by omega, fun ss2 H2 w2 s2 => ?_⟩
 have d2 := d1.trans (hB1.look w2 s2)
 have l2 := w2.len
 have hB2 := hB.did d2 (by omega)
 refine ⟨p, ss2, at0, ht p.ns at0, rfl, hB2, by omega, by omega, fun x ss3 H3 hx d3 => ?_⟩
 rcases hx with ⟨rfl, hn⟩ | ⟨k, rfl, hf⟩
 ·have := hn p.ns.length hat (Nat.le_refl _)
  rw [htr.2.1] at this
  have := htr.pos (k := at0) (by omega)
  omega
 ·obtain ⟨k, rfl⟩ : ∃ j, k = j + 1 := ⟨k - 1, by have := hf.1; omega⟩
  refine ⟨_, _, rfl, rfl, ?_⟩
  have := q k ss3 H3 hf (d2.trans d3)
  rw [show (k : Int) = ((k + 1 : Nat) : Int) - 1 from by omega] at this
  exact this
def xu (Ph : Addr) : Sp := fun vs H Q _ => ∃ (p : BP) (ss : List Int) (at0 : Nat), vs = [.ref p.t, .ref p.f, .int (at0 : Int)] ∧ Brk H Ph p ss ∧ ss.length ≤ 980 ∧ Tree p.ns ∧ p.ns[at0]? = some 0 ∧
 ∀ (k : Nat) ss' H', gr p.ns at0 (ht p.ns at0 - 1) k → Did H H' Ph p.sn (many p.ns.length) 4 ss ss' → Q (.int (k : Int)) H'
theorem wM (T : Tx K mg a) (B : Bs mg base a) : aU P w K mg base CX0 8 a.f_opening a.fd_opening ["tables", "look", "at"] (xu a.tP_heap_look) := by
 refine T.D_opening.F.ok wg (fun vs H Q E h => ?_) (fun cdv A outer s H vs Q E hr h => ?_)
 ·obtain ⟨p, ss, at0, rfl, _⟩ := h
  rfl
 obtain ⟨p, ss, at0, rfl, hB, hls, htr, hb, q⟩ := h
 have hat := (List.getElem?_eq_some_iff.mp hb).1
 refine ⟨_, (ak (aY (aG T.D_check_bracket (gR T) (by decide) hr aH rfl (aa (pv 0) (aa (pv 1) (aa (pv 2) (aa au aj))))))
  (aq (aD (aG T.D_low_ahead (tM T B) (by decide) hr aH rfl (aa (pv 0) (aa (pv 1) (aa (pv 2) (aa (aB bj (aG T.D_height (tu T) (by decide) hr aH rfl (aa (pv 0) (aa (pv 1) (aa (pv 2) aj)))) au) aj)))))))), ?_⟩
 refine ⟨_, rfl, _, rfl, _, rfl, p.t, p.f, p.sn, p.bl, p.ah, p.ns, ss, _, at0, 0, rfl, hB.ask, by omega, hb, fun ss1 H1 w1 s1 => ?_⟩
 have d1 := hB.look w1 s1
 have l1 := w1.len
 have hB1 := hB.did d1 (by omega)
 refine ⟨_, rfl, _, rfl, _, rfl, _, rfl, _, rfl, _, rfl, p.t, p.f, p.sn, p.bl, p.ah, p.ns, ss1, _, at0, rfl, hB1.ask, by omega, by omega, fun ss2 H2 w2 s2 => ?_⟩
 have d2 := d1.trans (hB1.look w2 s2)
 have l2 := w2.len
 have hB2 := hB.did d2 (by omega)
 refine ⟨_, _, rfl, rfl, p, ss2, at0, ht p.ns at0 - 1, rfl, hB2, by omega, by omega, fun x ss3 H3 hx d3 => ?_⟩
 have hbit : 0 < at0 ∧ 0 ≤ ht p.ns at0 - 1 := by
  have h1 := cJ hb
  have h2 := htr.pos (k := at0 + 1) (by omega)
  refine ⟨?_, by omega⟩
  rcases Nat.eq_zero_or_pos at0 with rfl | z
  ·rw [eU] at h1
   omega
  ·exact z
 rcases hx with ⟨rfl, hn⟩ | ⟨k, rfl, hf⟩
 ·have := hn 0 hbit.1
  rw [eU] at this
  omega
 ·exact q k ss3 H3 hf (d2.trans d3)
theorem Eo {n k : Nat} {ss' : List Int} (w : bF n k [] ss') {m : Nat} (hn : n = m) : (∀ x ∈ ss', 0 ≤ x ∧ x < (m : Int)) ∧ ss'.length ≤ k := by
 obtain ⟨tt, rfl, l, ht⟩ := w
 subst hn
 exact ⟨fun x hx => ht x (by simpa using hx), by simpa using l⟩
def tG : Sp := fun vs H Q E => ∃ (p : Addr) (ds : List Int), vs = [.ref p] ∧ H p = some (.lst (ds.map V.int)) ∧ ds.length ≤ 2048 ∧ bu ds ∧ ∀ r t ah nd bl lows S xs H', H bl = none → aR H H' → H' r = some (.tup [.ref t, .ref bl]) → KB H' t ah nd bl (brk ds 0) lows S xs → Q (.ref r) H'
theorem tZ (T : Tx K mg a) : aU P w K mg base CX0 7 a.f_kept_tree a.fd_kept_tree ["depths"] tG := by
 refine T.D_kept_tree.F.ok uh (fun vs H Q E h => ?_) (fun cdv A outer s H vs Q E hr h => ?_)
 ·obtain ⟨p, ds, rfl, _⟩ := h
  rfl
 obtain ⟨p, ds, rfl, hp, hl, hg, q⟩ := h
 refine ⟨_, (aq (aD (aG T.D_kept_brackets (nH T) (by decide) hr aH rfl (aa (aG T.D_brackets_of (qQ T) (by decide) hr aH rfl (aa (pv 0) aj)) aj)))), ?_⟩
 refine ⟨_, rfl, p, ds, rfl, hp, hg, hl, fun b H1 hb s1 xb => ?_⟩
 have hbl := jP hg
 exact ⟨b, brk ds 0, rfl, SqL.of xb, by omega, fH _ _, lC hg, fun r t ah nd bl lows S xs H2 h1 h2 h3 s2 xr kb => q r t ah nd bl lows S xs H2 (s1.free h1) (s1.trans s2) xr kb⟩
def rP : Sp := fun vs H Q _ => ∃ (t ah : Addr) (ns : List Int) (rest : List V), vs = [.ref t] ∧ Tab H t ah ns rest ∧ Q (.int ((ns.length : Int) / 2)) H
theorem gG (T : Tx K mg a) : aU P w K mg base CX0 1 a.f_node_count a.fd_node_count ["tables"] rP := by
 refine T.D_node_count.F.ok rm (fun vs H Q E h => ?_) (fun cdv A outer s H vs Q E hr h => ?_)
 ·obtain ⟨t, ah, ns, rest, rfl, _⟩ := h
  rfl
 obtain ⟨t, ah, ns, rest, rfl, hT, q⟩ := h
 refine ⟨_, (aq (aD (aB dG (bc bB (pv 0) au (fun _ _ => rfl)) au))), ?_⟩
 exact ⟨_, rfl, t, _, _, _, rfl, rfl, SqT.of hT.tup, jT _ _ _ hT.few, _, _, rfl, rfl, ⟨by decide, by decide⟩, q⟩
def rn (C : Addr) : Sp := fun vs H Q E => ∃ (t ah : Addr) (ns : List Int) (rest : List V) (node : Int), vs = [.ref t, .int node] ∧ Tab H t ah ns rest ∧ ((0 ≤ node ∧ node < (ns.length : Int) / 2 ∧ Q .non H) ∨ ((node < 0 ∨ (ns.length : Int) / 2 ≤ node) ∧ E (.ref C) none H))
theorem j5 (T : Tx K mg a) : aU P w K mg base (CX1 P w) 2 a.f_check_node a.fd_check_node ["tables", "node"] (rn a.c_NoNode) := by
 refine T.D_check_node.F.ok1 rz (fun vs H Q E h => ?_) (fun cdv A outer s H vs Q E hr h => ?_)
 ·obtain ⟨t, ah, ns, rest, node, rfl, _⟩ := h
  rfl
 obtain ⟨t, ah, ns, rest, node, rfl, hT, h⟩ := h
 refine ⟨_, (aq (aX (PW.pt (lO (aM j9 (pv 1) au (aO _)) (jx (aM vR (pv 1) (aG T.D_node_count (gG T) (by decide) hr aH rfl (aa (pv 0) aj)) (aO _))))) (aq (By T.x_NoNode rfl (aa FP aj))) aN)), ?_⟩
 refine ⟨_, rfl, _, _, rfl, rfl, _, rfl, bI (fun c => ?_) fun c => ?_⟩
 ·have c := of_decide_eq_true c
  rcases h with ⟨h0, _⟩ | ⟨_, q⟩
  ·omega
  ·exact fu ⟨(by show 1 ≤ sizeLine; decide), q⟩
 have c : ¬ node < 0 := fun z => c (decide_eq_true z)
 refine ⟨_, rfl, _, rfl, t, ah, ns, rest, rfl, hT, _, _, rfl, rfl, _, rfl, bI (fun c2 => ?_) fun c2 => ?_⟩
 ·have c2 := of_decide_eq_true c2
  rcases h with ⟨h0, h1, _⟩ | ⟨_, q⟩
  ·omega
  ·exact ⟨(by show 1 ≤ sizeLine; decide), q⟩
 have c2 : ¬ (ns.length : Int) / 2 ≤ node := fun z => c2 (decide_eq_true z)
 rcases h with ⟨_, _, q⟩ | ⟨z, _⟩
 ·exact q
 ·omega
structure Nd (H : Hp) (Ph : Addr) (p : BP) (ss ds : List Int) : Prop where
 b : Brk H Ph p ss
 few : ss.length ≤ 900
 eq : p.ns = brk ds 0
 good : bu ds
theorem Nd.sum {H : Hp} {Ph : Addr} {p : BP} {ss ds : List Int} (h : Nd H Ph p ss ds) : p.ns.sum = ds.length := by
 rw [h.eq]
 exact jj h.good
theorem Nd.len {H : Hp} {Ph : Addr} {p : BP} {ss ds : List Int} (h : Nd H Ph p ss ds) : p.ns.length = 2 * ds.length := by
 rw [h.eq]
 exact jP h.good
theorem Nd.tree {H : Hp} {Ph : Addr} {p : BP} {ss ds : List Int} (h : Nd H Ph p ss ds) : Tree p.ns := by
 rw [h.eq]
 exact lC h.good
theorem Nd.bits {H : Hp} {Ph : Addr} {p : BP} {ss ds : List Int} (h : Nd H Ph p ss ds) : aP p.ns := h.b.ask.bits
theorem Nd.did {H H' : Hp} {Ph : Addr} {p : BP} {ss ss' ds : List Int} {n k : Nat} (h : Nd H Ph p ss ds) (d : Did H H' Ph p.sn n k ss ss') (hl : ss'.length ≤ 900) : Nd H' Ph p ss' ds := ⟨h.b.did d (by omega), hl, h.eq, h.good⟩
theorem Nd.same {H H' : Hp} {Ph : Addr} {p : BP} {ss ds : List Int} (h : Nd H Ph p ss ds) (s : aR H H') : Nd H' Ph p ss ds := ⟨h.b.same s, h.few, h.eq, h.good⟩
theorem Nd.deep {H : Hp} {Ph : Addr} {p : BP} {ss ds : List Int} (h : Nd H Ph p ss ds) {i x : Nat} (h1 : p.ns[x]? = some 1) (h2 : (p.ns.take x).sum = (i : Int)) : ds[i]? = some (ht p.ns x) := by
 rw [h.eq] at h1 h2 ⊢
 exact qX h.good h1 h2
theorem Nd.at {H : Hp} {Ph : Addr} {p : BP} {ss ds : List Int} (h : Nd H Ph p ss ds) {j : Nat} (hj : j < ds.length) : ∃ x, p.ns[x]? = some 1 ∧ (p.ns.take x).sum = (j : Int) := Be h.bits (by rw [h.sum]; omega)
def vd (Ph C : Addr) : Sp := fun vs H Q E => ∃ (p : BP) (ss ds : List Int) (node : Int), vs = [.ref p.t, .ref p.f, .int node] ∧ Nd H Ph p ss ds ∧ ((∃ j : Nat, node = (j : Int) ∧ j < ds.length ∧ ∀ (x : Nat) ss' H', p.ns[x]? = some 1 → (p.ns.take x).sum = (j : Int) → Did H H' Ph p.sn (many p.ns.length) 1 ss ss' → Q (.int (x : Int)) H') ∨ ((node < 0 ∨ (ds.length : Int) ≤ node) ∧ E (.ref C) none H))
theorem oM (T : Tx K mg a) : aU P w K mg base (CX1 P w) 5 a.f_place_of a.fd_place_of ["tables", "look", "node"] (vd a.tP_heap_look a.c_NoNode) := by
 refine T.D_place_of.F.ok1 uH (fun vs H Q E h => ?_) (fun cdv A outer s H vs Q E hr h => ?_)
 ·obtain ⟨p, ss, ds, node, rfl, _⟩ := h
  rfl
 obtain ⟨p, ss, ds, node, rfl, hN, h⟩ := h
 refine ⟨_, (ak (aY (aG T.D_check_node (j5 T) (by decide) hr uZ rfl (aa (pv 0) (aa (pv 2) aj))))
  (aq (aD (aG T.D_one_place (uC T) (by decide) hr aH rfl (aa (pv 0) (aa (pv 1) (aa (pv 2) aj))))))), ?_⟩
 have hsum := hN.sum
 have hlen := hN.len
 have few := hN.few
 refine ⟨_, rfl, _, rfl, p.t, p.ah, p.ns, _, node, rfl, hN.b.ask.tab, ?_⟩
 rcases h with ⟨j, rfl, hj, q⟩ | ⟨h1, q⟩
 ·exact .inl ⟨by omega, by omega, _, rfl, _, rfl, _, rfl, p.t, p.f, p.sn, p.bl, p.ah, p.ns, ss, [.ref p.nd], (j : Int), rfl, hN.b.ask, by omega, by omega, by omega, fun H1 x ss1 h1 h2 w1 s1 => q x ss1 H1 h1 h2 (hN.b.look w1 s1)⟩
 ·exact .inr ⟨by omega, q⟩
def v9 (Ph : Addr) : Sp := fun vs H Q _ => ∃ (p : BP) (ss : List Int) (at0 : Nat), vs = [.ref p.t, .ref p.f, .int (at0 : Int)] ∧ Brk H Ph p ss ∧ ss.length ≤ 960 ∧ Tree p.ns ∧ ((p.ns[at0]? = some 1 ∧ ∀ ss' H', Did H H' Ph p.sn (many p.ns.length) 2 ss ss' → Q (.int (p.ns.take at0).sum) H') ∨ (p.ns[at0]? = some 0 ∧ ∀ (k : Nat) ss' H', gr p.ns at0 (ht p.ns at0 - 1) k → Did H H' Ph p.sn (many p.ns.length) 6 ss ss' → Q (.int (p.ns.take k).sum) H'))
theorem wH (T : Tx K mg a) (B : Bs mg base a) : aU P w K mg base CX0 9 a.f_node_at a.fd_node_at ["tables", "look", "at"] (v9 a.tP_heap_look) := by
 refine T.D_node_at.F.ok xx (fun vs H Q E h => ?_) (fun cdv A outer s H vs Q E hr h => ?_)
 ·obtain ⟨p, ss, at0, rfl, _⟩ := h
  rfl
 obtain ⟨p, ss, at0, rfl, hB, hl, tr, h⟩ := h
 refine ⟨_, (ak (aX (aM fO (aG T.D_bit_at (rR T) (by decide) hr aH rfl (aa (pv 0) (aa (pv 1) (aa (pv 2) aj)))) au (aO _)) (aq (aD (aG T.D_ones_at (iI T) (by decide) hr aH rfl (aa (pv 0) (aa (pv 1) (aa (pv 2) aj)))))) aN)
  (aq (aD (aG T.D_ones_at (iI T) (by decide) hr aH rfl (aa (pv 0) (aa (pv 1) (aa (aG T.D_opening (wM T B) (by decide) hr aH rfl (aa (pv 0) (aa (pv 1) (aa (pv 2) aj)))) aj))))))), ?_⟩
 rcases h with ⟨hb, q⟩ | ⟨hb, q⟩
 ·have hat := (List.getElem?_eq_some_iff.mp hb).1
  refine ⟨_, rfl, _, rfl, _, rfl, p.t, p.f, p.sn, p.bl, p.ah, p.ns, ss, [.ref p.nd], at0, 1, rfl, hB.ask, by omega, hb, fun ss1 H1 w1 s1 => ?_⟩
  have d1 := hB.look w1 s1
  have l1 := w1.len
  have hB1 := hB.did d1 (by omega)
  refine ⟨rfl, _, rfl, bI (fun _ => ?_) fun z => absurd (by decide) z⟩
  exact ⟨_, rfl, _, rfl, _, rfl, p.t, p.f, p.sn, p.bl, p.ah, p.ns, ss1, [.ref p.nd], at0, rfl, hB1.ask, by omega, by omega, fun ss2 H2 w2 s2 => q ss2 H2 (d1.trans (hB1.look w2 s2))⟩
 ·have hat := (List.getElem?_eq_some_iff.mp hb).1
  refine ⟨_, rfl, _, rfl, _, rfl, p.t, p.f, p.sn, p.bl, p.ah, p.ns, ss, [.ref p.nd], at0, 0, rfl, hB.ask, by omega, hb, fun ss1 H1 w1 s1 => ?_⟩
  have d1 := hB.look w1 s1
  have l1 := w1.len
  have hB1 := hB.did d1 (by omega)
  refine ⟨rfl, _, rfl, bI (fun z => absurd z (by decide)) fun _ => ?_⟩
  refine ⟨_, rfl, _, rfl, _, rfl, _, rfl, _, rfl, p, ss1, at0, rfl, hB1, by omega, tr, hb, fun k ss2 H2 hk d2 => ?_⟩
  have l2 := d2.wr.len
  have hB2 := hB1.did d2 (by omega)
  have := hk.1
  exact ⟨p.t, p.f, p.sn, p.bl, p.ah, p.ns, ss2, [.ref p.nd], k, rfl, hB2.ask, by omega, by omega, fun ss3 H3 w3 s3 => q k ss3 H3 hk ((d1.trans d2).trans (hB2.look w3 s3))⟩
def BL (ds : List Int) (j : Nat) (x : V) : Prop := ∃ d, ds[j]? = some d ∧ ((x = .int ((j : Int) + 1) ∧ ds[j + 1]? = some (d + 1)) ∨ (x = .non ∧ ds[j + 1]? ≠ some (d + 1)))
theorem Brk.clear {H : Hp} {Ph : Addr} {p : BP} {ss : List Int} (h : Brk H Ph p ss) : Brk (L2.upd H p.sn (.lst [])) Ph p [] :=
 ⟨h.ask.more (tt := []) (by simp), by rw [aC (fun z => by have := h.nds; rw [z, h.ask.asks.seen] at this; cases this)]; exact h.nds, h.low, h.sz, h.heap, TabAt.upd h.tab h.ask.asks.seen⟩
theorem Nd.clear {H : Hp} {Ph : Addr} {p : BP} {ss ds : List Int} (h : Nd H Ph p ss ds) : Nd (L2.upd H p.sn (.lst [])) Ph p [] ds := ⟨h.b.clear, by simp, h.eq, h.good⟩
def Kq (Ph sn : Addr) (H X : Hp) : Prop := ∀ b o, H b = some o → b ≠ Ph → b ≠ sn → X b = some o
theorem Kq.trans {Ph sn : Addr} {H X Y : Hp} (h : Kq Ph sn H X) (h' : Kq Ph sn X Y) : Kq Ph sn H Y := fun b o e n1 n2 => h' b o (h b o e n1 n2) n1 n2
def Bc (ns : List Int) (j x : Nat) : Prop := ns[x]? = some 1 ∧ (ns.take x).sum = (j : Int)
theorem Nd.shut {H : Hp} {Ph : Addr} {p : BP} {ss ds : List Int} (hN : Nd H Ph p ss ds) {j x : Nat} (hx : Bc p.ns j x) : ∃ c, Pair p.ns x c := by
 obtain ⟨_, te, _⟩ := hN.tree
 have hxl := (List.getElem?_eq_some_iff.mp hx.1).1
 have h0 := hN.tree.pos (Nat.le_of_lt hxl)
 have key : ∀ n, (∃ k, x < k ∧ k ≤ x + n ∧ k ≤ p.ns.length ∧ ht p.ns k ≤ ht p.ns x ∧ ∀ i, x < i → i < k → ht p.ns x < ht p.ns i) ∨ ∀ i, x < i → i ≤ x + n → i ≤ p.ns.length → ht p.ns x < ht p.ns i := fun n => by
  induction n with
  | zero => exact .inr fun i i1 i2 => by omega
  | succ n ih =>
   rcases ih with ⟨k, k1, k2, k3⟩ | ih
   ·exact .inl ⟨k, k1, by omega, k3⟩
   ·by_cases z : x + n + 1 ≤ p.ns.length ∧ ht p.ns (x + n + 1) ≤ ht p.ns x
    ·exact .inl ⟨x + n + 1, by omega, by omega, z.1, z.2, fun i i1 i2 => ih i i1 (by omega) (by omega)⟩
    ·refine .inr fun i i1 i2 i3 => ?_
     rcases Nat.lt_or_ge i (x + n + 1) with y | y
     ·exact ih i i1 (by omega) i3
     ·have : i = x + n + 1 := by omega
      subst this
      omega
 rcases key (p.ns.length - x) with ⟨k, k1, k2, k3, k4, k5⟩ | h
 ·refine ⟨k - 1, lB hN.bits hx.1 ⟨by omega, by omega, ?_, fun i i1 i2 => k5 i i1 (by omega)⟩⟩
  rw [show k - 1 + 1 = k by omega]
  exact k4
 ·have := h p.ns.length hxl (by omega) (Nat.le_refl _)
  omega
theorem Nd.kfirst {H : Hp} {Ph : Addr} {p : BP} {ss ds : List Int} (hN : Nd H Ph p ss ds) {j x : Nat} (hx : Bc p.ns j x) : (p.ns[x + 1]? = some 1 → BL ds j (.int ((j + 1 : Nat) : Int)) ∧ Bc p.ns (j + 1) (x + 1)) ∧ (p.ns[x + 1]? = some 0 → BL ds j .non) := by
 have hdj := hN.deep hx.1 hx.2
 have hh := cJ hx.1
 have s1 := bN hx.1
 have hx2 := hx.2
 refine ⟨fun hb => ⟨⟨_, hdj, .inl ⟨rfl, ?_⟩⟩, hb, by omega⟩, fun hb => ⟨_, hdj, .inr ⟨rfl, fun z => ?_⟩⟩⟩
 ·have := hN.deep (i := j + 1) hb (by omega)
  rw [hh, show ht p.ns x + 2 * 1 - 1 = ht p.ns x + 1 from by omega] at this
  exact this
 ·obtain ⟨r, r1, r2⟩ := hN.at (List.getElem?_eq_some_iff.mp z).1
  have e := hN.deep r1 r2
  rw [z] at e
  have e := Option.some.inj e
  have e1 : ht p.ns r = 2 * (p.ns.take r).sum - ((r : Nat) : Int) := rfl
  have e2 : ht p.ns x = 2 * (p.ns.take x).sum - ((x : Nat) : Int) := rfl
  have : r = x + 1 := by omega
  subst this
  rw [hb] at r1
  cases r1
def qY (Ph C : Addr) : Sp := fun vs H Q E => ∃ (p : BP) (ss ds : List Int) (node : Int), vs = [.ref p.t, .int node] ∧ Nd H Ph p ss ds ∧ ((∃ j : Nat, node = (j : Int) ∧ j < ds.length ∧ (j + 1 = ds.length → Q .non H) ∧ (j + 1 < ds.length → Q (.int ((j + 1 : Nat) : Int)) H)) ∨ ((node < 0 ∨ (ds.length : Int) ≤ node) ∧ E (.ref C) none H))
theorem jy (T : Tx K mg a) : aU P w K mg base (CX1 P w) 3 a.f_next_number a.fd_next_number ["tables", "node"] (qY a.tP_heap_look a.c_NoNode) := by
 refine T.D_next_number.F.ok1 qG (fun vs H Q E h => ?_) (fun cdv A outer s H vs Q E hr h => ?_)
 ·obtain ⟨p, ss, ds, node, rfl, _⟩ := h
  rfl
 obtain ⟨p, ss, ds, node, rfl, hN, h⟩ := h
 refine ⟨_, (ak (aY (aG T.D_check_node (j5 T) (by decide) hr uZ rfl (aa (pv 0) (aa (pv 1) aj))))
  (ak (aX (aM fO (aB aZ (pv 1) au) (aG T.D_node_count (gG T) (by decide) hr aH rfl (aa (pv 0) aj)) (aO _)) (aq (aD cB)) aN)
  (aq (aD (aB aZ (pv 1) au))))), ?_⟩
 have hlen := hN.len
 refine ⟨_, rfl, _, rfl, p.t, p.ah, p.ns, _, node, rfl, hN.b.ask.tab, ?_⟩
 rcases h with ⟨j, rfl, hj, q1, q2⟩ | ⟨h1, q⟩
 ·refine .inl ⟨by omega, by omega, ?_⟩
  refine ⟨_, rfl, _, _, rfl, rfl, _, rfl, p.t, p.ah, p.ns, _, rfl, hN.b.ask.tab, rfl, _, rfl, ?_⟩
  rcases Nat.lt_or_ge (j + 1) ds.length with z | z
  ·rw [decide_eq_false (show ¬ V.int ((j : Int) + 1) = V.int ((p.ns.length : Int) / 2) from fun y => by have := V.int.inj y; omega)]
   exact cI ⟨_, rfl, _, _, rfl, rfl, q2 z⟩
  ·rw [decide_eq_true (show V.int ((j : Int) + 1) = V.int ((p.ns.length : Int) / 2) from congrArg V.int (by omega))]
   exact fu (q1 (by omega))
 ·exact .inr ⟨by omega, q⟩
def pR (Ph : Addr) : Sp := fun vs H Q _ => ∃ (p : BP) (ss ds : List Int) (at0 : Nat), vs = [.ref p.t, .ref p.f, .int (at0 : Int)] ∧ Nd H Ph p ss ds ∧ at0 ≤ p.ns.length ∧ ∀ v ss' H', pP p.ns at0 v → Did H H' Ph p.sn (many p.ns.length) 8 ss ss' → Q v H'
theorem jA (T : Tx K mg a) (B : Bs mg base a) : aU P w K mg base CX0 10 a.f_closed_from a.fd_closed_from ["tables", "look", "at"] (pR a.tP_heap_look) := by
 refine T.D_closed_from.F.ok jk (fun vs H Q E h => ?_) (fun cdv A outer s H vs Q E hr h => ?_)
 ·obtain ⟨p, ss, ds, at0, rfl, _⟩ := h
  rfl
 obtain ⟨p, ss, ds, at0, rfl, hN, hat, q⟩ := h
 refine ⟨_, (ak (aF (i := 3) jk.nd rfl (Or.inl rfl) (aG T.D_noughts_at (rN T) (by decide) hr aH rfl (aa (pv 0) (aa (pv 1) (aa (pv 2) aj)))))
  (ak (aX (aM fO (pv 3) (aG T.D_node_count (gG T) (by decide) hr aH rfl (aa (pv 0) aj)) (aO _)) (aq (aD cB)) aN)
  (aq (aD (aG T.D_node_at (wH T B) (by decide) hr aH rfl (aa (pv 0) (aa (pv 1) (aa (aG T.D_nought_place (o8 T) (by decide) hr aH rfl (aa (pv 0) (aa (pv 1) (aa (pv 3) aj)))) aj)))))))), ?_⟩
 have hlen := hN.len
 have few := hN.few
 have hb := hN.bits
 have hall : nts p.ns p.ns.length = (ds.length : Int) := by
  unfold nts
  rw [List.take_length, hN.sum]
  omega
 have hmn := cD hb at0 p.ns.length hat
 have h0 := qm hb at0
 refine ⟨_, rfl, _, rfl, _, rfl, p.t, p.f, p.sn, p.bl, p.ah, p.ns, ss, [.ref p.nd], at0, rfl, hN.b.ask, by omega, hat, fun ss1 H1 w1 s1 => ?_⟩
 have d1 := hN.b.look w1 s1
 have l1 := d1.wr.len
 have hB1 := hN.b.did d1 (by omega)
 refine ⟨_, rfl, _, rfl, p.t, p.ah, p.ns, _, rfl, hB1.ask.tab, rfl, _, rfl, ?_⟩
 have en : (at0 : Int) - (p.ns.take at0).sum = nts p.ns at0 := rfl
 rw [en]
 by_cases z : nts p.ns at0 = nts p.ns p.ns.length
 ·rw [decide_eq_true (show V.int (nts p.ns at0) = V.int ((p.ns.length : Int) / 2) from congrArg V.int (by omega))]
  exact fu (q _ ss1 H1 (.inl ⟨rfl, z⟩) (d1.le (by decide)))
 ·rw [decide_eq_false (show ¬ V.int (nts p.ns at0) = V.int ((p.ns.length : Int) / 2) from fun y => by have := V.int.inj y; omega)]
  refine cI ⟨_, rfl, _, rfl, _, rfl, _, rfl, _, rfl, p.t, p.f, p.sn, p.bl, p.ah, p.ns, ss1, [.ref p.nd], nts p.ns at0, rfl, hB1.ask, by omega, h0, ?_, fun H2 x ss2 q1 q2 w2 s2 => ?_⟩
  ·rw [hN.sum]
   omega
  have d2 := hB1.look w2 s2
  have l2 := d2.wr.len
  have hB2 := hB1.did d2 (by omega)
  exact ⟨p, ss2, x, rfl, hB2, by omega, hN.tree, .inr ⟨q1, fun k ss3 H3 hk d3 => q _ ss3 H3 (.inr ⟨x, _, rfl, q1, q2, .inr ⟨q1, k, hk, rfl⟩⟩) ((d1.trans d2).trans d3)⟩⟩
def uv (K : PySem.W.Frag) : Sp := fun vs H Q _ => ∃ (o dx C t f : Addr), vs = [.ref o, .ref t, .ref f] ∧ H o = some (.ins C dx []) ∧ Cls K C ∧ cX K C "tables" ∧ cX K C "look" ∧ Q .non (upd H o (.ins C dx [("tables", .ref t), ("look", .ref f)]))
theorem iK (T : Tx K mg a) : aU P w K mg base CX0 1 a.f_Walk_init a.fd_Walk_init ["self", "tables", "look"] (uv K) := by
 refine T.D_Walk_init.F.ok ux (fun vs H Q E h => ?_) (fun cdv A outer s H vs Q E hr h => ?_)
 ·obtain ⟨o, dx, C, t, f, rfl, _⟩ := h
  rfl
 obtain ⟨o, dx, C, t, f, rfl, h0, hc, n1, n2, q⟩ := h
 refine ⟨_, (ak (Bj (pv 0) (pv 1) rfl)
  (aq (Bj (pv 0) (pv 2) rfl))), ?_⟩
 refine ⟨_, rfl, _, rfl, o, _, dx, _, rfl, h0, hc, n1, by decide, ?_⟩
 refine ⟨_, rfl, _, rfl, o, _, dx, _, rfl, ao, hc, n2, (by show 1 < 1000; decide), ?_⟩
 rw [iw]
 exact q
structure Wk (H : Hp) (Ph C dx o : Addr) (p : BP) (ss ds : List Int) : Prop where
 at_ : H o = some (.ins C dx [("tables", .ref p.t), ("look", .ref p.f)])
 nd : Nd H Ph p ss ds
theorem Wk.did {H H' : Hp} {Ph C dx o : Addr} {p : BP} {ss ss' ds : List Int} {n k : Nat} (h : Wk H Ph C dx o p ss ds) (d : Did H H' Ph p.sn n k ss ss') (hl : ss'.length ≤ 900) : Wk H' Ph C dx o p ss' ds := ⟨d.kp _ _ h.at_ (TabAt.ne h.nd.b.tab h.at_ nofun) (fun z => by have := h.at_; rw [z, h.nd.b.ask.asks.seen] at this; cases this), h.nd.did d hl⟩
theorem Wk.same {H H' : Hp} {Ph C dx o : Addr} {p : BP} {ss ds : List Int} (h : Wk H Ph C dx o p ss ds) (s : aR H H') : Wk H' Ph C dx o p ss ds := ⟨s _ _ h.at_, h.nd.same s⟩
def Fz (R : List Int → List Int → Nat → V → Prop) (k : Nat) (Ph C N : Addr) : Sp := fun vs H Q E => ∃ (o dx : Addr) (p : BP) (ss ds : List Int) (node : Int), vs = [.ref o, .int node] ∧ Wk H Ph C dx o p ss ds ∧ ss.length ≤ 860 ∧
 ((∃ j : Nat, node = (j : Int) ∧ j < ds.length ∧ ∀ v ss' H', R p.ns ds j v → Did H H' Ph p.sn (many p.ns.length) k ss ss' → Q v H') ∨ ((node < 0 ∨ (ds.length : Int) ≤ node) ∧ E (.ref N) none H))
def wK (_ ds : List Int) (j : Nat) (v : V) : Prop := (v = .non ∧ j + 1 = ds.length) ∨ (v = .int ((j + 1 : Nat) : Int) ∧ j + 1 < ds.length)
theorem jB (T : Tx K mg a) : aU P w K mg base (CX1 P w) 4 a.f_Walk_behind a.fd_Walk_behind ["self", "node"] (Fz wK 0 a.tP_heap_look a.c_Walk a.c_NoNode) := by
 refine T.D_Walk_behind.F.ok1 qt (fun vs H Q E h => ?_) (fun cdv A outer s H vs Q E hr h => ?_)
 ·obtain ⟨o, dx, p, ss, ds, node, rfl, _⟩ := h
  rfl
 obtain ⟨o, dx, p, ss, ds, node, rfl, hW, hl, h⟩ := h
 refine ⟨_, (aq (aD (aG T.D_next_number (jy T) (by decide) hr uZ rfl (aa (eO (pv 0) rfl) (aa (pv 1) aj))))), ?_⟩
 refine ⟨_, rfl, o, _, dx, _, _, rfl, hW.at_, T.cl_Walk, T.na_Walk_tables, rfl, _, rfl, p, ss, ds, node, rfl, hW.nd, ?_⟩
 rcases h with ⟨j, rfl, hj, q⟩ | ⟨hno, e⟩
 ·exact .inl ⟨j, rfl, hj, fun z => q _ ss H (.inl ⟨rfl, z⟩) (hW.nd.b.self (many p.ns.length)), fun z => q _ ss H (.inr ⟨rfl, z⟩) (hW.nd.b.self (many p.ns.length))⟩
 ·exact .inr ⟨hno, e⟩
theorem Pair.nodeV {ns : List Int} {x c : Nat} (h : Pair ns x c) : eQ ns c (ns.take x).sum := by
 have lt := h.lt
 have e := cJ h.nought
 have eq := h.eq
 exact .inr ⟨h.nought, x, ⟨lt, by omega, fun i i1 i2 => by have := h.above i i1 (by omega); omega⟩, rfl⟩
theorem jC (T : Tx K mg a) (B : Bs mg base a) : aU P w K mg base (CX1 P w) 11 a.f_Late_behind a.fd_Late_behind ["self", "node"] (Fz (fun ns _ j v => uQ ns (j : Int) v) 13 a.tP_heap_look a.c_Late a.c_NoNode) := by
 refine T.D_Late_behind.F.ok1 jf (fun vs H Q E h => ?_) (fun cdv A outer s H vs Q E hr h => ?_)
 ·obtain ⟨o, dx, p, ss, ds, node, rfl, _⟩ := h
  rfl
 obtain ⟨o, dx, p, ss, ds, node, rfl, hW, hl, h⟩ := h
 refine ⟨_, (ak (aF (i := 2) jf.nd rfl (Or.inl rfl) (aG T.D_closing (wX T B) (by decide) hr aH rfl (aa (eO (pv 0) rfl) (aa (eO (pv 0) rfl) (aa (aG T.D_place_of (oM T) (by decide) hr uZ rfl (aa (eO (pv 0) rfl) (aa (eO (pv 0) rfl) (aa (pv 1) aj)))) aj)))))
  (aq (aD (aG T.D_closed_from (jA T B) (by decide) hr aH rfl (aa (eO (pv 0) rfl) (aa (eO (pv 0) rfl) (aa (aB aZ (pv 2) au) aj))))))), ?_⟩
 refine ⟨_, rfl, o, _, dx, _, _, rfl, hW.at_, T.cl_Late, T.na_Late_tables, rfl, _, rfl, o, _, dx, _, _, rfl, hW.at_, T.cl_Late, T.na_Late_look, rfl, _, rfl, o, _, dx, _, _, rfl, hW.at_, T.cl_Late, T.na_Late_tables, rfl, _, rfl, o, _, dx, _, _, rfl, hW.at_, T.cl_Late, T.na_Late_look, rfl, _, rfl, p, ss, ds, node, rfl, hW.nd, ?_⟩
 rcases h with ⟨j, rfl, hj, q⟩ | ⟨hno, e⟩
 rotate_left
 ·exact .inr ⟨hno, e⟩
 refine .inl ⟨j, rfl, hj, fun x ss1 H1 x1 x2 d1 => ?_⟩
 have l1 := d1.wr.len
 have hW1 := hW.did d1 (by omega)
 have hb := hW.nd.bits
 refine ⟨p, ss1, x, rfl, hW1.nd.b, by omega, hW.nd.tree, x1, fun c ss2 H2 hc d2 => ?_⟩
 have l2 := d2.wr.len
 have hW2 := hW1.did d2 (by omega)
 have pr := lB hb x1 hc
 have hcl := pr.ltn
 refine ⟨_, rfl, o, _, dx, _, _, rfl, hW2.at_, T.cl_Late, T.na_Late_tables, rfl, _, rfl, o, _, dx, _, _, rfl, hW2.at_, T.cl_Late, T.na_Late_look, rfl, _, rfl, _, _, rfl, rfl, p, ss2, ds, c + 1, rfl, hW2.nd, by omega, fun v ss3 H3 hv d3 => q v ss3 H3 ⟨c, pr.nought, ?_, hv⟩ ((d1.trans d2).trans d3)⟩
 have := pr.nodeV
 rw [x2] at this
 exact this
def tip (ds : List Int) (i : Nat) : Bool := decide (i + 1 = ds.length) || decide ((ds[i + 1]?).getD 0 ≤ (ds[i]?).getD 0)
theorem BL.tip {ds : List Int} (hg : bu ds) {i : Nat} {v : V} (h : BL ds i v) : (v = .non → tip ds i = true) ∧ (v ≠ .non → tip ds i = false) := by
 obtain ⟨d, hd, ⟨rfl, h⟩ | ⟨rfl, h⟩⟩ := h
 ·refine ⟨nofun, fun _ => ?_⟩
  have hl := (List.getElem?_eq_some_iff.mp h).1
  unfold Tw.tip
  rw [h, hd, decide_eq_false (by omega), Bool.false_or]
  exact decide_eq_false (by show ¬ d + 1 ≤ d; omega)
 ·refine ⟨fun _ => ?_, fun z => absurd rfl z⟩
  have hl := (List.getElem?_eq_some_iff.mp hd).1
  unfold Tw.tip
  rcases Nat.lt_or_ge (i + 1) ds.length with z | z
  ·have e := List.getElem?_eq_getElem z
   have h2 := hg.2 i _ _ hd e
   rw [e, hd, decide_eq_false (by omega), Bool.false_or]
   refine decide_eq_true ?_
   show ds[i + 1] ≤ d
   have h3 : ds[i + 1] ≠ d + 1 := fun y => h (by rw [e, y])
   omega
  ·rw [decide_eq_true (show i + 1 = ds.length by omega)]
   rfl
theorem tip_from {H : Hp} {Ph : Addr} {p : BP} {ss ds : List Int} (hN : Nd H Ph p ss ds) {j x : Nat} (hx : Bc p.ns j x) (hj : j < ds.length) {v : V} (h : pP p.ns x v) : jc (tip ds) ds.length j v := by
 have hb := hN.bits
 obtain ⟨c, pr⟩ := hN.shut hx
 have hcx := pr.lt
 have hcl := pr.ltn
 have m1 := cD hb x c (by omega)
 have m2 := cD hb (c + 1) p.ns.length hcl
 rw [dM pr.nought] at m2
 rcases h with ⟨_, e⟩ | ⟨q, u, rfl, hq, eq, hu⟩
 ·omega
 have hxq : x < q := by
  rcases Nat.lt_trichotomy x q with z | z | z
  ·exact z
  ·have h1 := hx.1
   rw [z, hq] at h1
   cases h1
  ·have := cD hb (q + 1) x z
   rw [dM hq] at this
   omega
 have ones : ∀ m, x ≤ m → m < q → p.ns[m]? = some 1 := fun m h1 h2 => by
  have hql := (List.getElem?_eq_some_iff.mp hq).1
  have e := List.getElem?_eq_getElem (show m < p.ns.length by omega)
  rcases hb _ (List.mem_of_getElem? e) with z | z
  ·rw [z] at e
   have a1 := cD hb x m h1
   have a2 := cD hb (m + 1) q h2
   rw [dM e] at a2
   omega
  ·rw [e, z]
 have ops : ∀ d, x + d < q → Bc p.ns (j + d) (x + d) := fun d => by
  induction d with
  | zero => exact fun _ => hx
  | succ d ih =>
   intro hd
   have i1 := ih (by omega)
   refine ⟨ones _ (by omega) hd, ?_⟩
   rw [show x + (d + 1) = x + d + 1 by omega, bN i1.1, i1.2]
   omega
 obtain ⟨d, hd⟩ : ∃ d, q = x + d + 1 := ⟨q - x - 1, by omega⟩
 subst hd
 have hop := ops d (by omega)
 have hhd := cJ hop.1
 have euq : u = ((j + d : Nat) : Int) := by
  have : eQ p.ns (x + d + 1) (p.ns.take (x + d)).sum := .inr ⟨hq, x + d, ⟨by omega, by omega, fun i i1 i2 => by omega⟩, rfl⟩
  rw [hu.uniq this, hop.2]
 refine .inr ⟨j + d, by rw [euq], by omega, ?_, ?_, fun m m1 m2 => ?_⟩
 ·have := dg hb (x + d + 1) p.ns.length (by have := (List.getElem?_eq_some_iff.mp hq).1; omega)
  rw [bN hop.1, List.take_length, hN.sum, hop.2] at this
  omega
 ·exact ((hN.kfirst hop).2 hq |>.tip hN.good).1 rfl
 ·obtain ⟨e, rfl⟩ : ∃ e, m = j + e := ⟨m - j, by omega⟩
  have ho := ops e (by omega)
  exact ((((hN.kfirst ho).1 (ones (x + e + 1) (by omega) (by omega))).1).tip hN.good).2 nofun
def vm (Ph C : Addr) : Sp := fun vs H Q _ => ∃ (o dx : Addr) (p : BP) (ss ds : List Int) (j : Nat), vs = [.ref o, .int (j : Int)] ∧ Wk H Ph C dx o p ss ds ∧ ss.length ≤ 870 ∧ j < ds.length ∧ ∀ v ss' H', jc (tip ds) ds.length j v → Did H H' Ph p.sn (many p.ns.length) 9 ss ss' → Q v H'
theorem mU (T : Tx K mg a) (B : Bs mg base a) : aU P w K mg base CX0 11 a.f_Tips_tip_from a.fd_Tips_tip_from ["self", "node"] (vm a.tP_heap_look a.c_Tips) := by
 refine T.D_Tips_tip_from.F.ok mR (fun vs H Q E h => ?_) (fun cdv A outer s H vs Q E hr h => ?_)
 ·obtain ⟨o, dx, p, ss, ds, j, rfl, _⟩ := h
  rfl
 obtain ⟨o, dx, p, ss, ds, j, rfl, hW, hl, hj, q⟩ := h
 refine ⟨_, (aq (aD (aG T.D_closed_from (jA T B) (by decide) hr aH rfl (aa (eO (pv 0) rfl) (aa (eO (pv 0) rfl) (aa (aG T.D_place_of (oM T) (by decide) hr yE rfl (aa (eO (pv 0) rfl) (aa (eO (pv 0) rfl) (aa (pv 1) aj)))) aj)))))), ?_⟩
 refine ⟨_, rfl, o, _, dx, _, _, rfl, hW.at_, T.cl_Tips, T.na_Tips_tables, rfl, _, rfl, o, _, dx, _, _, rfl, hW.at_, T.cl_Tips, T.na_Tips_look, rfl, _, rfl, o, _, dx, _, _, rfl, hW.at_, T.cl_Tips, T.na_Tips_tables, rfl, _, rfl, o, _, dx, _, _, rfl, hW.at_, T.cl_Tips, T.na_Tips_look, rfl, _, rfl, p, ss, ds, (j : Int), rfl, hW.nd, .inl ⟨j, rfl, hj, fun x ss1 H1 x1 x2 d1 => ?_⟩⟩
 have l1 := d1.wr.len
 have hW1 := hW.did d1 (by omega)
 exact ⟨p, ss1, ds, x, rfl, hW1.nd, Nat.le_of_lt (List.getElem?_eq_some_iff.mp x1).1, fun v ss2 H2 hv d2 => q v ss2 H2 (Tw.tip_from hW1.nd ⟨x1, x2⟩ hj hv) (d1.trans d2)⟩
theorem jJ (T : Tx K mg a) (B : Bs mg base a) : aU P w K mg base (CX1 P w) 12 a.f_Tips_behind a.fd_Tips_behind ["self", "node"] (Fz (fun _ ds j v => jc (tip ds) ds.length (j + 1) v) 9 a.tP_heap_look a.c_Tips a.c_NoNode) := by
 refine T.D_Tips_behind.F.ok1 jG (fun vs H Q E h => ?_) (fun cdv A outer s H vs Q E hr h => ?_)
 ·obtain ⟨o, dx, p, ss, ds, node, rfl, _⟩ := h
  rfl
 obtain ⟨o, dx, p, ss, ds, node, rfl, hW, hl, h⟩ := h
 refine ⟨_, (ak (aF (i := 2) jG.nd rfl (Or.inl rfl) (aG T.D_next_number (jy T) (by decide) hr uZ rfl (aa (eO (pv 0) rfl) (aa (pv 1) aj))))
  (ak (aX (gK (iy (pv 2))) (aq (aD cB)) aN)
  (aq (aD (iT (pv 0) T.cl_Tips T.M_Tips_tip_from ((mU T B).mono (by decide)) hr T.D_Tips_tip_from.b .nil aH (aa (pv 2) aj)))))), ?_⟩
 refine ⟨_, rfl, o, _, dx, _, _, rfl, hW.at_, T.cl_Tips, T.na_Tips_tables, rfl, _, rfl, p, ss, ds, node, rfl, hW.nd, ?_⟩
 rcases h with ⟨j, rfl, hj, q⟩ | ⟨hno, e⟩
 rotate_left
 ·exact .inr ⟨hno, e⟩
 refine .inl ⟨j, rfl, hj, fun z => ?_, fun z => ?_⟩
 ·exact ⟨_, rfl, _, rfl, fu (q _ ss H (.inl ⟨rfl, fun m m1 m2 => by omega⟩) ((hW.nd.b.self (many p.ns.length)).le (by decide)))⟩
 ·exact ⟨_, rfl, _, rfl, cI ⟨_, rfl, o, dx, _, rfl, hW.at_, rfl, _, rfl, o, dx, p, ss, ds, j + 1, rfl, hW, by omega, z, q⟩⟩
theorem bu.take {ds : List Int} (h : bu ds) {m : Nat} (hm : 1 ≤ m) : bu (ds.take m) := by
 obtain ⟨h1, h2⟩ := h
 refine ⟨by rw [List.getElem?_take, if_pos (show 0 < m by omega)]; exact h1, fun i x y ex ey => ?_⟩
 rw [List.getElem?_take] at ex ey
 split at ey
 ·rw [if_pos (by omega)] at ex
  exact h2 i x y ex ey
 ·cases ey
def xJ (K : PySem.W.Frag) : Sp := fun vs H Q _ => ∃ (p : Addr) (zs : List Int) (m : Nat), vs = [.ref p, .int (m : Int)] ∧ SqL K H p (zs.map V.int) ∧ zs.length ≤ 63 ∧ 1 ≤ m ∧ ∀ (r : Addr) (H' : Hp) (ds : List Int), H r = none → aR H H' → H' r = some (.lst (ds.map V.int)) → bu ds → ds.length ≤ m → Q (.ref r) H'
theorem rB (T : Tx K mg a) : aU P w K mg base CX0 1 a.f_law_depths a.fd_law_depths ["_law_script", "_law_most"] (xJ K) := by
 refine T.D_law_depths.F.ok bD (fun vs H Q E h => ?_) (fun cdv A outer s H vs Q E hr h => ?_)
 ·obtain ⟨p, zs, m, rfl, _⟩ := h
  rfl
 obtain ⟨p, zs, m, rfl, hS, hl, hm1, q⟩ := h
 refine ⟨_, (ak (aF (i := 2) bD.nd rfl (Or.inl rfl) (bZ (aa au aj)))
  (ak (bR PassesOwn.never rfl (dH (fK ik (pv 0) jY (gh au))) (aV (i := 3) bD.nd rfl (Or.inl rfl)) (ak (aF (i := 4) bD.nd rfl (Or.inl rfl) (aB cR (aB b7 (pv 3) au) au))
  (ak (aF (i := 5) bD.nd rfl (Or.inl rfl) (aB aZ au (aB cR (aB dG (pv 4) au) (aB aZ (bc bL (pv 2) (qU kE au) (fun _ _ => rfl)) au))))
  (ak (aF (i := 6) bD.nd rfl (Or.inl rfl) au)
  (ak (aX (aM ie (aB cR (pv 4) au) au (aO _)) (aq (aF (i := 6) bD.nd rfl (Or.inl rfl) (aB aZ au (aB cR (aB cR (aB b7 (pv 3) au) au) au)))) aN)
  (aq (bR PassesOwn.never rfl (fc rfl T.b_range (aa (pv 6) aj)) (aV (i := 7) bD.nd rfl (Or.inl rfl)) (ak (aY (jE PySem.F.plainAttrs_list PySem.F.slot_list_append PySem.F.type_list_append bY (pv 2) (aa (pv 5) aj)))
  (aq (aX (aM fO (aB cR (pv 4) au) au (aO _)) (aq (aF (i := 5) bD.nd rfl (Or.inl rfl) (aB aZ (pv 5) au))) aN))))))))))
  (aq (aD (fK ik (pv 2) jY (gh (pv 1))))))), ?_⟩
 refine ⟨(by show 1 ≤ sizeLine; decide), fun r hr' => ?_⟩
 refine ⟨_, rfl, _, rfl, p, _, rfl, (az hr' _).seq hS, fun c hc => ⟨c, rfl, ⟨_, SqL.of ao⟩, ?_⟩⟩
 have ez : jn (zs.map V.int) none (some 63) = zs.map V.int := by
  rw [show (63 : Int) = ((63 : Nat) : Int) from rfl, tX, List.take_of_length_le hl]
 rw [ez] at *
 have ne : r ≠ c := aJ ao hc
 refine cZ (xs := zs.map V.int) (fun i σ H' => (∃ (k2 k4 k5 k6 k7 : Option V), σ = [some (.ref p), some (.int (m : Int)), some (.ref r), k2, k4, k5, k6, k7]) ∧ aR H H' ∧ H' c = some (.lst (zs.map V.int)) ∧ ∃ (es : List Int) (la : Int), H' r = some (.lst ((es ++ [la]).map V.int)) ∧ bu (es ++ [la]) ∧ 0 ≤ la ∧ es.length ≤ 40 * i) ?_ ?_ ?_ ?_
 ·refine ⟨⟨none, none, none, none, none, rfl⟩, (az hr' _).trans (az hc _), ao, [], 0, ?_, bu.root, by decide, by simp⟩
  rw [aC ne, ao]
  rfl
 ·rintro i σ H' _ ⟨_, _, h, _⟩
  exact SqL.of h
 ·rintro i x σ H' hx ⟨⟨k2, k4, k5, k6, k7, rfl⟩, sm, hc1, es, la, hr1, hg, hla0, hn⟩
  obtain ⟨z, hz, rfl⟩ := int_at hx
  have hi := (List.getElem?_eq_some_iff.mp hz).1
  have hla : atI ((es ++ [la]).map V.int) (-1) = some (.int la) := by
   rw [List.map_append]
   exact mK _ _
  refine ⟨_, rfl, _, _, rfl, rfl, .inr ⟨by decide, by decide⟩, _, _, rfl, rfl, (by show (0 : Int) < 2147483647; decide), ?_⟩
  refine ⟨_, rfl, _, _, rfl, rfl, ⟨by decide, by decide⟩, _, rfl, _, rfl, r, _, _, _, rfl, rfl, SqL.of hr1, hla, _, _, rfl, rfl, _, _, rfl, rfl, (by show (0 : Int) < la + 1; omega), _, _, rfl, rfl, ?_⟩
  have b0 := Int.emod_nonneg (z * 48271 % 2147483647 / 8) (show la + 1 ≠ 0 by omega)
  have b1 := Int.emod_lt_of_pos (z * 48271 % 2147483647 / 8) (show (0 : Int) < la + 1 by omega)
  generalize z * 48271 % 2147483647 / 8 % (la + 1) = dd at *
  refine ⟨_, rfl, _, _, rfl, rfl, (by show (0 : Int) < 8; decide), _, _, rfl, rfl, _, rfl, ?_⟩
  refine Er (fun σ H2 => H2 = H' ∧ ∃ mn : Int, σ = [some (.ref p), some (.int (m : Int)), some (.ref r), some (.int z), some (.int (z * 48271 % 2147483647)), some (.int (1 + dd)), some (.int mn), k7] ∧ 1 ≤ mn ∧ mn ≤ 40) ⟨rfl, _, rfl, by omega, by omega⟩ ?_ (fun _ mm => ?_)
  rotate_left
  ·refine ⟨_, rfl, _, _, rfl, rfl, .inr ⟨by decide, by decide⟩, _, _, rfl, rfl, (by show (0 : Int) < 2147483629; decide), _, _, rfl, rfl, (by show (0 : Int) < 10; decide), _, _, rfl, rfl, ?_⟩
   exact mm _ _ ⟨rfl, 1 + z * 69621 % 2147483629 % 10, rfl, by omega, by omega⟩
  rintro σ2 H2 ⟨rfl, mn, rfl, hm0, hm1'⟩
  refine ⟨_, rfl, _, rfl, by omega, by omega, ?_⟩
  refine jZ (fun j σ H3 => (∃ (dp : Int) (k7 : Option V), σ = [some (.ref p), some (.int (m : Int)), some (.ref r), some (.int z), some (.int (z * 48271 % 2147483647)), some (.int dp), some (.int mn), k7] ∧ 1 ≤ dp ∧ aR H H3 ∧ H3 c = some (.lst (zs.map V.int)) ∧ ∃ (fs : List Int) (lb : Int), H3 r = some (.lst ((fs ++ [lb]).map V.int)) ∧ bu (fs ++ [lb]) ∧ 0 ≤ lb ∧ fs.length = es.length + j ∧ dp ≤ lb + 1)) ?_ ?_ ?_
  ·exact ⟨_, _, rfl, by omega, sm, hc1, es, la, hr1, hg, hla0, rfl, by omega⟩
  ·rintro j σ H3 hj ⟨dp, k7, rfl, hd0, sm3, hc3, fs, lb, hr3, hg3, hlb0, hfl, g0⟩
   have hj' : (j : Int) < 40 := by omega
   refine ⟨_, rfl, .inl ⟨rfl, _, SqL.of hr3⟩, _, rfl, r, _, _, rfl, rfl, hr3, ?_, ?_⟩
   ·rw [List.length_map, List.length_append, List.length_singleton, sizeLine_eq]
    omega
   have sm4 := bW sm3 hr' (.lst ((fs ++ [lb]).map V.int ++ [.int dp]))
   have hc4 : upd H3 r (.lst ((fs ++ [lb]).map V.int ++ [.int dp])) c = some (.lst (zs.map V.int)) := by
    rw [aC (Ne.symm ne)]
    exact hc3
   have hr4 : upd H3 r (.lst ((fs ++ [lb]).map V.int ++ [.int dp])) r = some (.lst ((fs ++ [lb] ++ [dp]).map V.int)) := by
    rw [ao, List.map_append (l₂ := [dp])]
    rfl
   have hg4 : bu (fs ++ [lb] ++ [dp]) := hg3.snoc (by simp) hd0 g0
   have hl4 : (fs ++ [lb]).length = es.length + (j + 1) := by
    rw [List.length_append, List.length_singleton]
    omega
   refine ⟨_, rfl, _, _, rfl, rfl, (by show (0 : Int) < 8; decide), rfl, _, rfl, bI (fun _ => ?_) fun _ => ?_⟩
   ·exact ⟨_, rfl, _, _, rfl, rfl, dp + 1, _, rfl, by omega, sm4, hc4, fs ++ [lb], dp, hr4, hg4, by omega, hl4, by omega⟩
   ·exact ⟨dp, _, rfl, by omega, sm4, hc4, fs ++ [lb], dp, hr4, hg4, by omega, hl4, by omega⟩
  ·rintro σ H3 ⟨dp, k7, rfl, hd0, sm3, hc3, fs, lb, hr3, hg3, hlb0, hfl, g0⟩
   exact ⟨⟨_, _, _, _, _, rfl⟩, sm3, hc3, fs, lb, hr3, hg3, hlb0, by omega⟩
 ·rintro σ H' ⟨⟨k2, k4, k5, k6, k7, rfl⟩, sm, hc1, es, la, hr1, hg, hla0, hn⟩
  refine ⟨_, rfl, _, rfl, _, rfl, r, _, rfl, SqL.of hr1, fun e he => q e _ ((es ++ [la]).take m) (sm.free he) (sm.trans (az he _)) ?_ (hg.take hm1) (by rw [List.length_take]; omega)⟩
  rw [ao, tX, List.map_take]
def BZ : Sp := fun vs H Q _ => ∃ (p : Addr) (ds : List Int), vs = [.ref p] ∧ H p = some (.lst (ds.map V.int)) ∧ bu ds ∧ ds.length ≤ 2048 ∧ ∀ (r : Addr) (xs : List Int) (H' : Hp), H r = none → aR H H' → H' r = some (.lst (xs.map V.int)) → cj (brk ds 0) (brk ds 0).length xs → Q (.ref r) H'
def Gh (H : Hp) (r t : Addr) (ns : List Int) (L : Nat) (X : Hp) : Prop := aR H X ∧ L ≤ ns.length ∧ ∃ xs ps : List Int, X r = some (.lst (xs.map V.int)) ∧ X t = some (.lst (ps.map V.int)) ∧ cj ns L xs ∧ dB ns L ps
theorem vW (T : Tx K mg a) : aU P w K mg base CX0 1 a.f_law_late a.fd_law_late ["_law_depths_here"] BZ := by
 refine T.D_law_late.F.ok gf (fun vs H Q E h => ?_) (fun cdv A outer s H vs Q E hr h => ?_)
 ·obtain ⟨p, ds, rfl, _⟩ := h
  rfl
 obtain ⟨p, ds, rfl, hp, hg, hl, q⟩ := h
 refine ⟨_, (ak (aF (i := 1) gf.nd rfl (Or.inl rfl) (bZ aj))
  (ak (aF (i := 2) gf.nd rfl (Or.inl rfl) (bZ aj))
  (ak (bR PassesOwn.never rfl (fc rfl T.b_range (aa (aQ aL rfl T.b_len Tw.bH (aa (pv 0) aj)) aj)) (aV (i := 3) gf.nd rfl (Or.inl rfl)) (ak (jL PassesOwn.never (aM ie (aQ aL rfl T.b_len Tw.bH (aa (pv 2) aj)) (bc bL (pv 0) (pv 3) (fun _ _ => rfl)) (aO _)) (aq (aY (jE PySem.F.plainAttrs_list PySem.F.slot_list_append PySem.F.type_list_append bY (pv 1) (aa (Aj PySem.F.plainAttrs_list PySem.F.slot_list_pop PySem.F.type_list_pop Eb (pv 2)) aj)))))
  (aq (aY (jE PySem.F.plainAttrs_list PySem.F.slot_list_append PySem.F.type_list_append bY (pv 2) (aa (pv 3) aj))))))
  (aq (aD (aB kW (pv 1) (Ck (pv 2) (qU kE au)))))))), ?_⟩
 have ern : (ds.map V.int).length = ds.length := List.length_map ..
 have hbl := jP hg
 have hbits := fH ds 0
 have htr := lC hg
 refine ⟨(by show 0 ≤ sizeLine; decide), fun r hr' => ?_⟩
 have s0 := az hr' (.lst [])
 refine ⟨(by show 0 ≤ sizeLine; decide), fun t ht' => ?_⟩
 have s1 := s0.trans (az ht' (.lst []))
 have ht0 := s0.free ht'
 have ntr : r ≠ t := aJ ao ht'
 have hd0 : ∀ (k : Nat) (d : Int), ds[k]? = some d → 0 ≤ d := fun k d e => by
  rcases Nat.eq_zero_or_pos k with z | z
  ·subst z
   rw [hg.1] at e
   cases e
   decide
  ·have := hg.one z e
   omega
 have hsum : (brk ds 0).sum = (ds.length : Int) := jj hg
 have hxl : ∀ {L : Nat} {xs : List Int}, cj (brk ds 0) L xs → L ≤ (brk ds 0).length → xs.length ≤ 4096 := fun {L xs} h hL => by
  have h1 := h.1
  unfold nts at h1
  have := dg hbits 0 L (Nat.zero_le _)
  rw [List.take_zero] at this
  have e : ([] : List Int).sum = 0 := rfl
  omega
 refine ⟨_, rfl, p, _, rfl, .inl (SqL.of (s1 _ _ hp)), (ds.length : Int), congrArg (fun n : Nat => [V.int (n : Int)]) ern, by omega, by omega, ?_⟩
 rw [Int.toNat_natCast]
 refine jZ (n := ds.length) (fun k σ X => ∃ k3 L, σ = [some (.ref p), some (.ref r), some (.ref t), k3] ∧ Gh H r t (brk ds 0) L X ∧ ((brk ds 0).take L).sum = (k : Int)) ⟨none, 0, rfl, ⟨s1, Nat.zero_le _, [], [], by rw [aC ntr]; exact ao, ao, cj.nil _, dB.nil _⟩, rfl⟩ ?_ ?_
 ·rintro k σ X hk ⟨k3, L, rfl, hX, hsL⟩
  have hdk := List.getElem?_eq_getElem hk
  generalize ds[k] = d at hdk
  have hd := hd0 k d hdk
  refine ⟨fun m σ X => ∃ L, σ = [some (.ref p), some (.ref r), some (.ref t), some (.int (0 + (k : Int)))] ∧ Gh H r t (brk ds 0) L X ∧ ((brk ds 0).take L).sum = (k : Int) ∧ m = (brk ds 0).length - L, ⟨_, L, rfl, hX, hsL, rfl⟩, ?_⟩
  rintro m σ X ⟨L, rfl, ⟨sm, hL, xs, ps, xr, xt, hR, hP⟩, hsL, hm⟩
  have hLl : L < (brk ds 0).length := by
   rcases Nat.lt_or_ge L (brk ds 0).length with z | z
   ·exact z
   ·have : L = (brk ds 0).length := by omega
    rw [this, List.take_length, hsum] at hsL
    omega
  have hgo := dB.goes hg hdk hsL hLl
  have hpl := hP.1
  have ix : atI (ds.map V.int) (0 + (k : Int)) = some (.int d) := by
   rw [Int.zero_add]
   exact mD (by rw [List.getElem?_map, hdk]; rfl)
  refine ⟨_, rfl, t, _, rfl, .inl (SqL.of xt), _, rfl, _, rfl, p, _, _, _, rfl, rfl, SqL.of (sm _ _ hp), ix, _, _, rfl, rfl, _, rfl, bI (fun c => ?_) fun c => ?_⟩
  ·have c := of_decide_eq_true c
   rw [List.length_map] at c
   have e0 := hgo.1 (by omega)
   obtain ⟨hP', v, ev, hv⟩ := hP.shut e0 (by omega)
   have ev' : (ps.map V.int)[(ps.map V.int).length - 1]? = some (.int v) := by
    rw [List.length_map, List.getElem?_map, ev]
    rfl
   have xr2 : upd X t (.lst (ps.map V.int).dropLast) r = some (.lst (xs.map V.int)) := by
    rw [aC ntr]
    exact xr
   refine ⟨_, fun σ' H2 z => z, _, rfl, .inl ⟨rfl, _, SqL.of xr⟩, _, rfl, .inl ⟨rfl, _, SqL.of xt⟩, t, _, _, rfl, rfl, xt, ev', r, _, _, rfl, rfl, xr2, ?_, ?_⟩
   ·have := hxl hR hL
    rw [List.length_map, sizeLine_eq]
    omega
   refine ⟨(brk ds 0).length - (L + 1), by omega, L + 1, rfl, ⟨bW (bW sm ht0 _) hr' _, hLl, xs ++ [v], ps.dropLast, ?_, ?_, hR.zero e0 hv, hP'⟩, by rw [bN e0]; omega, rfl⟩
   ·rw [ao, List.map_append]
    rfl
   ·rw [aC (Ne.symm ntr), ao, List.map_dropLast]
  ·have c : ¬ d < ((ps.map V.int).length : Int) := fun z => c (decide_eq_true z)
   rw [List.length_map] at c
   have e1 := hgo.2 (by omega)
   have hLle : ht (brk ds 0) L ≤ 4096 := by
    have : ht (brk ds 0) L = 2 * ((brk ds 0).take L).sum - (L : Int) := rfl
    omega
   refine ⟨_, rfl, .inl ⟨rfl, _, SqL.of xt⟩, _, rfl, t, _, _, rfl, rfl, xt, ?_, ?_⟩
   ·rw [List.length_map, sizeLine_eq]
    omega
   refine ⟨_, L + 1, rfl, ⟨bW sm ht0 _, by omega, xs, ps ++ [(k : Int)], ?_, ?_, hR.one e1, ?_⟩, ?_⟩
   ·rw [aC ntr]
    exact xr
   ·rw [ao, List.map_append, Int.zero_add]
    rfl
   ·rw [← hsL]
    exact hP.open e1
   ·rw [bN e1]
    omega
 ·rintro σ X ⟨k3, L, rfl, ⟨sm, hL, xs, ps, xr, xt, hR, hP⟩, hsL⟩
  have hz : ∀ q, L ≤ q → q < (brk ds 0).length → (brk ds 0)[q]? = some 0 := fun q q1 q2 => by
   have e := List.getElem?_eq_getElem q2
   rcases hbits _ (List.mem_of_getElem? e) with z | z
   ·rw [e, z]
   ·rw [z] at e
    have h1 := dg hbits L q q1
    have h2 := dg hbits (q + 1) (brk ds 0).length q2
    rw [bN e, List.take_length, hsum] at h2
    omega
  have hfin := cj.rest htr _ L xs ps rfl hL hz hP hR
  have hfl := hxl hfin (Nat.le_refl _)
  rw [List.length_append, List.length_reverse] at hfl
  refine ⟨_, rfl, _, rfl, _, rfl, rfl, t, _, rfl, SqL.of xt, fun l1 hl1 => ?_⟩
  have s2 := az hl1 (.lst (ps.map V.int).reverse)
  refine ⟨r, l1, _, _, rfl, rfl, s2 _ _ xr, ao, ?_, fun l2 hl2 => ?_⟩
  ·rw [List.length_reverse, List.length_map, List.length_map, sizeLine_eq]
   omega
  refine q l2 (xs ++ ps.reverse) _ ((sm.trans s2).free hl2) (sm.trans (s2.trans (az hl2 _))) ?_ hfin
  rw [ao, List.map_append, List.map_reverse]
theorem bu.more {ds : List Int} (h : bu ds) {d : Int} (h1 : 1 ≤ d) (h2 : ∀ a, ds[ds.length - 1]? = some a → d ≤ a + 1) : bu (ds ++ [d]) := by
 have h0 : 0 < ds.length := (List.getElem?_eq_some_iff.mp h.1).1
 have e := List.getElem?_eq_getElem (show ds.length - 1 < ds.length by omega)
 exact h.snoc e h1 (h2 _ e)
theorem bu.ext {ds : List Int} (h : bu ds) : ∀ n : Nat, bu (ds ++ (List.replicate n [1, 2, 2]).flatten)
 | 0 => by simpa using h
 | n + 1 => by
  have ih := bu.ext h n
  have a1 := ih.more (d := 1) (by decide) (fun a e => by have := vB ih e; omega)
  have a2 := a1.more (d := 2) (by decide) (fun a e => by simp at e; omega)
  have a3 := a2.more (d := 2) (by decide) (fun a e => by simp at e; omega)
  rw [List.replicate_succ', List.flatten_append]
  simpa using a3
def Ac : Sp := fun vs H Q _ => ∃ (sn : Addr) (ss : List Int) (size : Int), vs = [.ref sn, .int size] ∧ H sn = some (.lst (ss.map V.int)) ∧ (∀ x ∈ ss, 0 ≤ x ∧ x < size) ∧ Q (.bl true) (upd H sn (.lst []))
theorem mq (T : Tx K mg a) : aU P w K mg base CX0 2 a.f_law_there a.fd_law_there ["_law_seen", "_law_size"] Ac := by
 refine T.D_law_there.F.ok lE (fun vs H Q E h => ?_) (fun cdv A outer s H vs Q E hr h => ?_)
 ·obtain ⟨sn, ss, size, rfl, _⟩ := h
  rfl
 obtain ⟨sn, ss, size, rfl, h1, hx, q⟩ := h
 refine ⟨_, (ak (bR PassesOwn.never rfl (dH (pv 0)) (aV (i := 2) lE.nd rfl (Or.inl rfl)) (aq (aX (PW.pt (lO (jr (nG (aG T.D_law_whole (lH T) (by decide) hr aH rfl (aa (pv 2) aj)))) (lO (aM j9 (pv 2) au (aO _)) (jx (aM vR (pv 2) (pv 1) (aO _)))))) (aq (aD p6)) aN)))
  (ak (aY (Aj PySem.F.plainAttrs_list PySem.F.slot_list_clear PySem.F.type_list_clear Ar (pv 0)))
  (aq (aD p6)))), ?_⟩
 refine ⟨_, rfl, sn, rfl, ⟨_, SqL.of h1⟩, ?_⟩
 refine cZ (xs := ss.map V.int) (fun i σ H2 => (∃ k, σ = [some (.ref sn), some (.int size), k]) ∧ H2 = H) ⟨⟨none, rfl⟩, rfl⟩ ?_ ?_ ?_
 ·rintro i σ H2 _ ⟨_, rfl⟩
  exact SqL.of h1
 ·rintro i x σ H2 hx' ⟨⟨k, rfl⟩, rfl⟩
  obtain ⟨z, hz, rfl⟩ := int_at hx'
  have hcx := hx z (List.mem_of_getElem? hz)
  refine ⟨_, rfl, z, rfl, true, rfl, cI ?_⟩
  refine ⟨_, rfl, _, _, rfl, rfl, _, rfl, bI (fun y => ?_) fun _ => ?_⟩
  ·have y := of_decide_eq_true y
   omega
  refine ⟨_, rfl, _, rfl, _, _, rfl, rfl, _, rfl, bI (fun y => ?_) fun _ => ?_⟩
  ·have y := of_decide_eq_true y
   omega
  exact ⟨⟨_, rfl⟩, rfl⟩
 ·rintro σ H2 ⟨⟨k, rfl⟩, rfl⟩
  exact ⟨_, rfl, .inl ⟨rfl, _, SqL.of h1⟩, sn, _, rfl, rfl, h1, q⟩
def Ff : Sp := fun vs H Q _ => ∃ v : V, vs = [v, v] ∧ (v = .non ∨ ∃ u, v = .int u) ∧ Q (.bl true) H
theorem wW (T : Tx K mg a) : aU P w K mg base CX0 2 a.f_law_due a.fd_law_due ["_law_found", "_law_due_here"] Ff := by
 refine T.D_law_due.F.ok wQ (fun vs H Q E h => ?_) (fun cdv A outer s H vs Q E hr h => ?_)
 ·obtain ⟨v, rfl, _⟩ := h
  rfl
 obtain ⟨v, rfl, hv, q⟩ := h
 refine ⟨_, (ak (aX (gK (iy (pv 1))) (aq (aD (Fl (iy (pv 0))))) aN)
  (aq (aD (v6 (aG T.D_law_whole (lH T) (by decide) hr aH rfl (aa (pv 0) aj)) (wO (pO fO (pv 0) (pv 1) (aO _))))))), ?_⟩
 rcases hv with rfl | ⟨u, rfl⟩
 ·exact ⟨_, rfl, _, rfl, fu ⟨_, rfl, q⟩⟩
 ·refine ⟨_, rfl, _, rfl, cI ⟨_, rfl, u, rfl, _, rfl, fu ⟨_, rfl, _, rfl, rfl, ?_⟩⟩⟩
  rw [decide_eq_true rfl]
  exact q
def Dw (a : Ad) (C : Addr) : Prop := C = a.c_Walk ∨ C = a.c_Late ∨ C = a.c_Tips
theorem five {σ : L2.St} (h : σ.length = 4) : ∃ a b c d, σ = [a, b, c, d] := by
 match σ, h with
 | [a, b, c, d], _ => exact ⟨a, b, c, d, rfl⟩
def wN (a : Ad) (Ph : Addr) : Sp := fun vs H Q _ => ∃ (o dx C : Addr) (p : BP) (ds : List Int) (node : Int), vs = [.ref o, .int node] ∧ Wk H Ph C dx o p [] ds ∧ Dw a C ∧ (node < 0 ∨ (ds.length : Int) ≤ node) ∧ ∀ H', aR H H' → Q (.bl true) H'
theorem jt (T : Tx K mg a) (B : Bs mg base a) : aU P w K mg base CX0 13 a.f_law_refused a.fd_law_refused ["_law_walk", "_law_node"] (wN a a.tP_heap_look) := by
 refine T.D_law_refused.F.ok dm (fun vs H Q E h => ?_) (fun cdv A outer s H vs Q E hr h => ?_)
 ·obtain ⟨o, dx, C, p, ds, node, rfl, _⟩ := h
  rfl
 obtain ⟨o, dx, C, p, ds, node, rfl, hW, hC, hno, q⟩ := h
 refine ⟨_, (ak (aF (i := 2) dm.nd rfl (Or.inl rfl) (bZ aj))
  (ak (Fx rfl rfl (fun _ _ => (aq (aY (jR (iT (pv 0) T.cl_Walk T.M_Walk_behind ((jB T).mono (by decide)) hr T.D_Walk_behind.b .nil Bd (aa (pv 1) aj)) (jR (iT (pv 0) T.cl_Late T.M_Late_behind ((jC T B).mono (by decide)) hr T.D_Late_behind.b .nil Bd (aa (pv 1) aj)) (iT (pv 0) T.cl_Tips T.M_Tips_behind ((jJ T B).mono (by decide)) hr T.D_Tips_behind.b .nil Bd (aa (pv 1) aj))))))) (GQ (i := 3) T.x_NoNode T.k_NoNode rfl dm.nd rfl rfl (fun _ => (aq (aF (i := 2) dm.nd rfl (Or.inl rfl) (bZ (aa (aQ (show iU _ _ (Fy K) from uM) rfl T.b_isinstance Tw.dJ (aa (pv 3) (aa (bx (v := .ref a.c_WoodError) rfl T.g_WoodError rfl) aj))) (aa (aQ (show iU _ _ (Fy K) from uM) rfl T.b_isinstance Tw.dJ (aa (pv 3) (aa (bx (v := .ref a.c_NoPlace) rfl T.g_NoPlace rfl) aj))) aj)))))) Et))
  (aq (aD (pO (FN hr.units) (pv 2) (bZ (aa p6 (aa p6 aj))) (aO _)))))), ?_⟩
 refine ⟨(by show 0 ≤ sizeLine; decide), fun t0 ht0 => ?_⟩
 have s0 := az ht0 (.lst [])
 have hW0 := hW.same s0
 generalize upd H t0 (.lst []) = H0 at *
 rcases hC with rfl | rfl | rfl
 ·refine .inl ⟨_, rfl, o, dx, _, rfl, hW0.at_, rfl, _, rfl, o, dx, p, [], ds, node, rfl, hW0, by simp, .inr ⟨hno, _, rfl, fun σ' hσ => ?_⟩⟩
  obtain ⟨k0, k1, k2, k3, rfl⟩ := five hσ
  refine ⟨true, T.i_NoNode_NoNode, fu fun ea hea => ?_⟩
  have sE := s0.trans (az hea (uP ea a.c_NoNode))
  refine ⟨_, rfl, ea, _, _, _, _, rfl, .inl ⟨_, rfl, rfl⟩, ao, T.k_NoNode, T.i_NoNode_WoodError, ?_⟩
  refine ⟨_, rfl, ea, _, _, _, _, rfl, .inl ⟨_, rfl, rfl⟩, ao, T.k_NoNode, T.i_NoNode_NoPlace, ?_⟩
  refine ⟨(by show 2 ≤ sizeLine; decide), fun l hl1 => ?_⟩
  have s1 := az hl1 (.lst [.bl true, .bl false])
  refine ⟨_, rfl, (by show 2 ≤ sizeLine; decide), fun l2 hl2 => ?_⟩
  have s2 := az hl2 (.lst [.bl true, .bl false])
  refine .inr ⟨_, _, .lst (SqL.of (s2 _ _ ao)) (.cons (.bl _) (.cons (.bl _) .nil)), .lst (SqL.of ao) (.cons (.bl _) (.cons (.bl _) .nil)), rfl, rfl, ?_⟩
  exact q _ (sE.trans (s1.trans s2))
 ·refine .inr (.inl ⟨_, rfl, o, dx, _, rfl, hW0.at_, rfl, _, rfl, o, dx, p, [], ds, node, rfl, hW0, by simp, .inr ⟨hno, _, rfl, fun σ' hσ => ?_⟩⟩)
  obtain ⟨k0, k1, k2, k3, rfl⟩ := five hσ
  refine ⟨true, T.i_NoNode_NoNode, fu fun ea hea => ?_⟩
  have sE := s0.trans (az hea (uP ea a.c_NoNode))
  refine ⟨_, rfl, ea, _, _, _, _, rfl, .inl ⟨_, rfl, rfl⟩, ao, T.k_NoNode, T.i_NoNode_WoodError, ?_⟩
  refine ⟨_, rfl, ea, _, _, _, _, rfl, .inl ⟨_, rfl, rfl⟩, ao, T.k_NoNode, T.i_NoNode_NoPlace, ?_⟩
  refine ⟨(by show 2 ≤ sizeLine; decide), fun l hl1 => ?_⟩
  have s1 := az hl1 (.lst [.bl true, .bl false])
  refine ⟨_, rfl, (by show 2 ≤ sizeLine; decide), fun l2 hl2 => ?_⟩
  have s2 := az hl2 (.lst [.bl true, .bl false])
  refine .inr ⟨_, _, .lst (SqL.of (s2 _ _ ao)) (.cons (.bl _) (.cons (.bl _) .nil)), .lst (SqL.of ao) (.cons (.bl _) (.cons (.bl _) .nil)), rfl, rfl, ?_⟩
  exact q _ (sE.trans (s1.trans s2))
 ·refine .inr (.inr ⟨_, rfl, o, dx, _, rfl, hW0.at_, rfl, _, rfl, o, dx, p, [], ds, node, rfl, hW0, by simp, .inr ⟨hno, _, rfl, fun σ' hσ => ?_⟩⟩)
  obtain ⟨k0, k1, k2, k3, rfl⟩ := five hσ
  refine ⟨true, T.i_NoNode_NoNode, fu fun ea hea => ?_⟩
  have sE := s0.trans (az hea (uP ea a.c_NoNode))
  refine ⟨_, rfl, ea, _, _, _, _, rfl, .inl ⟨_, rfl, rfl⟩, ao, T.k_NoNode, T.i_NoNode_WoodError, ?_⟩
  refine ⟨_, rfl, ea, _, _, _, _, rfl, .inl ⟨_, rfl, rfl⟩, ao, T.k_NoNode, T.i_NoNode_NoPlace, ?_⟩
  refine ⟨(by show 2 ≤ sizeLine; decide), fun l hl1 => ?_⟩
  have s1 := az hl1 (.lst [.bl true, .bl false])
  refine ⟨_, rfl, (by show 2 ≤ sizeLine; decide), fun l2 hl2 => ?_⟩
  have s2 := az hl2 (.lst [.bl true, .bl false])
  refine .inr ⟨_, _, .lst (SqL.of (s2 _ _ ao)) (.cons (.bl _) (.cons (.bl _) .nil)), .lst (SqL.of ao) (.cons (.bl _) (.cons (.bl _) .nil)), rfl, rfl, ?_⟩
  exact q _ (sE.trans (s1.trans s2))
def Dd : Sp := fun vs H Q _ => ∃ (l : Addr) (xs : List Int) (u : Int) (k : Nat), vs = [.ref l, .int u] ∧ H l = some (.lst (xs.map V.int)) ∧ xs.length ≤ 4096 ∧ xs[k]? = some u ∧ (∀ i, i < k → xs[i]? ≠ some u) ∧ Q (fY xs (k + 1)) H
theorem oN (T : Tx K mg a) : aU P w K mg base CX0 1 a.f_law_next a.fd_law_next ["_law_row", "_law_node"] Dd := by
 refine T.D_law_next.F.ok oJ (fun vs H Q E h => ?_) (fun cdv A outer s H vs Q E hr h => ?_)
 ·obtain ⟨l, xs, u, k, rfl, _⟩ := h
  rfl
 obtain ⟨l, xs, u, k, rfl, hl, hn, hk, hno, q⟩ := h
 refine ⟨_, (ak (aF (i := 2) oJ.nd rfl (Or.inl rfl) (aB aZ (jE PySem.F.plainAttrs_list PySem.F.slot_list_index PySem.F.type_list_index zQ (pv 0) (aa (pv 1) aj)) au))
  (ak (aX (aM j9 (pv 2) (aQ aL rfl T.b_len Tw.bH (aa (pv 0) aj)) (aO _)) (aq (aD (bc bL (pv 0) (pv 2) (fun _ _ => rfl)))) aN)
  (aq (aD cB)))), ?_⟩
 have hkl := (List.getElem?_eq_some_iff.mp hk).1
 refine ⟨_, rfl, .inl ⟨rfl, _, SqL.of hl⟩, _, rfl, l, xs, u, k, rfl, rfl, hl, hk, hno, _, _, rfl, rfl, ?_⟩
 refine ⟨_, rfl, _, rfl, l, _, rfl, .inl (SqL.of hl), _, _, rfl, rfl, _, rfl, ?_⟩
 rcases Nat.lt_or_ge (k + 1) xs.length with z | z
 ·have e := List.getElem?_eq_getElem z
  rw [decide_eq_true (show (k : Int) + 1 < ((xs.map V.int).length : Int) by rw [List.length_map]; omega)]
  rw [jV e] at q
  exact fu ⟨_, rfl, _, rfl, l, _, _, _, rfl, rfl, SqL.of hl, mD (j := k + 1) (by rw [List.getElem?_map, e]; rfl), q⟩
 ·rw [decide_eq_false (show ¬ (k : Int) + 1 < ((xs.map V.int).length : Int) by rw [List.length_map]; omega)]
  rw [jU z] at q
  exact cI q
def En : Sp := fun vs H Q _ => ∃ (l : Addr) (ds : List Int) (j : Nat), vs = [.ref l, .int (j : Int)] ∧ H l = some (.lst (ds.map V.int)) ∧ ds.length ≤ 2048 ∧ j < ds.length ∧ ∀ v, jc (tip ds) ds.length (j + 1) v → Q v H
theorem xP (T : Tx K mg a) : aU P w K mg base CX0 1 a.f_law_tip a.fd_law_tip ["_law_depths_here", "_law_node"] En := by
 refine T.D_law_tip.F.ok qL (fun vs H Q E h => ?_) (fun cdv A outer s H vs Q E hr h => ?_)
 ·obtain ⟨l, ds, j, rfl, _⟩ := h
  rfl
 obtain ⟨l, ds, j, rfl, hl, hn, hj, q⟩ := h
 refine ⟨_, (ak (bR PassesOwn.never rfl (yZ rfl T.b_range (aa (aB aZ (pv 1) au) (aa (aQ aL rfl T.b_len Tw.bH (aa (pv 0) aj)) aj))) (aV (i := 2) qL.nd rfl (Or.inl rfl)) (aq (aX (PW.pt (lO (aM fO (aB aZ (pv 2) au) (aQ aL rfl T.b_len Tw.bH (aa (pv 0) aj)) (aO _)) (jx (aM gZ (bc bL (pv 0) (aB aZ (pv 2) au) (fun _ _ => rfl)) (bc bL (pv 0) (pv 2) (fun _ _ => rfl)) (aO _))))) (aq (aD (pv 2))) aN)))
  (aq (aD cB))), ?_⟩
 have ern : (ds.map V.int).length = ds.length := List.length_map ..
 refine ⟨_, rfl, _, _, rfl, rfl, _, rfl, l, _, rfl, .inl (SqL.of hl), (j : Int) + 1, (ds.length : Int), congrArg (fun n : Nat => [V.int ((j : Int) + 1), V.int (n : Int)]) ern, ⟨by omega, by omega, by omega, by omega⟩, ?_⟩
 rw [show ((ds.length : Int) - ((j : Int) + 1)).toNat = ds.length - (j + 1) by omega]
 refine jZ (n := ds.length - (j + 1)) (fun i σ X => X = H ∧ (∃ k, σ = [some (.ref l), some (.int (j : Int)), k]) ∧ ∀ m, j + 1 ≤ m → m < j + 1 + i → tip ds m = false) ⟨rfl, ⟨none, rfl⟩, fun m m1 m2 => by omega⟩ ?_ ?_
 ·rintro i σ X hi ⟨rfl, ⟨k, rfl⟩, hno⟩
  have ev : (j : Int) + 1 + (i : Int) = ((j + 1 + i : Nat) : Int) := by omega
  rw [ev]
  have e0 := List.getElem?_eq_getElem (show j + 1 + i < ds.length by omega)
  have fin : tip ds (j + 1 + i) = true → Q (.int ((j + 1 + i : Nat) : Int)) X := fun ht => q _ (.inr ⟨j + 1 + i, rfl, by omega, by omega, ht, fun m m1 m2 => hno m m1 m2⟩)
  have nxt : tip ds (j + 1 + i) = false → ∀ m, j + 1 ≤ m → m < j + 1 + (i + 1) → tip ds m = false := fun ht m m1 m2 => by
   rcases Nat.lt_or_ge m (j + 1 + i) with z | z
   ·exact hno m m1 z
   ·have : m = j + 1 + i := by omega
    rw [this]
    exact ht
  refine ⟨_, rfl, _, _, rfl, rfl, _, rfl, l, _, rfl, .inl (SqL.of hl), rfl, _, rfl, ?_⟩
  rcases Nat.lt_or_ge (j + 1 + i + 1) ds.length with z | z
  ·rw [decide_eq_false (show ¬ V.int (((j + 1 + i : Nat) : Int) + 1) = V.int ((ds.map V.int).length : Int) from fun y => by have := V.int.inj y; omega)]
   have e1 := List.getElem?_eq_getElem z
   have et : tip ds (j + 1 + i) = decide (ds[j + 1 + i + 1] ≤ ds[j + 1 + i]) := by
    unfold tip
    rw [decide_eq_false (show ¬ j + 1 + i + 1 = ds.length by omega), Bool.false_or, e0, e1]
    rfl
   rw [et] at fin nxt
   generalize ds[j + 1 + i + 1] = a1 at *
   generalize ds[j + 1 + i] = a0 at *
   have i1 : atI (ds.map V.int) (((j + 1 + i : Nat) : Int) + 1) = some (.int a1) := mD (j := j + 1 + i + 1) (by rw [List.getElem?_map, e1]; rfl)
   have i0 : atI (ds.map V.int) ((j + 1 + i : Nat) : Int) = some (.int a0) := mD (by rw [List.getElem?_map, e0]; rfl)
   refine cI ⟨_, rfl, _, rfl, _, _, rfl, rfl, l, _, _, _, rfl, rfl, SqL.of hl, i1, _, rfl, _, rfl, l, _, _, _, rfl, rfl, SqL.of hl, i0, _, _, rfl, rfl, _, rfl, bI (fun c => ?_) fun c => ?_⟩
   ·exact ⟨_, rfl, fin c⟩
   ·exact ⟨rfl, ⟨_, rfl⟩, nxt (by cases h : decide (a1 ≤ a0) with | true => exact absurd h c | false => rfl)⟩
  ·rw [decide_eq_true (show V.int (((j + 1 + i : Nat) : Int) + 1) = V.int ((ds.map V.int).length : Int) from congrArg V.int (by omega))]
   refine fu (fu ⟨_, rfl, fin ?_⟩)
   unfold tip
   rw [decide_eq_true (show j + 1 + i + 1 = ds.length by omega)]
   rfl
 ·rintro σ X ⟨rfl, ⟨k, rfl⟩, hno⟩
  exact q _ (.inl ⟨rfl, fun m m1 m2 => hno m m1 (by omega)⟩)
theorem mG (j : Nat) : cnt (fun _ => true) j = j := by
 unfold cnt
 rw [List.filter_eq_self.mpr (fun _ _ => rfl), List.length_range]
theorem yp {n j : Nat} (h : j < n) : (fits (fun _ => true) n)[j]? = some (j : Int) ∧ ∀ i, i < j → (fits (fun _ => true) n)[i]? ≠ some (j : Int) := by
 refine ⟨?_, fun i hi e => ?_⟩
 ·have := uc (p := fun _ => true) h rfl
  rw [mG] at this
  exact this
 ·obtain ⟨k, e1, _, _, e2⟩ := fits_of e
  rw [mG] at e2
  omega
theorem wK.opt {ns ds : List Int} {j : Nat} {v : V} (h : wK ns ds j v) : v = fY (fits (fun _ => true) ds.length) (j + 1) := by
 rcases h with ⟨rfl, h⟩ | ⟨rfl, h⟩
 ·rw [jU]
  rw [gQ, mG]
  omega
 ·rw [jV (yp h).1]
theorem CN {ns xs : List Int} (hb : aP ns) (h : cj ns ns.length xs) {x c : Nat} {j : Int} (pr : Pair ns x c) (ej : (ns.take x).sum = j) : ∃ k : Nat, xs[k]? = some j ∧ ∀ i : Nat, i < k → xs[i]? ≠ some j := by
 have hn := pr.nodeV
 rw [ej] at hn
 have h0 := qm hb c
 obtain ⟨k, hk⟩ : ∃ k : Nat, nts ns c = (k : Int) := ⟨(nts ns c).toNat, by omega⟩
 refine ⟨k, h.at hb pr.nought hn hk, fun i hi e => ?_⟩
 obtain ⟨q, _, q2, q3, q4⟩ := h.2 i j e
 have := eQ.inj hb q4 hn (by rw [q2, pr.nought])
 subst this
 omega
theorem yq (xs : List Int) (k : Nat) : fY xs k = .non ∨ ∃ u, fY xs k = .int u := by
 unfold fY
 split
 ·exact .inr ⟨_, rfl⟩
 ·exact .inl rfl
theorem jc.or {p : Nat → Bool} {n j : Nat} {v : V} (h : jc p n j v) : v = .non ∨ ∃ u, v = .int u := by
 rcases h with ⟨rfl, _⟩ | ⟨i, rfl, _⟩
 ·exact .inl rfl
 ·exact .inr ⟨_, rfl⟩
def KW (Ph sn : Addr) (H X : Hp) : Prop := ∀ b u, H b = some u → b ≠ Ph → b ≠ sn → X b = some u
theorem KW.refl {Ph sn : Addr} (H : Hp) : KW Ph sn H H := fun _ _ e _ _ => e
theorem KW.trans {Ph sn : Addr} {H X Y : Hp} (h : KW Ph sn H X) (h' : KW Ph sn X Y) : KW Ph sn H Y := fun b u e n1 n2 => h' b u (h b u e n1 n2) n1 n2
theorem KW.of {Ph sn : Addr} {H X : Hp} (s : aR H X) : KW Ph sn H X := fun b u e _ _ => s b u e
theorem KW.set {Ph sn : Addr} {H X : Hp} (h : KW Ph sn H X) (u : HO) : KW Ph sn H (upd X sn u) := fun b v e n1 n2 => by rw [aC n2]; exact h b v e n1 n2
theorem Did.kw {H H' : Hp} {Ph sn : Addr} {n k : Nat} {ss ss' : List Int} (d : Did H H' Ph sn n k ss ss') : KW Ph sn H H' := d.kp
def sp_law (K : PySem.W.Frag) (Ph Pt : Addr) : Sp := fun vs H Q _ => ∃ (s : Addr) (ns : List Int), vs = [.ref s] ∧ SqL K H s (ns.map V.int) ∧ ns.length ≤ 63 ∧ TabAt H Ph (jd bO) aW.qual ∧ TabAt H Pt (xY fX) cQ.qual ∧ ∀ H', Q (.bl true) H'
theorem za {H : Hp} {s Ph Pt : Addr} {ns : List Int} (hS : SqL K H s (ns.map V.int)) (hl : ns.length ≤ 63) (h0 : H Ph = some (.tbl #[])) (h : H Pt = some (.tbl #[])) : sp_law K Ph Pt [.ref s] H (fun v _ => v = .bl true) fun _ _ _ => False :=
 ⟨s, ns, rfl, hS, hl, tab0 h0, tab0 h, fun _ => rfl⟩
theorem Ek (T : Tx K mg a) (B : Bs mg base a) : aU P w K mg base CX0 14 a.f_law a.fd_law ["_law_script"] (sp_law K a.tP_heap_look a.tP_law_look) := by
 refine T.D_law.F.ok cF (fun vs H Q E h => ?_) (fun cdv A outer s H vs Q E hr h => ?_)
 ·obtain ⟨b, f, rfl, _⟩ := h
  rfl
 obtain ⟨sa, zs, rfl, hS, hl, hTh, hT, q⟩ := h
 refine ⟨_, (ak (aF (i := 1) cF.nd rfl (Or.inl rfl) (aG T.D_law_depths (rB T) (by decide) hr aH rfl (aa (pv 0) (aa au aj))))
  (BV (aX (PW.pt (jz (aM ie (aQ aL rfl T.b_len Tw.bH (aa (pv 0) aj)) au (aO _)) (iJ (aM fO (aB cR (bc bL (pv 0) au (fun _ _ => rfl)) au) au (aO _))))) (aq (aF (i := 1) cF.nd rfl (Or.inl rfl) (fK ik (aB kW (pv 1) (aB qg (bZ (aa au (aa au (aa au aj)))) au)) jY (gh au)))) aN)
  (ak (zU (aG T.D_kept_tree (tZ T) (by decide) hr aH rfl (aa (jX mJ rfl T.b_list Tw.uy (aa (pv 1) aj)) aj)) (lq rfl (bK (aV (i := 2) cF.nd rfl (Or.inl rfl)) (bK (aV (i := 3) cF.nd rfl (Or.inl rfl)) iu))))
  (ak (aF (i := 4) cF.nd rfl (Or.inl rfl) (bZ aj))
  (ak (aF (i := 5) cF.nd rfl (Or.inl rfl) (aG T.D_law_look (uJ T B) (by decide) hr aH rfl (aa (pv 3) (aa (pv 4) aj))))
  (ak (aF (i := 6) cF.nd rfl (Or.inl rfl) (bZ (aa (tU T.mk_Walk ((iK T).mono (by decide)) hr rfl T.g_Walk T.D_Walk_init.b .nil aH (aa (pv 2) (aa (pv 5) aj))) (aa (tU T.mk_Late ((iK T).mono (by decide)) hr rfl T.g_Late T.D_Walk_init.b .nil aH (aa (pv 2) (aa (pv 5) aj))) (aa (tU T.mk_Tips ((iK T).mono (by decide)) hr rfl T.g_Tips T.D_Walk_init.b .nil aH (aa (pv 2) (aa (pv 5) aj))) aj)))))
  (ak (aF (i := 7) cF.nd rfl (Or.inl rfl) (aG T.D_law_late (vW T) (by decide) hr aH rfl (aa (pv 1) aj)))
  (ak (qP (i := 8) cF.nd rfl rfl rfl cP.zero (fc rfl T.b_range (aa (aQ aL rfl T.b_len Tw.bH (aa (pv 1) aj)) aj)) (fun _ _ _ _ => mL) (fun _ _ _ _ => (pv 0)))
  (ak (bR PassesOwn.never rfl (dH (aB kW (bZ (aa au (aa (aB bj (aQ aL rfl T.b_len Tw.bH (aa (pv 1) aj)) au) aj))) (ut rfl cP.zero (dH (fK ik (pv 0) jY (gh au))) (fun _ _ _ _ => mL) (fun _ _ _ _ => (aB cR (aB b7 (pv 0) au) au))))) (aV (i := 9) cF.nd rfl (Or.inl rfl)) (ak (aF (i := 10) cF.nd rfl (Or.inl rfl) (aB cR (pv 9) (aQ aL rfl T.b_len Tw.bH (aa (pv 1) aj))))
  (ak (aF (i := 11) cF.nd rfl (Or.inl rfl) (bZ (aa (aG T.D_law_next (oN T) (by decide) hr aH rfl (aa (pv 8) (aa (pv 10) aj))) (aa (aG T.D_law_next (oN T) (by decide) hr aH rfl (aa (pv 7) (aa (pv 10) aj))) (aa (aG T.D_law_tip (xP T) (by decide) hr aH rfl (aa (pv 1) (aa (pv 10) aj))) aj)))))
  (aq (bR PassesOwn.never rfl (fc rfl T.b_range (aa au aj)) (aV (i := 12) cF.nd rfl (Or.inl rfl)) (ak (aF (i := 13) cF.nd rfl (Or.inl rfl) (aB cR (aB aZ (pv 12) (aB dG (pv 9) au)) au))
  (aq (aX (PW.pt (lO (jr (nG (aG T.D_law_due (wW T) (by decide) hr aH rfl (aa (jR (iT (bc bL (pv 6) (pv 13) (fun _ _ => rfl)) T.cl_Walk T.M_Walk_behind ((jB T).mono (by decide)) hr T.D_Walk_behind.b .nil yE (aa (pv 10) aj)) (jR (iT (bc bL (pv 6) (pv 13) (fun _ _ => rfl)) T.cl_Late T.M_Late_behind ((jC T B).mono (by decide)) hr T.D_Late_behind.b .nil yE (aa (pv 10) aj)) (iT (bc bL (pv 6) (pv 13) (fun _ _ => rfl)) T.cl_Tips T.M_Tips_behind ((jJ T B).mono (by decide)) hr T.D_Tips_behind.b .nil yE (aa (pv 10) aj)))) (aa (bc bL (pv 11) (pv 13) (fun _ _ => rfl)) aj))))) (jx (jr (nG (aG T.D_law_there (mq T) (by decide) hr aH rfl (aa (pv 4) (aa (aQ aL rfl T.b_len Tw.bH (aa (pv 3) aj)) aj)))))))) (aq (aD p6)) aN))))))))
  (ak (aF (i := 14) cF.nd rfl (Or.inl rfl) (aB cR (aQ (vf rfl) rfl T.b_sum Tw.Ba (aa (fK ik (pv 0) jY (gh au)) aj)) (aB Bm au au)))
  (ak (bR PassesOwn.never rfl (dH (pv 6)) (aV (i := 15) cF.nd rfl (Or.inl rfl)) (aq (aX (PW.pt (lO (jr (nG (aG T.D_law_refused (jt T B) (by decide) hr aH rfl (aa (pv 15) (aa (aB aZ (aQ aL rfl T.b_len Tw.bH (aa (pv 1) aj)) (pv 14)) aj))))) (jx (jr (nG (aG T.D_law_refused (jt T B) (by decide) hr aH rfl (aa (pv 15) (aa (aB bj (qU kE au) (pv 14)) aj)))))))) (aq (aD p6)) aN)))
  (aq (aD (aG T.D_law_there (mq T) (by decide) hr aH rfl (aa (pv 4) (aa (aQ aL rfl T.b_len Tw.bH (aa (pv 3) aj)) aj)))))))))))))))), ?_⟩
 have nn := B.N_heap_look_law_look
 refine ⟨_, rfl, sa, zs, 300, rfl, hS, hl, by decide, fun dp0 H10 ds0 hp00 sm10 hp0 hg0 hn0 => ?_⟩
 refine ⟨fun σ X => ∃ (dp : Addr) (ds : List Int), σ = [some (.ref sa), some (.ref dp), none, none, none, none, none, none, none, none, none, none, none, none, none, none] ∧ aR H X ∧ X dp = some (.lst (ds.map V.int)) ∧ bu ds ∧ ds.length ≤ 2048, ?_, ?_⟩
 ·have same : ∃ (dp : Addr) (ds : List Int), (some (V.ref dp0)) = some (.ref dp) ∧ aR H H10 ∧ H10 dp = some (.lst (ds.map V.int)) ∧ bu ds ∧ ds.length ≤ 2048 := ⟨dp0, ds0, rfl, sm10, hp0, hg0, by omega⟩
  refine ⟨_, rfl, sa, _, rfl, .inl (sm10.seq hS), _, _, rfl, rfl, _, rfl, bI (fun c => ?_) fun c => ?_⟩
  rotate_left
  ·exact cI ⟨dp0, ds0, rfl, sm10, hp0, hg0, by omega⟩
  have c := of_decide_eq_true c
  rw [List.length_map] at c
  have e2 := List.getElem?_eq_getElem (show 2 < zs.length by omega)
  generalize zs[2] = z2 at e2
  refine ⟨_, rfl, sa, _, _, _, rfl, rfl, sm10.seq hS, mD (j := 2) (by rw [List.getElem?_map, e2]; rfl), _, _, rfl, rfl, (by show (0 : Int) < 16; decide), rfl, _, rfl, bI (fun _ => ?_) fun _ => ?_⟩
  rotate_left
  ·exact ⟨dp0, ds0, rfl, sm10, hp0, hg0, by omega⟩
  refine ⟨_, rfl, (by show 3 ≤ sizeLine; decide), fun l1 hl1 => ?_⟩
  have s1 := az hl1 (.lst [.int 1, .int 2, .int 2])
  refine ⟨l1, 683, _, rfl, rfl, ao, by decide, by decide, (by show 3 * 683 ≤ sizeLine; rw [sizeLine_eq]; omega), fun l2 hl2 => ?_⟩
  have s2 := s1.trans (az hl2 (.lst (List.replicate (683 : Int).toNat [V.int 1, .int 2, .int 2]).flatten))
  refine ⟨dp0, l2, _, _, rfl, rfl, s2 _ _ hp0, ao, ?_, fun l3 hl3 => ?_⟩
  ·rw [len_rep, List.length_map, sizeLine_eq]
   show ds0.length + 683 * 3 ≤ _
   omega
  have s3 := s2.trans (az hl3 (.lst (ds0.map V.int ++ (List.replicate (683 : Int).toNat [V.int 1, .int 2, .int 2]).flatten)))
  refine ⟨_, rfl, l3, _, rfl, SqL.of ao, fun l4 hl4 => ?_⟩
  have ez : jn (ds0.map V.int ++ (List.replicate (683 : Int).toNat [V.int 1, .int 2, .int 2]).flatten) none (some 2048) = ((ds0 ++ (List.replicate 683 [(1 : Int), 2, 2]).flatten).take 2048).map V.int := by
   have em : ds0.map V.int ++ (List.replicate (683 : Int).toNat [V.int 1, .int 2, .int 2]).flatten = (ds0 ++ (List.replicate 683 [(1 : Int), 2, 2]).flatten).map V.int := by
    rw [List.map_append, List.map_flatten, List.map_replicate]
    rfl
   rw [em, show (2048 : Int) = ((2048 : Nat) : Int) from rfl, tX]
  rw [ez]
  exact ⟨l4, _, rfl, sm10.trans (s3.trans (az hl4 _)), ao, (hg0.ext 683).take (by decide), by rw [List.length_take]; omega⟩
 rintro σ H1 ⟨dp, ds, rfl, sm1, hp, hg, hn⟩
 have hlen := jP hg
 have ern : (ds.map V.int).length = ds.length := List.length_map ..
 have h0 : 0 < ds.length := (List.getElem?_eq_some_iff.mp hg.1).1
 refine ⟨_, rfl, dp, _, rfl, .inl (SqL.of hp), fun kp hkp => ?_⟩
 have s3 := az hkp (.lst (ds.map V.int))
 have xkp : upd H1 kp (.lst (ds.map V.int)) kp = some (.lst (ds.map V.int)) := ao
 generalize upd H1 kp (.lst (ds.map V.int)) = H2' at *
 refine ⟨kp, ds, rfl, xkp, by omega, hg, fun kr t ah nd bl lows S xs H3 hbl0 sm3 xkr kb => ?_⟩
 refine ⟨kr, _, rfl, SqT.of xkr, rfl, _, _, rfl, _, _, rfl, rfl, ?_⟩
 have s23 := s3.trans sm3
 have s13 := sm1.trans s23
 have xdp3 := s23 _ _ hp
 have hT4 := TabAt.same hT s13
 have hTh4 := TabAt.same hTh s13
 refine ⟨(by show 0 ≤ sizeLine; decide), fun sn hsn => ?_⟩
 have s5 := az hsn (.lst [])
 have xsn5 : upd H3 sn (.lst []) sn = some (.lst []) := ao
 have hT5 := TabAt.same hT4 s5
 have hTh5 := TabAt.same hTh4 s5
 generalize upd H3 sn (.lst []) = H5 at *
 refine ⟨_, rfl, _, rfl, bl, sn, rfl, hT5, fun f H6 nf b6 hT6 L6 => ?_⟩
 have o6 : ∀ b o, H3 b = some o → (∀ ps, o ≠ .tbl ps) → H6 b = some o ∧ b ≠ a.tP_heap_look ∧ b ≠ sn := fun b o e n => ⟨b6 b o (s5 _ _ e) (TabAt.ne hT4 e n), TabAt.ne hTh4 e n, aJ e hsn⟩
 have xsn6 : H6 sn = some (.lst []) := b6 _ _ xsn5 (TabAt.ne hT5 xsn5 nofun)
 have hTh6 : TabAt H6 a.tP_heap_look (jd bO) aW.qual := by
  obtain ⟨ps, z1, z2, z3⟩ := hTh5
  refine ⟨ps, b6 _ _ z1 nn, z2, ?_⟩
  rcases z3 with z3 | ⟨cd, oc, vs, tk, z4, z5, z6⟩
  ·exact .inl z3
  ·exact .inr ⟨cd, oc, vs, tk, z4, b6 _ _ z5 (TabAt.ne hT5 z5 nofun), z6⟩
 have hB6 : Brk H6 a.tP_heap_look ⟨t, f, sn, bl, ah, nd, brk ds 0, lows, S, xs⟩ [] := ⟨⟨⟨(o6 _ _ kb.tab.tup nofun).1, (o6 _ _ kb.tab.ahs nofun).1, kb.tab.few⟩, ⟨L6, xsn6, (o6 _ _ kb.bls nofun).1, (aJ kb.bls hsn).symm, by simp⟩, fH _ _, (by show (brk ds 0).length ≤ 4096; omega)⟩, (o6 _ _ kb.nds nofun).1, kb.low, kb.sz, kb.heap, hTh6⟩
 generalize hpe : (⟨t, f, sn, bl, ah, nd, brk ds 0, lows, S, xs⟩ : BP) = p at *
 have e_sn : p.sn = sn := by rw [← hpe]
 have e_ns : p.ns = brk ds 0 := by rw [← hpe]
 have e_bl : p.bl = bl := by rw [← hpe]
 have e_t : p.t = t := by rw [← hpe]
 have e_f : p.f = f := by rw [← hpe]
 have hN6 : Nd H6 a.tP_heap_look p [] ds := ⟨hB6, by simp, e_ns, hg⟩
 have born : ∀ {X : Hp} {C dx o : Addr}, X o = none → X dx = none → dx ≠ o → aR X (upd (upd X dx (.own o)) o (.ins C dx [("tables", .ref t), ("look", .ref f)])) := fun ho hdx ndo => (az hdx _).trans (az (by rw [aC (Ne.symm ndo)]; exact ho) _)
 have keep : ∀ X, (∀ b u, H3 b = some u → (∀ ps, u ≠ .tbl ps) → X b = some u) → SqL K X sa (zs.map V.int) := fun X kk => by
  rcases s13.seq hS with (e | ⟨u, e⟩) | e
  ·exact .inl (.inl (kk _ _ e nofun))
  ·exact .inl (.inr ⟨u, kk _ _ e nofun⟩)
  ·exact .inr e
 refine ⟨_, rfl, _, rfl, fun o1 dx1 ho1 hdx1 ndo1 => ⟨o1, dx1, _, t, f, rfl, ao, T.cl_Walk, T.na_Walk_tables, T.na_Walk_look, rfl, ?_⟩⟩
 rw [iw]
 have sb1 := born (C := a.c_Walk) ho1 hdx1 ndo1
 have xo1 : upd (upd H6 dx1 (.own o1)) o1 (.ins a.c_Walk dx1 [("tables", .ref t), ("look", .ref f)]) o1 = some (.ins a.c_Walk dx1 [("tables", .ref t), ("look", .ref f)]) := ao
 generalize upd (upd H6 dx1 (.own o1)) o1 (.ins a.c_Walk dx1 [("tables", .ref t), ("look", .ref f)]) = X1 at *
 refine ⟨_, rfl, _, rfl, fun o2 dx2 ho2 hdx2 ndo2 => ⟨o2, dx2, _, t, f, rfl, ao, T.cl_Late, T.na_Late_tables, T.na_Late_look, rfl, ?_⟩⟩
 rw [iw]
 have sb2 := born (C := a.c_Late) ho2 hdx2 ndo2
 have xo2 : upd (upd X1 dx2 (.own o2)) o2 (.ins a.c_Late dx2 [("tables", .ref t), ("look", .ref f)]) o2 = some (.ins a.c_Late dx2 [("tables", .ref t), ("look", .ref f)]) := ao
 generalize upd (upd X1 dx2 (.own o2)) o2 (.ins a.c_Late dx2 [("tables", .ref t), ("look", .ref f)]) = X2 at *
 refine ⟨_, rfl, _, rfl, fun o3 dx3 ho3 hdx3 ndo3 => ⟨o3, dx3, _, t, f, rfl, ao, T.cl_Tips, T.na_Tips_tables, T.na_Tips_look, rfl, ?_⟩⟩
 rw [iw]
 have sb3 := born (C := a.c_Tips) ho3 hdx3 ndo3
 have xo3 : upd (upd X2 dx3 (.own o3)) o3 (.ins a.c_Tips dx3 [("tables", .ref t), ("look", .ref f)]) o3 = some (.ins a.c_Tips dx3 [("tables", .ref t), ("look", .ref f)]) := ao
 generalize upd (upd X2 dx3 (.own o3)) o3 (.ins a.c_Tips dx3 [("tables", .ref t), ("look", .ref f)]) = X3 at *
 refine ⟨(by show 3 ≤ sizeLine; decide), fun wl hwl => ?_⟩
 have sw := az hwl (.lst [.ref o1, .ref o2, .ref o3])
 have xwl : upd X3 wl (.lst [.ref o1, .ref o2, .ref o3]) wl = some (.lst [.ref o1, .ref o2, .ref o3]) := ao
 generalize upd X3 wl (.lst [.ref o1, .ref o2, .ref o3]) = X4 at *
 have s64 := sb1.trans (sb2.trans (sb3.trans sw))
 have xdp4 := s64 _ _ (o6 _ _ xdp3 nofun).1
 refine ⟨_, rfl, dp, ds, rfl, xdp4, hg, hn, fun lt xl X5 elt smL xlt hLt => ?_⟩
 have xdp5 := smL _ _ xdp4
 refine ⟨_, rfl, dp, _, rfl, .inl (SqL.of xdp5), (ds.length : Int), congrArg (fun n : Nat => [V.int (n : Int)]) ern, by omega, by omega, ?_⟩
 rw [Int.toNat_natCast]
 refine sy (fun i => (i : Int)) (by rw [sizeLine_eq]; omega) (fun z H' Q h => h) (fun i H' Q hi s qq => ⟨_, rfl, by rw [Int.zero_add]; exact qq⟩) fun rs hrs => ?_
 have s8 := az hrs (.lst (((List.range ds.length).map fun i : Nat => (i : Int)).map V.int))
 have xrs : upd X5 rs (.lst (((List.range ds.length).map fun i : Nat => (i : Int)).map V.int)) rs = some (.lst ((fits (fun _ => true) ds.length).map V.int)) := by
  rw [ao]
  unfold fits
  rw [List.filter_eq_self.mpr (fun _ _ => rfl)]
 generalize upd X5 rs (.lst (((List.range ds.length).map fun i : Nat => (i : Int)).map V.int)) = X6 at *
 have s46 := smL.trans s8
 have s66 := s64.trans s46
 have xdp6 := s8 _ _ xdp5
 have sS6 : SqL K X6 sa (zs.map V.int) := keep _ fun b u e n => s66 _ _ (o6 _ _ e n).1
 refine ⟨_, rfl, dp, _, rfl, .inl (SqL.of xdp6), _, _, rfl, rfl, (by show 2 ≤ sizeLine; decide), fun l1 hl1 => ?_⟩
 have t1 := az hl1 (.lst [.int 0, .int (((ds.map V.int).length : Int) - 1)])
 have xl1 : upd X6 l1 (.lst [.int 0, .int (((ds.map V.int).length : Int) - 1)]) l1 = some (.lst [.int 0, .int (((ds.map V.int).length : Int) - 1)]) := ao
 generalize upd X6 l1 (.lst [.int 0, .int (((ds.map V.int).length : Int) - 1)]) = X7 at *
 refine ⟨_, rfl, _, rfl, sa, _, rfl, t1.seq sS6, fun l2 hl2 => ?_⟩
 have ez2 : jn (zs.map V.int) none (some 20) = (zs.take 20).map V.int := by
  rw [show (20 : Int) = ((20 : Nat) : Int) from rfl, tX]
 refine ⟨l2, rfl, ⟨_, SqL.of ao⟩, ?_⟩
 rw [ez2]
 have t2 := az hl2 (.lst ((zs.take 20).map V.int))
 have xl2 : upd X7 l2 (.lst ((zs.take 20).map V.int)) l2 = some (.lst ((zs.take 20).map V.int)) := ao
 generalize upd X7 l2 (.lst ((zs.take 20).map V.int)) = X8 at *
 have hz20 : (zs.take 20).length ≤ 20 := by rw [List.length_take]; omega
 refine zm (fun z => z * 40692 % 2147483399) (SqL.of xl2) (by rw [sizeLine_eq]; omega) (fun z H' Q h => h) (fun z H' Q s qq => ⟨_, rfl, _, _, rfl, rfl, .inr ⟨by decide, by decide⟩, _, _, rfl, rfl, (by show (0 : Int) < 2147483399; decide), qq⟩) fun l3 hl3 => ?_
 have t3 := az hl3 (.lst (((zs.take 20).map fun z => z * 40692 % 2147483399).map V.int))
 refine ⟨l1, l3, _, _, rfl, rfl, t3 _ _ (t2 _ _ xl1), ao, ?_, fun l4 hl4 => ⟨l4, rfl, ⟨_, SqL.of ao⟩, ?_⟩⟩
 ·simp only [List.length_map, List.length_cons, List.length_nil]
  rw [sizeLine_eq]
  omega
 have ecs : [V.int 0, .int (((ds.map V.int).length : Int) - 1)] ++ ((zs.take 20).map fun z => z * 40692 % 2147483399).map V.int = (0 :: (((ds.map V.int).length : Int) - 1) :: (zs.take 20).map fun z => z * 40692 % 2147483399).map V.int := rfl
 rw [ecs]
 generalize hcs : (0 :: (((ds.map V.int).length : Int) - 1) :: (zs.take 20).map fun z => z * 40692 % 2147483399) = cs at *
 have t9 := t1.trans (t2.trans (t3.trans (az hl4 (.lst (cs.map V.int)))))
 have xcs : upd (upd X8 l3 (.lst (((zs.take 20).map fun z => z * 40692 % 2147483399).map V.int))) l4 (.lst (cs.map V.int)) l4 = some (.lst (cs.map V.int)) := ao
 have nl4 : X6 l4 = none := (t1.trans (t2.trans t3)).free hl4
 generalize upd (upd X8 l3 (.lst (((zs.take 20).map fun z => z * 40692 % 2147483399).map V.int))) l4 (.lst (cs.map V.int)) = X9 at *
 have s69 := s66.trans t9
 have s49 := s46.trans t9
 have hN9 := hN6.same s69
 have xsn4 := s64 _ _ xsn6
 have xsn6' := s66 _ _ xsn6
 have np : ∀ {b : Addr} {u : HO}, X9 b = some u → (∀ ps, u ≠ .tbl ps) → b ≠ a.tP_heap_look := fun e n => TabAt.ne hN9.b.tab e n
 have xdp9 := t9 _ _ xdp6
 have ndp : dp ≠ p.sn := by rw [e_sn]; exact (o6 _ _ xdp3 nofun).2.2
 have xwl9 := s49 _ _ xwl
 have nwl : wl ≠ p.sn := by rw [e_sn]; exact (aJ ((sb1.trans (sb2.trans sb3)) _ _ xsn6) hwl).symm
 have xlt9 := (s8.trans t9) _ _ xlt
 have nlt : lt ≠ p.sn := by rw [e_sn]; exact (aJ xsn4 elt).symm
 have xrs9 := t9 _ _ xrs
 have nrs : rs ≠ p.sn := by rw [e_sn]; exact (aJ (smL _ _ xsn4) hrs).symm
 have ncs : l4 ≠ p.sn := by rw [e_sn]; exact (aJ xsn6' nl4).symm
 have y1 := s49 _ _ (sw _ _ (sb3 _ _ (sb2 _ _ xo1)))
 have y2 := s49 _ _ (sw _ _ (sb3 _ _ xo2))
 have y3 := s49 _ _ (sw _ _ xo3)
 have nin : ∀ {b : Addr} {C dx : Addr} {fs : List (Str × V)}, X9 b = some (.ins C dx fs) → b ≠ p.sn := fun e z => by rw [z, hN9.b.ask.asks.seen] at e; cases e
 have hb := hN9.bits
 have nods : ∀ {X : Hp} {ss : List Int}, Nd X a.tP_heap_look p ss ds → X bl = some (.lst ((cW p.ns).map V.int)) ∧ X sn = some (.lst (ss.map V.int)) := fun h => by
  have h1 := h.b.ask.asks.nodes
  have h2 := h.b.ask.asks.seen
  rw [e_bl] at h1
  rw [e_sn] at h2
  exact ⟨h1, h2⟩
 have clr : ∀ {X : Hp} {ss : List Int}, Nd X a.tP_heap_look p ss ds → Nd (upd X sn (.lst [])) a.tP_heap_look p [] ds ∧ KW a.tP_heap_look p.sn X (upd X sn (.lst [])) := fun h => by
  have := h.clear
  rw [e_sn] at this
  exact ⟨this, by rw [e_sn]; exact (KW.refl _).set _⟩
 have fw : ∀ {k : Nat} {ss' : List Int}, bF (many p.ns.length) k [] ss' → (∀ x ∈ ss', 0 ≤ x ∧ x < (((cW p.ns).map V.int).length : Int)) := fun w => (Eo w (by rw [List.length_map, eX])).1
 have wks : ∀ {X : Hp}, Nd X a.tP_heap_look p [] ds → KW a.tP_heap_look p.sn X9 X → Wk X a.tP_heap_look a.c_Walk dx1 o1 p [] ds ∧ Wk X a.tP_heap_look a.c_Late dx2 o2 p [] ds ∧ Wk X a.tP_heap_look a.c_Tips dx3 o3 p [] ds := fun h k => ⟨⟨by rw [e_t, e_f]; exact k _ _ y1 (np y1 nofun) (nin y1), h⟩, ⟨by rw [e_t, e_f]; exact k _ _ y2 (np y2 nofun) (nin y2), h⟩, ⟨by rw [e_t, e_f]; exact k _ _ y3 (np y3 nofun) (nin y3), h⟩⟩
 have hL : cj p.ns p.ns.length xl := by rw [e_ns]; exact hLt
 have hxl : xl.length ≤ 4096 := by
  have h1 := hL.1
  have h2 := hN9.len
  unfold nts at h1
  rw [List.take_length, hN9.sum] at h1
  omega
 refine cZ (xs := cs.map V.int) (fun i σ X => (∃ k9 k10 k11 k12 k13, σ = [some (.ref sa), some (.ref dp), some (.ref t), some (.ref bl), some (.ref sn), some (.ref f), some (.ref wl), some (.ref lt), some (.ref rs), k9, k10, k11, k12, k13, none, none]) ∧ Nd X a.tP_heap_look p [] ds ∧ KW a.tP_heap_look p.sn X9 X) ⟨⟨none, none, none, none, none, rfl⟩, hN9, KW.refl _⟩ ?_ ?_ ?_
 ·rintro i σ X _ ⟨_, _, k⟩
  exact SqL.of (k _ _ xcs (np xcs nofun) ncs)
 ·rintro i v σ X hv ⟨⟨k9, k10, k11, k12, k13, rfl⟩, hNX, kX⟩
  obtain ⟨z, hz, rfl⟩ := int_at hv
  have xd := kX _ _ xdp9 (np xdp9 nofun) ndp
  have xr := kX _ _ xrs9 (np xrs9 nofun) nrs
  have xt := kX _ _ xlt9 (np xlt9 nofun) nlt
  refine ⟨_, rfl, _, rfl, dp, _, rfl, .inl (SqL.of xd), _, _, rfl, rfl, (by show (0 : Int) < ((ds.map V.int).length : Int); omega), ?_⟩
  set_option simprocs false in dsimp only
  obtain ⟨j, ej, hj⟩ : ∃ j : Nat, z % ((ds.map V.int).length : Int) = (j : Int) ∧ j < ds.length := by
   have h1 := Int.emod_nonneg z (show ((ds.map V.int).length : Int) ≠ 0 by omega)
   have h2 := Int.emod_lt_of_pos z (show (0 : Int) < ((ds.map V.int).length : Int) by omega)
   exact ⟨(z % ((ds.map V.int).length : Int)).toNat, by omega, by omega⟩
  rw [ej]
  obtain ⟨x, x1, x2⟩ := hN9.at hj
  obtain ⟨c, pr⟩ := hN9.shut ⟨x1, x2⟩
  obtain ⟨kk, hkk, hkf⟩ := CN hb hL pr x2
  have hra := yp hj
  refine ⟨_, rfl, _, rfl, rs, _, _, j, rfl, xr, (by rw [gQ, mG]; omega), hra.1, hra.2, _, rfl, _, rfl, lt, _, _, kk, rfl, xt, hxl, hkk, hkf, _, rfl, _, rfl, dp, ds, j, rfl, xd, hn, hj, fun v hv => ⟨(by show 3 ≤ sizeLine; decide), fun du hdu => ?_⟩⟩
  have sdu := az hdu (.lst [fY (fits (fun _ => true) ds.length) (j + 1), fY xl (kk + 1), v])
  have xdu : upd X du (.lst [fY (fits (fun _ => true) ds.length) (j + 1), fY xl (kk + 1), v]) du = some (.lst [fY (fits (fun _ => true) ds.length) (j + 1), fY xl (kk + 1), v]) := ao
  have hNd := hNX.same sdu
  have kd := kX.trans (KW.of sdu)
  have ndu : du ≠ a.tP_heap_look ∧ du ≠ p.sn := ⟨TabAt.ne hNd.b.tab xdu nofun, fun z => by have := hNX.b.ask.asks.seen; rw [← z, hdu] at this; cases this⟩
  generalize upd X du (.lst [fY (fits (fun _ => true) ds.length) (j + 1), fY xl (kk + 1), v]) = Xd at *
  refine ⟨3, rfl, by decide, by decide, ?_⟩
  refine jZ (n := 3) (fun i σ X => (∃ k12 k13, σ = [some (.ref sa), some (.ref dp), some (.ref t), some (.ref bl), some (.ref sn), some (.ref f), some (.ref wl), some (.ref lt), some (.ref rs), some (.int z), some (.int (j : Int)), some (.ref du), k12, k13, none, none]) ∧ Nd X a.tP_heap_look p [] ds ∧ KW a.tP_heap_look p.sn X9 X ∧ X du = some (.lst [fY (fits (fun _ => true) ds.length) (j + 1), fY xl (kk + 1), v])) ⟨⟨_, _, rfl⟩, hNd, kd, xdu⟩ ?_ ?_
  ·clear hNX kX hNd kd xdu hdu sdu
   rintro i σ X hi ⟨⟨k12, k13, rfl⟩, hNX, kX, xdu⟩
   refine ⟨_, rfl, _, rfl, _, _, rfl, rfl, ⟨by decide, by decide⟩, _, _, rfl, rfl, _, _, rfl, rfl, (by show (0 : Int) < 3; decide), ?_⟩
   set_option simprocs false in dsimp only
   have xw := kX _ _ xwl9 (np xwl9 nofun) nwl
   obtain ⟨hX1, hX2, hX3⟩ := wks hNX kX
   rcases (show (0 + (i : Int) + z / 1009) % 3 = 0 ∨ (0 + (i : Int) + z / 1009) % 3 = 1 ∨ (0 + (i : Int) + z / 1009) % 3 = 2 by omega) with ew | ew | ew <;> rw [ew]
   ·refine .inl ⟨_, rfl, _, rfl, wl, _, _, _, rfl, rfl, SqL.of xw, rfl, o1, dx1, _, rfl, hX1.at_, rfl, _, rfl, o1, dx1, p, [], ds, _, rfl, hX1, by simp, .inl ⟨j, rfl, hj, fun v' ss' X2 hv' d => ?_⟩⟩
    have ev := hv'.opt
    subst ev
    have hN2 := hNX.did d (by have := d.wr.len; rw [List.length_nil] at this; omega)
    have k2 := kX.trans d.kw
    refine ⟨_, rfl, _, rfl, du, _, _, _, rfl, rfl, SqL.of (d.kp _ _ xdu ndu.1 ndu.2), rfl, _, rfl, yq _ _, true, rfl, cI ?_⟩
    refine ⟨_, rfl, _, rfl, bl, _, rfl, .inl (SqL.of (nods hN2).1), sn, ss', _, rfl, (nods hN2).2, fw d.wr, true, rfl, cI ?_⟩
    exact ⟨⟨_, _, rfl⟩, (clr hN2).1, k2.trans (clr hN2).2, by rw [aC (by rw [← e_sn]; exact ndu.2)]; exact d.kp _ _ xdu ndu.1 ndu.2⟩
   ·refine .inr (.inl ⟨_, rfl, _, rfl, wl, _, _, _, rfl, rfl, SqL.of xw, rfl, o2, dx2, _, rfl, hX2.at_, rfl, _, rfl, o2, dx2, p, [], ds, _, rfl, hX2, by simp, .inl ⟨j, rfl, hj, fun v' ss' X2 hv' d => ?_⟩⟩)
    have ev := hL.next hb hkk hv'
    subst ev
    have hN2 := hNX.did d (by have := d.wr.len; rw [List.length_nil] at this; omega)
    have k2 := kX.trans d.kw
    refine ⟨_, rfl, _, rfl, du, _, _, _, rfl, rfl, SqL.of (d.kp _ _ xdu ndu.1 ndu.2), rfl, _, rfl, yq _ _, true, rfl, cI ?_⟩
    refine ⟨_, rfl, _, rfl, bl, _, rfl, .inl (SqL.of (nods hN2).1), sn, ss', _, rfl, (nods hN2).2, fw d.wr, true, rfl, cI ?_⟩
    exact ⟨⟨_, _, rfl⟩, (clr hN2).1, k2.trans (clr hN2).2, by rw [aC (by rw [← e_sn]; exact ndu.2)]; exact d.kp _ _ xdu ndu.1 ndu.2⟩
   ·refine .inr (.inr ⟨_, rfl, _, rfl, wl, _, _, _, rfl, rfl, SqL.of xw, rfl, o3, dx3, _, rfl, hX3.at_, rfl, _, rfl, o3, dx3, p, [], ds, _, rfl, hX3, by simp, .inl ⟨j, rfl, hj, fun v' ss' X2 hv' d => ?_⟩⟩)
    have ev := (hv'.opt (by omega)).trans (hv.opt (by omega)).symm
    subst ev
    have hN2 := hNX.did d (by have := d.wr.len; rw [List.length_nil] at this; omega)
    have k2 := kX.trans d.kw
    refine ⟨_, rfl, _, rfl, du, _, _, _, rfl, rfl, SqL.of (d.kp _ _ xdu ndu.1 ndu.2), rfl, _, rfl, hv.or, true, rfl, cI ?_⟩
    refine ⟨_, rfl, _, rfl, bl, _, rfl, .inl (SqL.of (nods hN2).1), sn, ss', _, rfl, (nods hN2).2, fw d.wr, true, rfl, cI ?_⟩
    exact ⟨⟨_, _, rfl⟩, (clr hN2).1, k2.trans (clr hN2).2, by rw [aC (by rw [← e_sn]; exact ndu.2)]; exact d.kp _ _ xdu ndu.1 ndu.2⟩
  ·rintro σ Y ⟨⟨k12, k13, rfl⟩, hNY, kY, _⟩
   exact ⟨⟨_, _, _, _, _, rfl⟩, hNY, kY⟩
 ·rintro σ X ⟨⟨k9, k10, k11, k12, k13, rfl⟩, hNX, kX⟩
  have sSX : SqL K X sa (zs.map V.int) := keep _ fun b u e n => kX _ _ (s69 _ _ (o6 _ _ e n).1) (o6 _ _ e n).2.1 (by rw [e_sn]; exact (o6 _ _ e n).2.2)
  refine ⟨_, rfl, _, rfl, sa, _, rfl, sSX, fun l5 hl5 => ?_⟩
  rw [ez2]
  have s5' := az hl5 (.lst ((zs.take 20).map V.int))
  refine ⟨l5, zs.take 20, rfl, SqL.of ao, _, _, rfl, rfl, ⟨by decide, by decide, by decide⟩, _, _, rfl, rfl, (by show (0 : Int) < 10 ^ 60; decide), ?_⟩
  have hN5 := hNX.same s5'
  have k5 := kX.trans (KW.of s5')
  generalize upd X l5 (.lst ((zs.take 20).map V.int)) = X5' at *
  obtain ⟨far, efar, hfar⟩ : ∃ far : Int, (zs.take 20).sum % 10 ^ (60 : Int).toNat = far ∧ 0 ≤ far := ⟨_, rfl, Int.emod_nonneg _ (by decide)⟩
  set_option simprocs false in dsimp only
  rw [efar]
  have xw := k5 _ _ xwl9 (np xwl9 nofun) nwl
  have xd := k5 _ _ xdp9 (np xdp9 nofun) ndp
  obtain ⟨hX1, hX2, hX3⟩ := wks hN5 k5
  refine ⟨_, rfl, wl, rfl, ⟨_, SqL.of xw⟩, ?_⟩
  refine cZ (xs := [.ref o1, .ref o2, .ref o3]) (fun i σ Y => (∃ k15, σ = [some (.ref sa), some (.ref dp), some (.ref t), some (.ref bl), some (.ref sn), some (.ref f), some (.ref wl), some (.ref lt), some (.ref rs), k9, k10, k11, k12, k13, some (.int far), k15]) ∧ aR X5' Y) ⟨⟨_, rfl⟩, aR.refl _⟩ ?_ ?_ ?_
  ·rintro i σ Y _ ⟨_, sY⟩
   exact SqL.of (sY _ _ xw)
  ·rintro i v σ Y hv ⟨⟨k15, rfl⟩, sY⟩
   obtain ⟨o, dx, C, rfl, hW, hC⟩ : ∃ o dx C, v = .ref o ∧ Wk Y a.tP_heap_look C dx o p [] ds ∧ Dw a C := by
    match i, hv with
    | 0, hv => cases hv; exact ⟨o1, dx1, _, rfl, hX1.same sY, .inl rfl⟩
    | 1, hv => cases hv; exact ⟨o2, dx2, _, rfl, hX2.same sY, .inr (.inl rfl)⟩
    | 2, hv => cases hv; exact ⟨o3, dx3, _, rfl, hX3.same sY, .inr (.inr rfl)⟩
    | i + 3, hv => simp at hv
   refine ⟨_, rfl, _, rfl, dp, _, rfl, .inl (SqL.of (sY _ _ xd)), _, rfl, _, _, rfl, rfl, o, dx, C, p, ds, _, rfl, hW, hC, .inr (by omega), fun Y2 s2 => ⟨true, rfl, cI ?_⟩⟩
   refine ⟨_, rfl, _, rfl, _, rfl, _, _, rfl, rfl, o, dx, C, p, ds, _, rfl, hW.same s2, hC, .inl (by omega), fun Y3 s3 => ⟨true, rfl, cI ?_⟩⟩
   exact ⟨⟨_, rfl⟩, sY.trans (s2.trans s3)⟩
  ·rintro σ Y ⟨⟨k15, rfl⟩, sY⟩
   have hNY := hN5.same sY
   exact ⟨_, rfl, _, rfl, bl, _, rfl, .inl (SqL.of (nods hNY).1), sn, [], _, rfl, (nods hNY).2, nofun, q _⟩
end
theorem Eg {l : PySem.W.OpenLaw} {w : World} {K : PySem.W.Frag} {h : Heap} {mg : Str → Option Value} {fa f0 f1 f2 f3 f4 f5 f6 f7 f8 f9 f10 f11 f12 f13 f14 f15 f16 f17 f18 f19 f20 f21 f22 f23 f24 f25 f26 f27 f28 f29 f30 f31 f32 f33 f34 f35 f36 f37 f38 f39 f40 f41 f42 f43 f44 f45 f46 f47 f48 f49 f50 f51 f52 f53 f54 f55 f56 f57 f58 f59 f60 f61 f62 f63 f64 f65 f66 f67 f68 f69 f70 f71 f72 : Addr} {e0 e1 e2 e3 e4 e5 e6 e7 e8 e9 e10 e11 e12 e13 e14 e15 e16 e17 e18 e19 e20 e21 e22 e23 e24 e25 e26 e27 e28 e29 e30 e31 e32 e33 e34 e35 e36 e37 e39 e40 e41 e42 e43 e44 e45 e46 e47 e48 e49 e50 e51 e52 e53 e54 e55 e56 e57 e58 e59 e60 e61 e62 e63 e64 e65 e67 e68 e69 e70 e71 e72 : FuncData} {od38 an38 od66 an66 : Option Addr} {sl38 sl66 : Array (Option Value)} {oc38 kV38 dc38 pm38 ct38 oc66 kV66 dc66 pm66 ct66 : Value} {tt_BLOCK_BITS tt_MOST_BITS tt_MOST_NODES tt_MOST_NUMBERS : Tok} {c_Late c_NoNode c_NoPlace c_Tips c_Walk c_WoodError : Addr} {tc_heap_look tP_heap_look tc_law_look tP_law_look : Addr} {to_heap_look to_law_look : Value} {td_heap_look td_law_look : Option Addr} {tv_heap_look tv_law_look : Array Value} {ts_heap_look ts_law_look : Array (Option Value)} {qq : Program} {loose : List Str} {mb : Str → Option Value} {mean : ExcName → Option Value} (X : K.In h) (TT : PyProof.Rows.Top qq loose mean mg mb h) (hfa : mg "law" = some (.ref fa))
  (d0 : FI K "_wall" z9 f0 e0)
  (d1 : FI K "packed" qb f1 e1)
  (d2 : FI K "check_row" jH f2 e2)
  (d3 : FI K "block_of" lw f3 e3)
  (d4 : FI K "bit_in" qy f4 e4)
  (d5 : FI K "bits_of" ou f5 e5)
  (d6 : FI K "ones_in" oh f6 e6)
  (d7 : FI K "one_in" qJ f7 e7)
  (d8 : FI K "nets_of" oE f8 e8)
  (d9 : FI K "low_in" qz f9 e9)
  (d10 : FI K "first_low_in" fD f10 e10)
  (d11 : FI K "last_low_in" gF f11 e11)
  (d12 : FI K "heap_of" nq f12 e12)
  (d13 : FI K "size_of" nC f13 e13)
  (d14 : FI K "lesser_of" jD f14 e14)
  (d15 : FI K "first_at_most" dX f15 e15)
  (d16 : FI K "last_at_most" fP f16 e16)
  (d17 : FI K "place_beneath" dO f17 e17)
  (d18 : FI K "check_stretch" eE f18 e18)
  (d19 : FI K "cover" tO f19 e19)
  (d20 : FI K "kept_row" kI f20 e20)
  (d21 : FI K "ahead_of" kZ f21 e21)
  (d22 : FI K "check_place" gj f22 e22)
  (d23 : FI K "bit_at" qK f23 e23)
  (d24 : FI K "ones_at" oA f24 e24)
  (d25 : FI K "noughts_at" iC f25 e25)
  (d26 : FI K "one_place" je f26 e26)
  (d27 : FI K "nought_place" fJ f27 e27)
  (d28 : FI K "check_nth" jK f28 e28)
  (d29 : FI K "last_no_greater" dq f29 e29)
  (d30 : FI K "is_tree" mY f30 e30)
  (d31 : FI K "check_brackets" dD f31 e31)
  (d32 : FI K "kept_brackets" dW f32 e32)
  (d33 : FI K "low_of" q9 f33 e33)
  (d34 : FI K "base_of" nY f34 e34)
  (d35 : FI K "start_within" fj f35 e35)
  (d36 : FI K "end_within" iQ f36 e36)
  (d37 : FI K "block_count" gD f37 e37)
  (a38 : PySem.W.nsIn K mainGlobals "heap_look" = some (some (.ref f38))) (l38 : K.lookup f38 = some ⟨oc38, od38, .func (PySem.W.fnOf "heap_look" "heap_look" (defArgs bQ) (defBody bQ) (defScope bQ) .none kV38 dc38 pm38 an38 (.ref tc_heap_look) ct38), sl38⟩) (c38 : PySem.W.codeIn K (.ref tc_heap_look) "heap_look" = true) (k38 : PySem.W.keepIn K (.ref f38) = true)
  (tl_heap_look : K.lookup tc_heap_look = some ⟨to_heap_look, td_heap_look, .fields tv_heap_look, ts_heap_look⟩) (tp_heap_look : tv_heap_look[11]? = some (.ref tP_heap_look)) (tr_heap_look : ∃ d, (PyProof.Rows.recsOf qq).find? (fun e => e.name == ("heap_look" : Str)) = some d)
  (d39 : FI K "height" qp f39 e39)
  (d40 : FI K "low_behind" il f40 e40)
  (d41 : FI K "first_within" fV f41 e41)
  (d42 : FI K "place_of_bit" fB f42 e42)
  (d43 : FI K "low_ahead" jO f43 e43)
  (d44 : FI K "last_low_upto" dU f44 e44)
  (d45 : FI K "last_within" gn f45 e45)
  (d46 : FI K "check_bracket" dY f46 e46)
  (d47 : FI K "closing" nO f47 e47)
  (d48 : FI K "opening" m9 f48 e48)
  (d49 : FI K "node_count" ir f49 e49)
  (d50 : FI K "check_node" iG f50 e50)
  (d51 : FI K "node_at" nM f51 e51)
  (d52 : FI K "place_of" kO f52 e52)
  (d53 : FI K "next_number" gq f53 e53)
  (d54 : FI K "closed_from" gm f54 e54)
  (dm55 : Fun K "__init__" "Walk.__init__" jF f55 e55)
  (dm56 : Fun K "behind" "Walk.behind" gO f56 e56)
  (dm57 : Fun K "behind" "Late.behind" gP f57 e57)
  (dm58 : Fun K "behind" "Tips.behind" gw f58 e58)
  (dm59 : Fun K "tip_from" "Tips.tip_from" eG f59 e59)
  (d60 : FI K "check_depths" fQ f60 e60)
  (d61 : FI K "brackets_of" gA f61 e61)
  (d62 : FI K "kept_tree" ji f62 e62)
  (d63 : FI K "_law_whole" jo f63 e63)
  (d64 : FI K "_law_depths" iz f64 e64)
  (d65 : FI K "_law_late" lu f65 e65)
  (a66 : PySem.W.nsIn K mainGlobals "_law_look" = some (some (.ref f66))) (l66 : K.lookup f66 = some ⟨oc66, od66, .func (PySem.W.fnOf "_law_look" "_law_look" (defArgs b8) (defBody b8) (defScope b8) .none kV66 dc66 pm66 an66 (.ref tc_law_look) ct66), sl66⟩) (c66 : PySem.W.codeIn K (.ref tc_law_look) "_law_look" = true) (k66 : PySem.W.keepIn K (.ref f66) = true)
  (tl_law_look : K.lookup tc_law_look = some ⟨to_law_look, td_law_look, .fields tv_law_look, ts_law_look⟩) (tp_law_look : tv_law_look[11]? = some (.ref tP_law_look)) (tr_law_look : ∃ d, (PyProof.Rows.recsOf qq).find? (fun e => e.name == ("_law_look" : Str)) = some d)
  (d67 : FI K "_law_there" jq f67 e67)
  (d68 : FI K "_law_due" nJ f68 e68)
  (d69 : FI K "_law_refused" gH f69 e69)
  (d70 : FI K "_law_next" lz f70 e70)
  (d71 : FI K "_law_tip" m6 f71 e71)
  (d72 : FI K "law" zZ f72 e72)
  (z_bool : PySem.W.nsIn K mainGlobals "bool" = some none)
  (z_enumerate : PySem.W.nsIn K mainGlobals "enumerate" = some none)
  (z_int : PySem.W.nsIn K mainGlobals "int" = some none)
  (z_isinstance : PySem.W.nsIn K mainGlobals "isinstance" = some none)
  (z_len : PySem.W.nsIn K mainGlobals "len" = some none)
  (z_list : PySem.W.nsIn K mainGlobals "list" = some none)
  (z_max : PySem.W.nsIn K mainGlobals "max" = some none)
  (z_min : PySem.W.nsIn K mainGlobals "min" = some none)
  (z_range : PySem.W.nsIn K mainGlobals "range" = some none)
  (z_reversed : PySem.W.nsIn K mainGlobals "reversed" = some none)
  (z_sum : PySem.W.nsIn K mainGlobals "sum" = some none)
  (z_tuple : PySem.W.nsIn K mainGlobals "tuple" = some none)
  (z_zip : PySem.W.nsIn K mainGlobals "zip" = some none)
  (g_BLOCK_BITS : PySem.W.nsIn K mainGlobals "BLOCK_BITS" = some (some (.int 32 tt_BLOCK_BITS)))
  (g_MOST_BITS : PySem.W.nsIn K mainGlobals "MOST_BITS" = some (some (.int 4096 tt_MOST_BITS)))
  (g_MOST_NODES : PySem.W.nsIn K mainGlobals "MOST_NODES" = some (some (.int 2048 tt_MOST_NODES)))
  (g_MOST_NUMBERS : PySem.W.nsIn K mainGlobals "MOST_NUMBERS" = some (some (.int 4096 tt_MOST_NUMBERS)))
  (q_Late : PySem.W.nsIn K mainGlobals "Late" = some (some (.ref c_Late)))
  (q_NoNode : PySem.W.nsIn K mainGlobals "NoNode" = some (some (.ref c_NoNode)))
  (q_NoPlace : PySem.W.nsIn K mainGlobals "NoPlace" = some (some (.ref c_NoPlace)))
  (q_Tips : PySem.W.nsIn K mainGlobals "Tips" = some (some (.ref c_Tips)))
  (q_Walk : PySem.W.nsIn K mainGlobals "Walk" = some (some (.ref c_Walk)))
  (q_WoodError : PySem.W.nsIn K mainGlobals "WoodError" = some (some (.ref c_WoodError)))
  (ex_NoNode : PySem.W.excIn K c_NoNode bmV "ValueError.__new__" = true)
  (ed_NoNode : PySem.W.hasDictIn K c_NoNode = true)
  (ega_NoNode : PySem.W.findIn K (.ref c_NoNode) "__getattribute__" = some (some (.builtin "BaseException.__getattribute__")))
  (eng_NoNode : PySem.W.findIn K (.ref c_NoNode) "__getattr__" = some none)
  (ecl_NoNode : PySem.W.findIn K (.ref c_NoNode) "__class__" = some (some (.builtin "object.__class__")))
  (egt_NoNode : PySem.W.specialIn K (.builtin "object.__class__") "__get__" = some (some (.builtin "getset_descriptor.__get__")))
  (etk_NoNode : PySem.W.takesIn K (.builtin "object.__class__") = some true)
  (emo_NoNode : PySem.W.mroIn K c_NoNode (.type "object") = some true)
  (emb_NoNode : PySem.W.mroIn K c_NoNode (.type "BaseException") = some true)
  (i_NoNode_Late : PySem.W.kitOne K (.ref c_NoNode) (.ref c_Late) = some false)
  (i_NoNode_NoNode : PySem.W.kitOne K (.ref c_NoNode) (.ref c_NoNode) = some true)
  (i_NoNode_NoPlace : PySem.W.kitOne K (.ref c_NoNode) (.ref c_NoPlace) = some false)
  (i_NoNode_Tips : PySem.W.kitOne K (.ref c_NoNode) (.ref c_Tips) = some false)
  (i_NoNode_Walk : PySem.W.kitOne K (.ref c_NoNode) (.ref c_Walk) = some false)
  (i_NoNode_WoodError : PySem.W.kitOne K (.ref c_NoNode) (.ref c_WoodError) = some true)
  (i_NoNode_ValueError : PySem.W.kitOne K (.ref c_NoNode) (.type "ValueError") = some true)
  (cl_Late : Cls K c_Late)
  (cl_Tips : Cls K c_Tips)
  (cl_Walk : Cls K c_Walk)
  (na_Late_look : PySem.W.findIn K (.ref c_Late) "look" = some none)
  (na_Late_tables : PySem.W.findIn K (.ref c_Late) "tables" = some none)
  (na_Tips_look : PySem.W.findIn K (.ref c_Tips) "look" = some none)
  (na_Tips_tables : PySem.W.findIn K (.ref c_Tips) "tables" = some none)
  (na_Walk_look : PySem.W.findIn K (.ref c_Walk) "look" = some none)
  (na_Walk_tables : PySem.W.findIn K (.ref c_Walk) "tables" = some none)
  (mt_Late_behind : Meth K c_Late "behind" f57)
  (mt_Tips_behind : Meth K c_Tips "behind" f58)
  (mt_Tips_tip_from : Meth K c_Tips "tip_from" f59)
  (mt_Walk_behind : Meth K c_Walk "behind" f56)
  (mk_Late : Mk K c_Late f55)
  (mk_Tips : Mk K c_Tips f55)
  (mk_Walk : Mk K c_Walk f55)
  (nt : PySem.W.noTabs K = true)
  (nn_heap_look_law_look : tP_heap_look ≠ tP_law_look) :
  ∃ (fd : FuncData) (tabs : List (Addr × Addr)) (sp : Sp), (∀ (s : Shared) (v : Value), BindsTo s fd ⟨[v], []⟩ [("_law_script", v)]) ∧ PySem.W.TabsAt tabs h ∧ PySem.W.noTabs K = true ∧ (∀ base : Heap, K.In base → base.Ns mainGlobals mg → BMain mg base → (∀ q ∈ tabs, PySem.W.CodeHd base q.1 q.2) → aU l.prog w K mg base CX0 14 fa fd ["_law_script"] sp) ∧
   ∀ (H : Hp) (a : Addr) (ns : List Int), ns.length ≤ 63 → SqL K H a (ns.map V.int) → (∀ q ∈ tabs, H q.2 = some (.tbl #[])) → sp [.ref a] H (fun v _ => v = .bl true) fun _ _ _ => False := by
 have G := TT.g
 have e := hfa.symm.trans (PySem.W.mg_of X G d72.a)
 cases e
 obtain ⟨_, _, _, _, _, _, _, _, _, rfl, _, _⟩ := d72.F.ex
 have F38 := ug (st := bQ) l38 c38 k38
 have D38 : Df K mg "heap_look" bQ ["tables"] _ _ := ⟨F38, F38.binds (ps := ["tables"]) fun _ _ _ _ _ _ us hl => Dn (C := fun us => bindArgs _ ⟨us, []⟩ = pure (List.zip (["tables"] : List Str) us)) hl (fun _ => rfl), PySem.W.mg_of X G a38⟩
 have F66 := ug (st := b8) l66 c66 k66
 have D66 : Df K mg "_law_look" b8 ["_law_blocks", "_law_seen"] _ _ := ⟨F66, F66.binds (ps := ["_law_blocks", "_law_seen"]) fun _ _ _ _ _ _ us hl => Bf (C := fun us => bindArgs _ ⟨us, []⟩ = pure (List.zip (["_law_blocks", "_law_seen"] : List Str) us)) hl (fun _ _ => rfl), PySem.W.mg_of X G a66⟩
 have T : Tx K mg ⟨tc_heap_look, tP_heap_look, tc_law_look, tP_law_look, _, _, _, _, _, _, _, _, _, _, _, _, _, _, _, _, _, _, _, _, _, _, _, _, _, _, _, _, _, _, _, _, _, _, _, _, _, _, _, _, _, _, _, _, _, _, _, _, _, _, _, _, _, _, _, _, _, _, _, _, _, _, _, _, _, _, _, _, _, _, _, _, _, _, _, _, _, _, _, _, _, _, _, _, _, _, _, _, _, _, _, _, _, _, _, _, _, _, _, _, _, _, _, _, _, _, _, _, _, _, _, _, _, _, _, _, _, _, _, _, _, _, _, _, _, _, _, _, _, _, _, _, _, _, _, _, _, _, _, _, _, _, _, _, _, _, _, _, _, _, c_Late, c_NoNode, c_NoPlace, c_Tips, c_Walk, c_WoodError⟩ := ⟨df1 X G d0 fun _ _ _ _ _ _ _ => rfl, df1 X G d1 fun _ _ _ _ _ _ _ => rfl, df1 X G d2 fun _ _ _ _ _ _ _ => rfl, df1 X G d3 fun _ _ _ _ _ _ _ => rfl, df2 X G d4 fun _ _ _ _ _ _ _ _ => rfl, df2 X G d5 fun _ _ _ _ _ _ _ _ => rfl, df2 X G d6 fun _ _ _ _ _ _ _ _ => rfl, df2 X G d7 fun _ _ _ _ _ _ _ _ => rfl, df2 X G d8 fun _ _ _ _ _ _ _ _ => rfl, df2 X G d9 fun _ _ _ _ _ _ _ _ => rfl, df4 X G d10 fun _ _ _ _ _ _ _ _ _ _ => rfl, df4 X G d11 fun _ _ _ _ _ _ _ _ _ _ => rfl, df1 X G d12 fun _ _ _ _ _ _ _ => rfl, df1 X G d13 fun _ _ _ _ _ _ _ => rfl, df2 X G d14 fun _ _ _ _ _ _ _ _ => rfl, df4 X G d15 fun _ _ _ _ _ _ _ _ _ _ => rfl, df4 X G d16 fun _ _ _ _ _ _ _ _ _ _ => rfl, df5 X G d17 fun _ _ _ _ _ _ _ _ _ _ _ => rfl, df3 X G d18 fun _ _ _ _ _ _ _ _ _ => rfl, df3 X G d19 fun _ _ _ _ _ _ _ _ _ => rfl, df1 X G d20 fun _ _ _ _ _ _ _ => rfl, df1 X G d21 fun _ _ _ _ _ _ _ => rfl, df2 X G d22 fun _ _ _ _ _ _ _ _ => rfl, df3 X G d23 fun _ _ _ _ _ _ _ _ _ => rfl, df3 X G d24 fun _ _ _ _ _ _ _ _ _ => rfl, df3 X G d25 fun _ _ _ _ _ _ _ _ _ => rfl, df3 X G d26 fun _ _ _ _ _ _ _ _ _ => rfl, df3 X G d27 fun _ _ _ _ _ _ _ _ _ => rfl, df2 X G d28 fun _ _ _ _ _ _ _ _ => rfl, df2 X G d29 fun _ _ _ _ _ _ _ _ => rfl, df1 X G d30 fun _ _ _ _ _ _ _ => rfl, df1 X G d31 fun _ _ _ _ _ _ _ => rfl, df1 X G d32 fun _ _ _ _ _ _ _ => rfl, df3 X G d33 fun _ _ _ _ _ _ _ _ _ => rfl, df2 X G d34 fun _ _ _ _ _ _ _ _ => rfl, df2 X G d35 fun _ _ _ _ _ _ _ _ => rfl, df2 X G d36 fun _ _ _ _ _ _ _ _ => rfl, df1 X G d37 fun _ _ _ _ _ _ _ => rfl, D38, df3 X G d39 fun _ _ _ _ _ _ _ _ _ => rfl, df4 X G d40 fun _ _ _ _ _ _ _ _ _ _ => rfl, df5 X G d41 fun _ _ _ _ _ _ _ _ _ _ _ => rfl, df2 X G d42 fun _ _ _ _ _ _ _ _ => rfl, df4 X G d43 fun _ _ _ _ _ _ _ _ _ _ => rfl, df4 X G d44 fun _ _ _ _ _ _ _ _ _ _ => rfl, df5 X G d45 fun _ _ _ _ _ _ _ _ _ _ _ => rfl, df4 X G d46 fun _ _ _ _ _ _ _ _ _ _ => rfl, df3 X G d47 fun _ _ _ _ _ _ _ _ _ => rfl, df3 X G d48 fun _ _ _ _ _ _ _ _ _ => rfl, df1 X G d49 fun _ _ _ _ _ _ _ => rfl, df2 X G d50 fun _ _ _ _ _ _ _ _ => rfl, df3 X G d51 fun _ _ _ _ _ _ _ _ _ => rfl, df3 X G d52 fun _ _ _ _ _ _ _ _ _ => rfl, df2 X G d53 fun _ _ _ _ _ _ _ _ => rfl, df3 X G d54 fun _ _ _ _ _ _ _ _ _ => rfl, dm3 dm55 fun _ _ _ _ _ _ _ _ _ => rfl, dm2 dm56 fun _ _ _ _ _ _ _ _ => rfl, dm2 dm57 fun _ _ _ _ _ _ _ _ => rfl, dm2 dm58 fun _ _ _ _ _ _ _ _ => rfl, dm2 dm59 fun _ _ _ _ _ _ _ _ => rfl, df1 X G d60 fun _ _ _ _ _ _ _ => rfl, df1 X G d61 fun _ _ _ _ _ _ _ => rfl, df1 X G d62 fun _ _ _ _ _ _ _ => rfl, df1 X G d63 fun _ _ _ _ _ _ _ => rfl, df2 X G d64 fun _ _ _ _ _ _ _ _ => rfl, df1 X G d65 fun _ _ _ _ _ _ _ => rfl, D66, df2 X G d67 fun _ _ _ _ _ _ _ _ => rfl, df2 X G d68 fun _ _ _ _ _ _ _ _ => rfl, df2 X G d69 fun _ _ _ _ _ _ _ _ => rfl, df2 X G d70 fun _ _ _ _ _ _ _ _ => rfl, df2 X G d71 fun _ _ _ _ _ _ _ _ => rfl, df1 X G d72 fun _ _ _ _ _ _ _ => rfl, PySem.W.mg_none_of X G z_bool, PySem.W.mg_none_of X G z_enumerate, PySem.W.mg_none_of X G z_int, PySem.W.mg_none_of X G z_isinstance, PySem.W.mg_none_of X G z_len, PySem.W.mg_none_of X G z_list, PySem.W.mg_none_of X G z_max, PySem.W.mg_none_of X G z_min, PySem.W.mg_none_of X G z_range, PySem.W.mg_none_of X G z_reversed, PySem.W.mg_none_of X G z_sum, PySem.W.mg_none_of X G z_tuple, PySem.W.mg_none_of X G z_zip, PySem.W.mg_of X G g_BLOCK_BITS, PySem.W.mg_of X G g_MOST_BITS, PySem.W.mg_of X G g_MOST_NODES, PySem.W.mg_of X G g_MOST_NUMBERS, PySem.W.mg_of X G q_Late, PySem.W.mg_of X G q_NoNode, PySem.W.mg_of X G q_NoPlace, PySem.W.mg_of X G q_Tips, PySem.W.mg_of X G q_Walk, PySem.W.mg_of X G q_WoodError, ⟨PySem.W.mg_of X G q_NoNode, ex_NoNode⟩, ⟨ed_NoNode, ega_NoNode, eng_NoNode, ecl_NoNode, egt_NoNode, etk_NoNode, emo_NoNode, emb_NoNode⟩, i_NoNode_Late, i_NoNode_NoNode, i_NoNode_NoPlace, i_NoNode_Tips, i_NoNode_Walk, i_NoNode_WoodError, i_NoNode_ValueError, cl_Late, cl_Tips, cl_Walk, na_Late_look, na_Late_tables, na_Tips_look, na_Tips_tables, na_Walk_look, na_Walk_tables, mt_Late_behind, mt_Tips_behind, mt_Tips_tip_from, mt_Walk_behind, mk_Late, mk_Tips, mk_Walk, rfl, rfl⟩
 obtain ⟨d_heap_look, tr_heap_look⟩ := tr_heap_look
 have tb_heap_look := PySem.W.tab_of TT X tr_heap_look (vP a38 l38 rfl tl_heap_look tp_heap_look)
 obtain ⟨d_law_look, tr_law_look⟩ := tr_law_look
 have tb_law_look := PySem.W.tab_of TT X tr_law_look (vP a66 l66 rfl tl_law_look tp_law_look)
 exact ⟨_, [(tc_heap_look, tP_heap_look), (tc_law_look, tP_law_look)], sp_law K tP_heap_look tP_law_look, fun s v => .of_eq rfl, List.forall_mem_cons.mpr ⟨tb_heap_look, List.forall_mem_cons.mpr ⟨tb_law_look, fun _ z => nomatch z⟩⟩, nt, fun base _ _ bm hc => Ek T ⟨bm, hc _ (.head _), hc _ (.tail _ (.head _)), nn_heap_look_law_look⟩, fun H a ns hl hS hTb => za hS hl (hTb _ (.head _)) (hTb _ (.tail _ (.head _)))⟩
end Tw
namespace Tp
open PySem
noncomputable section
abbrev O := Params → Obj
def sq (l : List Str) : Nat → List Value := @List.rec Str (fun _ => Nat → List Value) (fun _ => []) (fun s _ ih t => Value.str s t :: ih (Nat.add t 1)) l
def ap {α : Type} (a b : List α) : List α := @List.rec α (fun _ => List α) b (fun x _ r => x :: r) a
def tk {α : Type} (l : List α) : Nat → List α := @List.rec α (fun _ => Nat → List α) (fun _ => []) (fun x _ ih n => @Nat.rec (fun _ => List α) [] (fun m _ => x :: ih m) n) l
def mp {α β : Type} (f : α → β) (l : List α) : List β := @List.rec α (fun _ => List β) [] (fun x _ r => f x :: r) l
def ov (l : List O) : List (Nat × O) → List O := @List.rec O (fun _ => List (Nat × O) → List O) (fun _ => []) (fun x _ ih ex => @List.rec (Nat × O) (fun _ => List O) (x :: ih []) (fun e r _ => @Nat.rec (fun _ => List O) (e.2 :: ih r) (fun g _ => x :: ih ((g, e.2) :: r)) e.1) ex) l
def ev (l : List Obj) : Bool → List Obj := @List.rec Obj (fun _ => Bool → List Obj) (fun _ => []) (fun x _ ih b => @Bool.rec (fun _ => List Obj) (ih true) (x :: ih false) b) l
def bt (n : Nat) : List Obj → PySem.W.BT := @Nat.rec (fun _ => List Obj → PySem.W.BT) (fun _ => .nil) (fun _ ih l => @List.rec Obj (fun _ => PySem.W.BT) .nil (fun x xs _ => .node x (ih (ev xs true)) (ih (ev xs false))) l) n
def Z (s : Str) (t : Nat) (v : Value) (P : Params) : DictEntry := .mk (PyData.keyHash P s) (.str s t) v
def E (s : Str) (t r : Nat) (P : Params) : DictEntry := .mk (PyData.keyHash P s) (.str s t) (.ref r)
def gd (l : List (Params → DictEntry)) (n : Nat) (P : Params) : Obj := .mk (.type "dict") none (.dict (mp (fun e => e P) l).toArray n) #[]
def tb (l : List (Nat × Nat)) (P : Params) : Obj := .mk .none none (.fields (@List.rec (Nat × Nat) (fun _ => List Value) [] (fun x _ r => .int (Int.ofNat x.1) 0 :: .int 0 0 :: .ref x.2 :: r) l).toArray) #[]
def h0 (x0 : Nat) (x1 : Nat) (x2 : Nat) (x3 : Nat) (x4 : Nat) (x5 : Nat) (x6 : Nat) (x7 : List Str) (x8 : Str) (x9 : Str) : List O := [fun P => (.mk (.type "tuple") none (.seq #[] 0) #[]), fun P => (.mk .none none (.fields #[]) #[]), fun P => (.mk (.type "tuple") none (.seq (sq x7 (Nat.add x0 3)).toArray 0) #[]), fun P => (.mk (.type "tuple") none (.seq #[] 0) #[]), fun P => (.mk .none none (.func (FuncData.mk x8 x8 (L2.defArgs (Tw.top x1)) (FuncBody.stmts (L2.defBody (Tw.top x1))) (L2.defScope (Tw.top x1)) 0 [] .none .none .none .none none .none .none 0)) #[]), fun P => (.mk (.type "code") none (.fields #[(.str x8 x0), (.str x8 (Nat.add x0 1)), (.str "/claim/cut.py" (Nat.add x0 2)), (.int (Int.ofNat x2) 0), (.int (Int.ofNat x3) 0), (.int 0 0), (.int 0 0), (.int 3 0), (.ref x4), (.bool .true), (.int 181 0), (.ref (Nat.add x4 1)), .none, (.ref (Nat.add x4 2)), (.ref (Nat.add x4 3)), (.ref (Nat.add x4 4)), (.int (Int.ofNat x5) 0), (.int (Int.ofNat x2) 0), (.str "/claim/cut.py" (Nat.add x5 1))]) #[]), fun P => (.mk (.type "function") none (.func (FuncData.mk x8 x8 (L2.defArgs (Tw.top x1)) (FuncBody.stmts (L2.defBody (Tw.top x1))) (L2.defScope (Tw.top x1)) 3 [] .none .none .none (.str x9 x6) none (.ref (Nat.add x4 5)) .none 0)) #[])]
def h1 (x0 : Nat) (x1 : Nat) (x2 : Nat) (x3 : Str) : List O := [fun P => (.mk (.type "tuple") none (.seq #[(.ref 31)] 0) #[]), fun P => (.mk (.type "builtin_function_or_method") none (.fields #[(.builtin "type.__prepare__"), (.type "type")]) #[]), fun P => (.mk (.type "dict") none (.dict #[(.mk (PyData.keyHash P "__module__") (.str "__module__" (Nat.add x0 7)) (.str "thinwood.errors" 194)), (.mk (PyData.keyHash P "__qualname__") (.str "__qualname__" (Nat.add x0 9)) (.str x3 (Nat.add x0 8))), (.mk (PyData.keyHash P "__firstlineno__") (.str "__firstlineno__" (Nat.add x0 11)) (.int (Int.ofNat x1) (Nat.add x0 10))), (.mk (PyData.keyHash P "__static_attributes__") (.str "__static_attributes__" (Nat.add x0 12)) (.ref (Nat.add x2 7)))] 4) #[]), fun P => (.mk (.type "tuple") none (.seq #[] 0) #[]), fun P => (.mk .none none (.fields #[]) #[]), fun P => (.mk (.type "code") none (.fields #[(.str x3 (Nat.add x0 2)), (.str x3 (Nat.add x0 3)), (.str "/claim/cut.py" (Nat.add x0 4)), (.int (Int.ofNat x1) 0), (.int 0 0), (.int 0 0), (.int 0 0), (.int 0 0), (.ref (Nat.add x2 3)), (.bool .false), (.int 181 0), (.ref (Nat.add x2 4)), .none, .none, .none, .none, (.int (Int.ofNat (Nat.add x0 5)) 0), (.int (Int.ofNat x1) 0), (.str "/claim/cut.py" (Nat.add x0 6))]) #[]), fun P => (.mk (.type "frame") none .plain #[(some (.ref (Nat.add x2 5))), (some (.ref 3)), (some (.ref (Nat.add x2 2))), none, (some (.str "thinwood.errors" 194)), none, (some (.ref 0))]), fun P => (.mk (.type "tuple") none (.seq #[] 0) #[]), fun P => (.mk (.type "dict") none (.dict #[(.mk (PyData.keyHash P "__module__") (.str "__module__" (Nat.add x0 7)) (.str "thinwood.errors" 194)), (.mk (PyData.keyHash P "__firstlineno__") (.str "__firstlineno__" (Nat.add x0 11)) (.int (Int.ofNat x1) (Nat.add x0 10))), (.mk (PyData.keyHash P "__static_attributes__") (.str "__static_attributes__" (Nat.add x0 12)) (.ref (Nat.add x2 7))), (.mk (PyData.keyHash P "__doc__") (.str "__doc__" (Nat.add x0 13)) .none)] 2) #[]), fun P => (.mk (.type "type") none (.cls (.mk x3 [(.ref 31)] [(.ref (Nat.add x2 9)), (.ref 31), (.type "ValueError"), (.type "Exception"), (.type "BaseException"), (.type "object")] (Nat.add x2 8) x3 .true [] [] .false none .false)) #[(some (.ref x2)), none, (some (.str x3 x0)), (some (.str x3 (Nat.add x0 8))), (some (.builtin "ValueError.__new__")), (some (.bool .true))]), fun P => (.mk (.type "super") none (.fields #[(.ref (Nat.add x2 9)), (.ref (Nat.add x2 9)), (.ref (Nat.add x2 9))]) #[]), fun P => (.mk (.type "builtin_function_or_method") none (.fields #[(.builtin "object.__init_subclass__"), (.ref (Nat.add x2 9))]) #[])]
def h2 (x0 : Nat) (x1 : Nat) (x2 : Nat) (x3 : Nat) (x4 : Nat) (x5 : Nat) (x6 : Str) (x7 : Str) : List O := [fun P => (.mk (.type "tuple") none (.seq #[] 0) #[]), fun P => (.mk .none none (.fields #[]) #[]), fun P => (.mk .none none (.func (FuncData.mk x6 x6 (L2.defArgs (Tw.top x0)) (FuncBody.stmts (L2.defBody (Tw.top x0))) (L2.defScope (Tw.top x0)) 0 [] .none .none .none .none none .none .none 0)) #[]), fun P => (.mk (.type "code") none (.fields #[(.str x6 x1), (.str x6 (Nat.add x1 1)), (.str "/claim/cut.py" (Nat.add x1 2)), (.int (Int.ofNat x2) 0), (.int (Int.ofNat x3) 0), (.int 0 0), (.int 0 0), (.int 3 0), (.ref x4), (.bool .true), (.int 181 0), (.ref (Nat.add x4 1)), .none, .none, .none, (.ref (Nat.add x4 2)), (.int (Int.ofNat (Nat.add x1 3)) 0), (.int (Int.ofNat x2) 0), (.str "/claim/cut.py" (Nat.add x1 4))]) #[]), fun P => (.mk (.type "function") none (.func (FuncData.mk x6 x6 (L2.defArgs (Tw.top x0)) (FuncBody.stmts (L2.defBody (Tw.top x0))) (L2.defScope (Tw.top x0)) 3 [] .none .none .none (.str x7 x5) none (.ref (Nat.add x4 3)) .none 0)) #[])]
def h3 (x0 : Nat) (x1 : Nat) (x2 : Nat) (x3 : Nat) (x4 : Nat) (x5 : Nat) (x6 : Nat) (x7 : List Str) (x8 : Str) (x9 : Str) : List O := [fun P => (.mk (.type "tuple") none (.seq #[] 0) #[]), fun P => (.mk .none none (.fields #[]) #[]), fun P => (.mk (.type "tuple") none (.seq (sq x7 (Nat.add x0 3)).toArray 0) #[]), fun P => (.mk (.type "tuple") none (.seq #[] 0) #[]), fun P => (.mk .none none (.func (FuncData.mk x8 x9 (L2.defArgs (L2.inClass (Tw.top x1) x2)) (FuncBody.stmts (L2.defBody (L2.inClass (Tw.top x1) x2))) (L2.defScope (L2.inClass (Tw.top x1) x2)) 0 [] .none .none .none .none none .none .none 0)) #[]), fun P => (.mk (.type "code") none (.fields #[(.str x8 x0), (.str x9 (Nat.add x0 1)), (.str "/claim/cut.py" (Nat.add x0 2)), (.int (Int.ofNat x3) 0), (.int (Int.ofNat x4) 0), (.int 0 0), (.int 0 0), (.int 3 0), (.ref x5), (.bool .true), (.int 181 0), (.ref (Nat.add x5 1)), .none, (.ref (Nat.add x5 2)), (.ref (Nat.add x5 3)), (.ref (Nat.add x5 4)), (.int (Int.ofNat x6) 0), (.int (Int.ofNat x3) 0), (.str "/claim/cut.py" (Nat.add x6 1))]) #[]), fun P => (.mk (.type "function") none (.func (FuncData.mk x8 x9 (L2.defArgs (L2.inClass (Tw.top x1) x2)) (FuncBody.stmts (L2.defBody (L2.inClass (Tw.top x1) x2))) (L2.defScope (L2.inClass (Tw.top x1) x2)) 3 [] .none .none .none (.str "thinwood.walks" 796) none (.ref (Nat.add x5 5)) .none 0)) #[])]
def g0 : List (Params → DictEntry) := [Z "__doc__" 166 .none, Z "__package__" 167 .none, Z "__loader__" 168 (.builtin "__main__.__loader__#opaque"), Z "__spec__" 169 .none, E "__annotations__" 170 6, E "__builtins__" 171 4, Z "__file__" 173 (.str "/claim/cut.py" 172), Z "__cached__" 174 .none, E "_wall" 193 21, E "WoodError" 213 31]
def g1 : List (Params → DictEntry) := [E "TooMany" 229 44, E "NoBit" 245 56, E "NoPlace" 261 68, E "NoNode" 277 80, E "NoTree" 293 92, Z "BLOCK_BITS" 297 (.int 32 296), Z "MOST_BITS" 299 (.int 4096 298), E "packed" 305 99, E "check_row" 313 106, E "block_of" 322 113]
def g2 : List (Params → DictEntry) := [E "bit_in" 330 120, E "bits_of" 336 125, E "ones_in" 344 132, E "one_in" 355 139, E "nets_of" 366 146, E "low_in" 374 153, E "first_low_in" 386 160, E "last_low_in" 399 167, Z "MOST_NUMBERS" 403 (.int 4096 402), E "heap_of" 413 174]
def g3 : List (Params → DictEntry) := [E "size_of" 421 181, E "lesser_of" 429 188, E "first_at_most" 440 195, E "last_at_most" 451 202, E "place_beneath" 463 209, E "check_stretch" 472 216, E "cover" 486 223, E "kept_row" 496 230, E "ahead_of" 505 237, E "check_place" 513 244]
def g4 : List (Params → DictEntry) := [E "bit_at" 522 251, E "ones_at" 535 258, E "noughts_at" 544 265, E "one_place" 555 272, E "nought_place" 561 277, E "check_nth" 569 284, E "last_no_greater" 580 291, E "is_tree" 592 298, E "check_brackets" 599 305, E "kept_brackets" 605 310]
def g5 : List (Params → DictEntry) := [E "low_of" 614 317, E "base_of" 622 324, E "start_within" 630 331, E "end_within" 638 338, E "block_count" 645 345, E "heap_look" 653 352, E "height" 662 359, E "low_behind" 675 366, E "first_within" 688 373, E "place_of_bit" 696 380]
def g6 : List (Params → DictEntry) := [E "low_ahead" 707 387, E "last_low_upto" 720 394, E "last_within" 732 401, E "check_bracket" 742 408, E "closing" 751 415, E "opening" 760 422, E "node_count" 769 429, E "check_node" 777 436, E "node_at" 786 443, E "place_of" 795 450]
def g7 : List (Params → DictEntry) := [E "next_number" 805 457, E "closed_from" 815 464, E "Walk" 868 502, E "Late" 900 530, E "Tips" 940 563, Z "MOST_NODES" 944 (.int 2048 943), E "check_depths" 953 572, E "brackets_of" 963 579, E "kept_tree" 970 586, E "_law_whole" 979 593]
def g8 : List (Params → DictEntry) := [E "_law_depths" 993 600, E "_law_late" 1003 607, E "_law_look" 1014 614, E "_law_there" 1023 621, E "_law_due" 1031 628, E "_law_refused" 1041 635, E "_law_next" 1050 642, E "_law_tip" 1059 649, E "law" 1065 654]
def gg : List (Params → DictEntry) := ap g0 (ap g1 (ap g2 (ap g3 (ap g4 (ap g5 (ap g6 (ap g7 (g8))))))))
def tt : List (Nat × Nat) := [(1, 20), (5, 27), (7, 40), (9, 52), (11, 64), (13, 76), (15, 88), (20, 98), (23, 105), (29, 112), (34, 119), (36, 124), (38, 131), (40, 138), (47, 145), (54, 152), (56, 159), (61, 166), (69, 173), (77, 180), (82, 187), (88, 194), (93, 201), (98, 208), (105, 215), (108, 222), (126, 229), (129, 236), (134, 243), (137, 250), (140, 257), (149, 264), (151, 271), (156, 276), (164, 283), (167, 290), (178, 297), (185, 304), (189, 309), (196, 316), (198, 323), (200, 330), (202, 337), (204, 344), (206, 351), (209, 358), (211, 365), (223, 372), (227, 379), (231, 386), (237, 393), (248, 400), (251, 407), (254, 414), (257, 421), (261, 428), (263, 435), (266, 442), (270, 449), (274, 456), (279, 463), (284, 470), (298, 512), (306, 538), (321, 571), (329, 578), (338, 585), (341, 592), (343, 599), (356, 606), (364, 613), (372, 620), (378, 627), (382, 634), (389, 641), (394, 648), (399, 653)]
def s0 : O := gd (Z "__name__" 165 (.str "law_thinwood_k54_behind_any_node" 971) :: tk gg 89) 90
def l0 : O := fun P => (.mk (.type "tuple") none (.seq #[] 0) #[])
def s1 : O := tb (tk tt 77)
def l1 : O := fun P => (.mk (.type "code") none (.fields #[(.str "<module>" 182), (.str "<module>" 183), (.str "/claim/cut.py" 184), (.int 1 0), (.int 0 0), (.int 0 0), (.int 0 0), (.int 0 0), (.ref 11), (.bool .false), (.int 181 0), (.ref 12), .none, .none, .none, .none, (.int 185 0), (.int 1 0), (.str "/claim/cut.py" 186)]) #[])
def l2 : O := fun P => (.mk (.type "frame") none .plain #[(some (.ref 13)), (some (.ref 3)), (some (.ref 3)), none, (some (.str "__main__" 164)), none, (some (.ref 0))])
def d1 : List O := h0 187 0 1 1 15 191 164 ["k"] "_wall" "__main__"
def l3 : O := fun P => (.mk (.type "tuple") none (.seq #[(.type "ValueError")] 0) #[])
def l4 : O := fun P => (.mk (.type "builtin_function_or_method") none (.fields #[(.builtin "type.__prepare__"), (.type "type")]) #[])
def l5 : O := fun P => (.mk (.type "dict") none (.dict #[(.mk (PyData.keyHash P "__module__") (.str "__module__" 203) (.str "thinwood.errors" 194)), (.mk (PyData.keyHash P "__qualname__") (.str "__qualname__" 205) (.str "WoodError" 204)), (.mk (PyData.keyHash P "__firstlineno__") (.str "__firstlineno__" 207) (.int 5 206)), (.mk (PyData.keyHash P "__static_attributes__") (.str "__static_attributes__" 208) (.ref 29))] 4) #[])
def l6 : O := fun P => (.mk .none none (.fields #[]) #[])
def l7 : O := fun P => (.mk (.type "code") none (.fields #[(.str "WoodError" 198), (.str "WoodError" 199), (.str "/claim/cut.py" 200), (.int 5 0), (.int 0 0), (.int 0 0), (.int 0 0), (.int 0 0), (.ref 25), (.bool .false), (.int 181 0), (.ref 26), .none, .none, .none, .none, (.int 201 0), (.int 5 0), (.str "/claim/cut.py" 202)]) #[])
def l8 : O := fun P => (.mk (.type "frame") none .plain #[(some (.ref 27)), (some (.ref 3)), (some (.ref 24)), none, (some (.str "thinwood.errors" 194)), none, (some (.ref 0))])
def l9 : O := fun P => (.mk (.type "dict") none (.dict #[(.mk (PyData.keyHash P "__module__") (.str "__module__" 203) (.str "thinwood.errors" 194)), (.mk (PyData.keyHash P "__firstlineno__") (.str "__firstlineno__" 207) (.int 5 206)), (.mk (PyData.keyHash P "__static_attributes__") (.str "__static_attributes__" 208) (.ref 29)), (.mk (PyData.keyHash P "__weakref__") (.str "__weakref__" 210) (.ref 32)), (.mk (PyData.keyHash P "__doc__") (.str "__doc__" 211) .none)] 3) #[])
def l10 : O := fun P => (.mk (.type "type") none (.cls (.mk "WoodError" [(.type "ValueError")] [(.ref 31), (.type "ValueError"), (.type "Exception"), (.type "BaseException"), (.type "object")] 30 "WoodError" .true [] [(.ref 44), (.ref 56), (.ref 68), (.ref 80), (.ref 92)] .false none .false)) #[(some (.ref 22)), none, (some (.str "WoodError" 196)), (some (.str "WoodError" 204)), (some (.builtin "ValueError.__new__")), (some (.bool .true))])
def l11 : O := fun P => (.mk (.type "getset_descriptor") none (.fields #[(.str "__weakref__" 209), (.ref 31), (.builtin "ExceptionGroup.__weakref__"), .none]) #[])
def l12 : O := fun P => (.mk (.type "super") none (.fields #[(.ref 31), (.ref 31), (.ref 31)]) #[])
def l13 : O := fun P => (.mk (.type "builtin_function_or_method") none (.fields #[(.builtin "object.__init_subclass__"), (.ref 31)]) #[])
def d3 : List O := h1 214 7 35 "TooMany"
def d4 : List O := h1 230 9 47 "NoBit"
def d5 : List O := h1 246 11 59 "NoPlace"
def d6 : List O := h1 262 13 71 "NoNode"
def d7 : List O := h1 278 15 83 "NoTree"
def d8 : List O := h2 11 300 20 1 95 294 "packed" "thinwood.blocks"
def d9 : List O := h0 306 12 23 1 100 311 294 ["bits", "bit"] "check_row" "thinwood.blocks"
def d10 : List O := h0 314 13 29 1 107 320 294 ["bits", "block", "bit"] "block_of" "thinwood.blocks"
def d11 : List O := h0 323 14 34 2 114 328 294 ["block", "k"] "bit_in" "thinwood.blocks"
def d12 : List O := h2 15 331 36 2 121 294 "bits_of" "thinwood.blocks"
def d13 : List O := h0 337 16 38 2 126 342 294 ["block", "upto"] "ones_in" "thinwood.blocks"
def d14 : List O := h0 345 17 40 2 133 353 294 ["block", "nth", "ones", "k", "bit"] "one_in" "thinwood.blocks"
def d15 : List O := h0 356 18 47 2 140 364 294 ["block", "upto", "nets", "net", "bit"] "nets_of" "thinwood.blocks"
def d16 : List O := h0 367 19 54 2 147 372 294 ["block", "upto"] "low_in" "thinwood.blocks"
def d17 : List O := h0 375 20 56 4 154 384 294 ["block", "start", "stop", "goal", "k", "net"] "first_low_in" "thinwood.blocks"
def d18 : List O := h0 387 21 61 4 161 397 294 ["block", "start", "stop", "goal", "found", "k", "net"] "last_low_in" "thinwood.blocks"
def d19 : List O := h0 404 24 69 1 168 411 400 ["numbers", "size", "nodes", "node"] "heap_of" "thinwood.heaps"
def d20 : List O := h0 414 25 77 1 175 419 400 ["many", "size"] "size_of" "thinwood.heaps"
def d21 : List O := h0 422 26 82 2 182 427 400 ["one", "other"] "lesser_of" "thinwood.heaps"
def d22 : List O := h0 430 27 88 4 189 438 400 ["many", "look", "start", "goal", "node"] "first_at_most" "thinwood.heaps"
def d23 : List O := h0 441 28 93 4 196 449 400 ["many", "look", "stop", "goal", "node"] "last_at_most" "thinwood.heaps"
def d24 : List O := h0 452 29 98 5 203 461 400 ["size", "look", "node", "goal", "side", "found"] "place_beneath" "thinwood.heaps"
def d25 : List O := h0 464 30 105 3 210 470 400 ["many", "start", "stop"] "check_stretch" "thinwood.heaps"
def d26 : List O := h0 473 31 108 3 217 484 400 ["many", "start", "stop", "size", "low", "high", "lefts", "rights"] "cover" "thinwood.heaps"
def d27 : List O := h0 489 33 126 1 224 494 487 ["bits", "blocks"] "kept_row" "thinwood.rows"
def d28 : List O := h0 497 34 129 1 231 503 487 ["blocks", "ahead", "block"] "ahead_of" "thinwood.rows"
def d29 : List O := h0 506 35 134 2 238 511 487 ["at", "most"] "check_place" "thinwood.rows"
def d30 : List O := h0 514 36 137 3 245 520 487 ["tables", "look", "at"] "bit_at" "thinwood.rows"
def d31 : List O := h0 523 37 140 3 252 533 487 ["tables", "look", "at", "many", "ahead", "number", "within"] "ones_at" "thinwood.rows"
def d32 : List O := h0 536 38 149 3 259 542 487 ["tables", "look", "at"] "noughts_at" "thinwood.rows"
def d33 : List O := h0 545 39 151 3 266 553 487 ["tables", "look", "nth", "ahead", "number"] "one_place" "thinwood.rows"
def d34 : List O := h2 40 556 156 3 273 487 "nought_place" "thinwood.rows"
def d35 : List O := h0 562 41 164 2 278 567 487 ["nth", "many"] "check_nth" "thinwood.rows"
def d36 : List O := h0 570 42 167 2 285 578 487 ["numbers", "goal", "low", "high", "middle"] "last_no_greater" "thinwood.rows"
def d37 : List O := h0 583 44 178 1 292 590 581 ["bits", "level", "at", "bit"] "is_tree" "thinwood.brackets"
def d38 : List O := h0 593 45 185 1 299 597 581 ["bits"] "check_brackets" "thinwood.brackets"
def d39 : List O := h2 46 600 189 1 306 581 "kept_brackets" "thinwood.brackets"
def d40 : List O := h0 606 47 196 3 311 612 581 ["tables", "number", "block"] "low_of" "thinwood.brackets"
def d41 : List O := h0 615 48 198 2 318 620 581 ["tables", "number"] "base_of" "thinwood.brackets"
def d42 : List O := h0 623 49 200 2 325 628 581 ["number", "at"] "start_within" "thinwood.brackets"
def d43 : List O := h0 631 50 202 2 332 636 581 ["number", "upto"] "end_within" "thinwood.brackets"
def d44 : List O := h0 639 51 204 1 339 643 581 ["tables"] "block_count" "thinwood.brackets"
def l14 : O := fun P => (.mk (.type "tuple") none (.seq #[(.str "tables" 649)] 0) #[])
def l15 : O := fun P => (.mk (.type "tuple") none (.seq #[(.str "nodes" 650)] 0) #[])
def l16 : O := fun P => (.mk .none none (.func (FuncData.mk "heap_look" "heap_look" (L2.defArgs (Tw.top 52)) (FuncBody.stmts (L2.defBody (Tw.top 52))) (L2.defScope (Tw.top 52)) 0 [] .none .none .none .none none .none .none 0)) #[])
def l17 : O := fun P => (.mk (.type "code") none (.fields #[(.str "heap_look" 646), (.str "heap_look" 647), (.str "/claim/cut.py" 648), (.int 206 0), (.int 1 0), (.int 0 0), (.int 0 0), (.int 3 0), (.ref 346), (.bool .true), (.int 181 0), (.ref 347), .none, (.ref 348), (.ref 349), (.ref 350), (.int 651 0), (.int 206 0), (.str "/claim/cut.py" 652)]) #[])
def l18 : O := fun P => (.mk (.type "function") none (.func (FuncData.mk "heap_look" "heap_look" (L2.defArgs (Tw.top 52)) (FuncBody.stmts (L2.defBody (Tw.top 52))) (L2.defScope (Tw.top 52)) 3 [] .none .none .none (.str "thinwood.brackets" 581) none (.ref 351) .none 0)) #[])
def d46 : List O := h0 654 53 209 3 353 660 581 ["tables", "look", "at"] "height" "thinwood.brackets"
def d47 : List O := h0 663 54 211 4 360 673 581 ["tables", "look", "at", "goal", "number", "found", "further"] "low_behind" "thinwood.brackets"
def d48 : List O := h0 676 55 223 5 367 686 581 ["tables", "look", "number", "at", "goal", "start", "stop"] "first_within" "thinwood.brackets"
def d49 : List O := h0 689 56 227 2 374 694 581 ["number", "within"] "place_of_bit" "thinwood.brackets"
def d50 : List O := h0 697 57 231 4 381 705 581 ["tables", "look", "at", "goal", "found"] "low_ahead" "thinwood.brackets"
def d51 : List O := h0 708 58 237 4 388 718 581 ["tables", "look", "upto", "goal", "number", "found", "further"] "last_low_upto" "thinwood.brackets"
def d52 : List O := h0 721 59 248 5 395 730 581 ["tables", "look", "number", "upto", "goal", "stop"] "last_within" "thinwood.brackets"
def d53 : List O := h0 733 60 251 4 402 740 581 ["tables", "look", "at", "bit"] "check_bracket" "thinwood.brackets"
def d54 : List O := h0 743 61 254 3 409 749 581 ["tables", "look", "at"] "closing" "thinwood.brackets"
def d55 : List O := h0 752 62 257 3 416 758 581 ["tables", "look", "at"] "opening" "thinwood.brackets"
def d56 : List O := h0 763 64 261 1 423 767 761 ["tables"] "node_count" "thinwood.trees"
def d57 : List O := h0 770 65 263 2 430 775 761 ["tables", "node"] "check_node" "thinwood.trees"
def d58 : List O := h0 778 66 266 3 437 784 761 ["tables", "look", "at"] "node_at" "thinwood.trees"
def d59 : List O := h0 787 67 270 3 444 793 761 ["tables", "look", "node"] "place_of" "thinwood.trees"
def d60 : List O := h0 798 69 274 2 451 803 796 ["tables", "node"] "next_number" "thinwood.walks"
def d61 : List O := h0 806 70 279 3 458 813 796 ["tables", "look", "at", "ahead"] "closed_from" "thinwood.walks"
def l19 : O := fun P => (.mk (.type "dict") none (.dict #[(.mk (PyData.keyHash P "__module__") (.str "__module__" 823) (.str "thinwood.walks" 796)), (.mk (PyData.keyHash P "__qualname__") (.str "__qualname__" 825) (.str "Walk" 824)), (.mk (PyData.keyHash P "__firstlineno__") (.str "__firstlineno__" 827) (.int 284 826)), (.mk (PyData.keyHash P "__init__") (.str "__init__" 836) (.ref 478)), (.mk (PyData.keyHash P "begin") (.str "begin" 843) (.ref 485)), (.mk (PyData.keyHash P "behind") (.str "behind" 851) (.ref 492)), (.mk (PyData.keyHash P "listed") (.str "listed" 858) (.ref 499)), (.mk (PyData.keyHash P "__static_attributes__") (.str "__static_attributes__" 861) (.ref 500))] 8) #[])
def l20 : O := fun P => (.mk .none none (.fields #[(.int 286 0), (.int 4 0), (.ref 477), (.int 290 0), (.int 4 0), (.ref 484), (.int 293 0), (.int 4 0), (.ref 491), (.int 296 0), (.int 4 0), (.ref 498)]) #[])
def l21 : O := fun P => (.mk (.type "code") none (.fields #[(.str "Walk" 818), (.str "Walk" 819), (.str "/claim/cut.py" 820), (.int 284 0), (.int 0 0), (.int 0 0), (.int 0 0), (.int 0 0), (.ref 468), (.bool .false), (.int 181 0), (.ref 469), .none, .none, .none, .none, (.int 821 0), (.int 284 0), (.str "/claim/cut.py" 822)]) #[])
def l22 : O := fun P => (.mk (.type "frame") none .plain #[(some (.ref 470)), (some (.ref 3)), (some (.ref 467)), none, (some (.str "thinwood.walks" 796)), none, (some (.ref 0))])
def d63 : List O := h3 828 71 0 286 3 472 834 ["self", "tables", "look"] "__init__" "Walk.__init__"
def d64 : List O := h3 837 71 1 290 1 479 841 ["self"] "begin" "Walk.begin"
def d65 : List O := h3 844 71 2 293 2 486 849 ["self", "node"] "behind" "Walk.behind"
def d66 : List O := h3 852 71 3 296 1 493 856 ["self"] "listed" "Walk.listed"
def l23 : O := fun P => (.mk (.type "tuple") none (.seq #[(.str "look" 859), (.str "tables" 860)] 0) #[])
def l24 : O := fun P => (.mk (.type "dict") none (.dict #[(.mk (PyData.keyHash P "__module__") (.str "__module__" 823) (.str "thinwood.walks" 796)), (.mk (PyData.keyHash P "__firstlineno__") (.str "__firstlineno__" 827) (.int 284 826)), (.mk (PyData.keyHash P "__init__") (.str "__init__" 836) (.ref 478)), (.mk (PyData.keyHash P "begin") (.str "begin" 843) (.ref 485)), (.mk (PyData.keyHash P "behind") (.str "behind" 851) (.ref 492)), (.mk (PyData.keyHash P "listed") (.str "listed" 858) (.ref 499)), (.mk (PyData.keyHash P "__static_attributes__") (.str "__static_attributes__" 861) (.ref 500)), (.mk (PyData.keyHash P "__dict__") (.str "__dict__" 863) (.ref 503)), (.mk (PyData.keyHash P "__weakref__") (.str "__weakref__" 865) (.ref 504)), (.mk (PyData.keyHash P "__doc__") (.str "__doc__" 866) .none)] 4) #[])
def l25 : O := fun P => (.mk (.type "type") none (.cls (.mk "Walk" [(.type "object")] [(.ref 502), (.type "object")] 501 "Walk" .true [] [(.ref 530), (.ref 563)] .false none .false)) #[none, none, (some (.str "Walk" 816)), (some (.str "Walk" 824)), (some (.builtin "object.__new__")), (some (.bool .true))])
def l26 : O := fun P => (.mk (.type "getset_descriptor") none (.fields #[(.str "__dict__" 862), (.ref 502), (.builtin "function.__dict__"), (.builtin "function.__dict__#set")]) #[])
def l27 : O := fun P => (.mk (.type "getset_descriptor") none (.fields #[(.str "__weakref__" 864), (.ref 502), (.builtin "ExceptionGroup.__weakref__"), .none]) #[])
def l28 : O := fun P => (.mk (.type "super") none (.fields #[(.ref 502), (.ref 502), (.ref 502)]) #[])
def l29 : O := fun P => (.mk (.type "builtin_function_or_method") none (.fields #[(.builtin "object.__init_subclass__"), (.ref 502)]) #[])
def l30 : O := fun P => (.mk (.type "tuple") none (.seq #[(.ref 502)] 0) #[])
def l31 : O := fun P => (.mk (.type "dict") none (.dict #[(.mk (PyData.keyHash P "__module__") (.str "__module__" 876) (.str "thinwood.walks" 796)), (.mk (PyData.keyHash P "__qualname__") (.str "__qualname__" 878) (.str "Late" 877)), (.mk (PyData.keyHash P "__firstlineno__") (.str "__firstlineno__" 880) (.int 298 879)), (.mk (PyData.keyHash P "begin") (.str "begin" 887) (.ref 520)), (.mk (PyData.keyHash P "behind") (.str "behind" 896) (.ref 527)), (.mk (PyData.keyHash P "__static_attributes__") (.str "__static_attributes__" 897) (.ref 528))] 6) #[])
def l32 : O := fun P => (.mk .none none (.fields #[(.int 300 0), (.int 4 0), (.ref 519), (.int 303 0), (.int 4 0), (.ref 526)]) #[])
def l33 : O := fun P => (.mk (.type "code") none (.fields #[(.str "Late" 871), (.str "Late" 872), (.str "/claim/cut.py" 873), (.int 298 0), (.int 0 0), (.int 0 0), (.int 0 0), (.int 0 0), (.ref 510), (.bool .false), (.int 181 0), (.ref 511), .none, .none, .none, .none, (.int 874 0), (.int 298 0), (.str "/claim/cut.py" 875)]) #[])
def l34 : O := fun P => (.mk (.type "frame") none .plain #[(some (.ref 512)), (some (.ref 3)), (some (.ref 509)), none, (some (.str "thinwood.walks" 796)), none, (some (.ref 0))])
def d68 : List O := h3 881 72 0 300 1 514 885 ["self"] "begin" "Late.begin"
def d69 : List O := h3 888 72 1 303 2 521 894 ["self", "node", "own"] "behind" "Late.behind"
def l35 : O := fun P => (.mk (.type "dict") none (.dict #[(.mk (PyData.keyHash P "__module__") (.str "__module__" 876) (.str "thinwood.walks" 796)), (.mk (PyData.keyHash P "__firstlineno__") (.str "__firstlineno__" 880) (.int 298 879)), (.mk (PyData.keyHash P "begin") (.str "begin" 887) (.ref 520)), (.mk (PyData.keyHash P "behind") (.str "behind" 896) (.ref 527)), (.mk (PyData.keyHash P "__static_attributes__") (.str "__static_attributes__" 897) (.ref 528)), (.mk (PyData.keyHash P "__doc__") (.str "__doc__" 898) .none)] 2) #[])
def l36 : O := fun P => (.mk (.type "type") none (.cls (.mk "Late" [(.ref 502)] [(.ref 530), (.ref 502), (.type "object")] 529 "Late" .true [] [] .false none .false)) #[(some (.ref 507)), none, (some (.str "Late" 869)), (some (.str "Late" 877)), (some (.builtin "object.__new__")), (some (.bool .true))])
def l37 : O := fun P => (.mk (.type "super") none (.fields #[(.ref 530), (.ref 530), (.ref 530)]) #[])
def l38 : O := fun P => (.mk (.type "builtin_function_or_method") none (.fields #[(.builtin "object.__init_subclass__"), (.ref 530)]) #[])
def l39 : O := fun P => (.mk (.type "dict") none (.dict #[(.mk (PyData.keyHash P "__module__") (.str "__module__" 908) (.str "thinwood.walks" 796)), (.mk (PyData.keyHash P "__qualname__") (.str "__qualname__" 910) (.str "Tips" 909)), (.mk (PyData.keyHash P "__firstlineno__") (.str "__firstlineno__" 912) (.int 306 911)), (.mk (PyData.keyHash P "begin") (.str "begin" 919) (.ref 546)), (.mk (PyData.keyHash P "behind") (.str "behind" 928) (.ref 553)), (.mk (PyData.keyHash P "tip_from") (.str "tip_from" 936) (.ref 560)), (.mk (PyData.keyHash P "__static_attributes__") (.str "__static_attributes__" 937) (.ref 561))] 7) #[])
def l40 : O := fun P => (.mk .none none (.fields #[(.int 308 0), (.int 4 0), (.ref 545), (.int 311 0), (.int 4 0), (.ref 552), (.int 317 0), (.int 4 0), (.ref 559)]) #[])
def l41 : O := fun P => (.mk (.type "code") none (.fields #[(.str "Tips" 903), (.str "Tips" 904), (.str "/claim/cut.py" 905), (.int 306 0), (.int 0 0), (.int 0 0), (.int 0 0), (.int 0 0), (.ref 536), (.bool .false), (.int 181 0), (.ref 537), .none, .none, .none, .none, (.int 906 0), (.int 306 0), (.str "/claim/cut.py" 907)]) #[])
def l42 : O := fun P => (.mk (.type "frame") none .plain #[(some (.ref 538)), (some (.ref 3)), (some (.ref 535)), none, (some (.str "thinwood.walks" 796)), none, (some (.ref 0))])
def d71 : List O := h3 913 73 0 308 1 540 917 ["self"] "begin" "Tips.begin"
def d72 : List O := h3 920 73 1 311 2 547 926 ["self", "node", "following"] "behind" "Tips.behind"
def d73 : List O := h3 929 73 2 317 2 554 934 ["self", "node"] "tip_from" "Tips.tip_from"
def l43 : O := fun P => (.mk (.type "dict") none (.dict #[(.mk (PyData.keyHash P "__module__") (.str "__module__" 908) (.str "thinwood.walks" 796)), (.mk (PyData.keyHash P "__firstlineno__") (.str "__firstlineno__" 912) (.int 306 911)), (.mk (PyData.keyHash P "begin") (.str "begin" 919) (.ref 546)), (.mk (PyData.keyHash P "behind") (.str "behind" 928) (.ref 553)), (.mk (PyData.keyHash P "tip_from") (.str "tip_from" 936) (.ref 560)), (.mk (PyData.keyHash P "__static_attributes__") (.str "__static_attributes__" 937) (.ref 561)), (.mk (PyData.keyHash P "__doc__") (.str "__doc__" 938) .none)] 2) #[])
def l44 : O := fun P => (.mk (.type "type") none (.cls (.mk "Tips" [(.ref 502)] [(.ref 563), (.ref 502), (.type "object")] 562 "Tips" .true [] [] .false none .false)) #[(some (.ref 533)), none, (some (.str "Tips" 901)), (some (.str "Tips" 909)), (some (.builtin "object.__new__")), (some (.bool .true))])
def l45 : O := fun P => (.mk (.type "super") none (.fields #[(.ref 563), (.ref 563), (.ref 563)]) #[])
def l46 : O := fun P => (.mk (.type "builtin_function_or_method") none (.fields #[(.builtin "object.__init_subclass__"), (.ref 563)]) #[])
def d75 : List O := h0 945 76 321 1 566 951 941 ["depths", "ahead", "depth"] "check_depths" "thinwood.shapes"
def d76 : List O := h0 954 77 329 1 573 961 941 ["depths", "bits", "unclosed", "depth"] "brackets_of" "thinwood.shapes"
def d77 : List O := h0 964 78 338 1 580 968 941 ["depths"] "kept_tree" "thinwood.shapes"
def d78 : List O := h0 973 80 341 1 587 977 971 ["_law_found"] "_law_whole" "law_thinwood_k54_behind_any_node"
def d79 : List O := h0 980 81 343 2 594 991 971 ["_law_script", "_law_most", "_law_depths_here", "_law_cell", "_law_number", "_law_deep", "_law_many", "_law_k"] "_law_depths" "law_thinwood_k54_behind_any_node"
def d80 : List O := h0 994 82 356 1 601 1001 971 ["_law_depths_here", "_law_row", "_law_path", "_law_node"] "_law_late" "law_thinwood_k54_behind_any_node"
def l47 : O := fun P => (.mk (.type "tuple") none (.seq #[(.str "_law_blocks" 1007), (.str "_law_seen" 1008), (.str "_law_told" 1009)] 0) #[])
def l48 : O := fun P => (.mk (.type "tuple") none (.seq #[(.str "_law_blocks" 1010), (.str "_law_seen" 1011)] 0) #[])
def l49 : O := fun P => (.mk .none none (.func (FuncData.mk "_law_look" "_law_look" (L2.defArgs (Tw.top 83)) (FuncBody.stmts (L2.defBody (Tw.top 83))) (L2.defScope (Tw.top 83)) 0 [] .none .none .none .none none .none .none 0)) #[])
def l50 : O := fun P => (.mk (.type "code") none (.fields #[(.str "_law_look" 1004), (.str "_law_look" 1005), (.str "/claim/cut.py" 1006), (.int 364 0), (.int 2 0), (.int 0 0), (.int 0 0), (.int 3 0), (.ref 608), (.bool .true), (.int 181 0), (.ref 609), .none, (.ref 610), (.ref 611), (.ref 612), (.int 1012 0), (.int 364 0), (.str "/claim/cut.py" 1013)]) #[])
def l51 : O := fun P => (.mk (.type "function") none (.func (FuncData.mk "_law_look" "_law_look" (L2.defArgs (Tw.top 83)) (FuncBody.stmts (L2.defBody (Tw.top 83))) (L2.defScope (Tw.top 83)) 3 [] .none .none .none (.str "law_thinwood_k54_behind_any_node" 971) none (.ref 613) .none 0)) #[])
def d82 : List O := h0 1015 84 372 2 615 1021 971 ["_law_seen", "_law_size", "_law_number"] "_law_there" "law_thinwood_k54_behind_any_node"
def d83 : List O := h0 1024 85 378 2 622 1029 971 ["_law_found", "_law_due_here"] "_law_due" "law_thinwood_k54_behind_any_node"
def d84 : List O := h0 1032 86 382 2 629 1039 971 ["_law_walk", "_law_node", "_law_told_here", "e"] "_law_refused" "law_thinwood_k54_behind_any_node"
def d85 : List O := h0 1042 87 389 2 636 1048 971 ["_law_row", "_law_node", "_law_at"] "_law_next" "law_thinwood_k54_behind_any_node"
def d86 : List O := h0 1051 88 394 2 643 1057 971 ["_law_depths_here", "_law_node", "_law_other"] "_law_tip" "law_thinwood_k54_behind_any_node"
def d87 : List O := h2 89 1060 399 1 650 971 "law" "law_thinwood_k54_behind_any_node"
def f0 : List O := ap [PySem.W.boot_o_0, PySem.W.boot_o_1, PySem.W.boot_o_2, s0, PySem.W.boot_o_4, PySem.W.boot_o_5, PySem.W.boot_o_6, PySem.W.boot_o_7, PySem.W.boot_o_8, PySem.W.boot_o_9, PySem.W.boot_o_10, l0, s1, l1, l2] (ap d1 (ap [l3, l4, l5, l0, l6, l7, l8, l0, l9, l10, l11, l12, l13] (ap d3 (ap d4 (ap d5 (ap d6 (ap d7 (ap d8 (d9)))))))))
def f1 : List O := ap d10 (ap d11 (ap d12 (ap d13 (ap d14 (ap d15 (ap d16 (ap d17 (ap d18 (d19)))))))))
def f2 : List O := ap d20 (ap d21 (ap d22 (ap d23 (ap d24 (ap d25 (ap d26 (ap d27 (ap d28 (d29)))))))))
def f3 : List O := ap d30 (ap d31 (ap d32 (ap d33 (ap d34 (ap d35 (ap d36 (ap d37 (ap d38 (d39)))))))))
def f4 : List O := ap d40 (ap d41 (ap d42 (ap d43 (ap d44 (ap [l0, l6, l14, l15, l16, l17, l18] (ap d46 (ap d47 (ap d48 (d49)))))))))
def f5 : List O := ap d50 (ap d51 (ap d52 (ap d53 (ap d54 (ap d55 (ap d56 (ap d57 (ap d58 (d59)))))))))
def f6 : List O := ap d60 (ap d61 (ap [l0, l4, l19, l0, l20, l21, l22] (ap d63 (ap d64 (ap d65 (ap d66 (ap [l23, l24, l25, l26, l27, l28, l29, l30, l4, l31, l0, l32, l33, l34] (ap d68 (d69)))))))))
def f7 : List O := ap [l0, l35, l36, l37, l38, l30, l4, l39, l0, l40, l41, l42] (ap d71 (ap d72 (ap d73 (ap [l0, l43, l44, l45, l46] (ap d75 (ap d76 (ap d77 (ap d78 (d79)))))))))
def f8 : List O := ap d80 (ap [l0, l6, l47, l48, l49, l50, l51] (ap d82 (ap d83 (ap d84 (ap d85 (ap d86 (d87)))))))
def ff : List O := ap f0 (ap f1 (ap f2 (ap f3 (ap f4 (ap f5 (ap f6 (ap f7 (f8))))))))
def s2 : O := gd (Z "__name__" 165 (.str "thinwood.errors" 194) :: tk gg 10) 11
def s3 : O := tb (tk tt 2)
def l52 : O := fun P => (.mk (.type "type") none (.cls (.mk "WoodError" [(.type "ValueError")] [(.ref 31), (.type "ValueError"), (.type "Exception"), (.type "BaseException"), (.type "object")] 30 "WoodError" .true [] [] .false none .false)) #[(some (.ref 22)), none, (some (.str "WoodError" 196)), (some (.str "WoodError" 204)), (some (.builtin "ValueError.__new__")), (some (.bool .true))])
def S_tree_70 : Params → PySem.W.BT := fun P => bt 7 (mp (fun x => x P) (ov (tk ff 35) [(3, s2), (8, s3), (18, l52)]))
def s4 : O := gd (Z "__name__" 165 (.str "thinwood.errors" 194) :: tk gg 11) 12
def s5 : O := tb (tk tt 3)
def l53 : O := fun P => (.mk (.type "type") none (.cls (.mk "WoodError" [(.type "ValueError")] [(.ref 31), (.type "ValueError"), (.type "Exception"), (.type "BaseException"), (.type "object")] 30 "WoodError" .true [] [(.ref 44)] .false none .false)) #[(some (.ref 22)), none, (some (.str "WoodError" 196)), (some (.str "WoodError" 204)), (some (.builtin "ValueError.__new__")), (some (.bool .true))])
def S_tree_85 : Params → PySem.W.BT := fun P => bt 7 (mp (fun x => x P) (ov (tk ff 47) [(3, s4), (8, s5), (18, l53)]))
def s6 : O := gd (Z "__name__" 165 (.str "thinwood.errors" 194) :: tk gg 12) 13
def s7 : O := tb (tk tt 4)
def l54 : O := fun P => (.mk (.type "type") none (.cls (.mk "WoodError" [(.type "ValueError")] [(.ref 31), (.type "ValueError"), (.type "Exception"), (.type "BaseException"), (.type "object")] 30 "WoodError" .true [] [(.ref 44), (.ref 56)] .false none .false)) #[(some (.ref 22)), none, (some (.str "WoodError" 196)), (some (.str "WoodError" 204)), (some (.builtin "ValueError.__new__")), (some (.bool .true))])
def S_tree_100 : Params → PySem.W.BT := fun P => bt 7 (mp (fun x => x P) (ov (tk ff 59) [(3, s6), (8, s7), (18, l54)]))
def s8 : O := gd (Z "__name__" 165 (.str "thinwood.errors" 194) :: tk gg 13) 14
def s9 : O := tb (tk tt 5)
def l55 : O := fun P => (.mk (.type "type") none (.cls (.mk "WoodError" [(.type "ValueError")] [(.ref 31), (.type "ValueError"), (.type "Exception"), (.type "BaseException"), (.type "object")] 30 "WoodError" .true [] [(.ref 44), (.ref 56), (.ref 68)] .false none .false)) #[(some (.ref 22)), none, (some (.str "WoodError" 196)), (some (.str "WoodError" 204)), (some (.builtin "ValueError.__new__")), (some (.bool .true))])
def S_tree_115 : Params → PySem.W.BT := fun P => bt 8 (mp (fun x => x P) (ov (tk ff 71) [(3, s8), (8, s9), (18, l55)]))
def s10 : O := gd (Z "__name__" 165 (.str "thinwood.errors" 194) :: tk gg 14) 15
def s11 : O := tb (tk tt 6)
def l56 : O := fun P => (.mk (.type "type") none (.cls (.mk "WoodError" [(.type "ValueError")] [(.ref 31), (.type "ValueError"), (.type "Exception"), (.type "BaseException"), (.type "object")] 30 "WoodError" .true [] [(.ref 44), (.ref 56), (.ref 68), (.ref 80)] .false none .false)) #[(some (.ref 22)), none, (some (.str "WoodError" 196)), (some (.str "WoodError" 204)), (some (.builtin "ValueError.__new__")), (some (.bool .true))])
def S_tree_130 : Params → PySem.W.BT := fun P => bt 8 (mp (fun x => x P) (ov (tk ff 83) [(3, s10), (8, s11), (18, l56)]))
def s12 : O := gd (Z "__name__" 165 (.str "thinwood.blocks" 294) :: tk gg 22) 23
def s13 : O := tb (tk tt 12)
def S_tree_176 : Params → PySem.W.BT := fun P => bt 8 (mp (fun x => x P) (ov (tk ff 126) [(3, s12), (8, s13)]))
def s14 : O := gd (Z "__name__" 165 (.str "thinwood.heaps" 400) :: tk gg 34) 35
def s15 : O := tb (tk tt 23)
def S_tree_255 : Params → PySem.W.BT := fun P => bt 9 (mp (fun x => x P) (ov (tk ff 203) [(3, s14), (8, s15)]))
def s16 : O := gd (Z "__name__" 165 (.str "thinwood.rows" 487) :: tk gg 46) 47
def s17 : O := tb (tk tt 35)
def S_tree_339 : Params → PySem.W.BT := fun P => bt 10 (mp (fun x => x P) (ov (tk ff 285) [(3, s16), (8, s17)]))
def s18 : O := gd (Z "__name__" 165 (.str "thinwood.brackets" 581) :: tk gg 58) 59
def s19 : O := tb (tk tt 47)
def S_tree_423 : Params → PySem.W.BT := fun P => bt 10 (mp (fun x => x P) (ov (tk ff 367) [(3, s18), (8, s19)]))
def s20 : O := gd (Z "__name__" 165 (.str "thinwood.walks" 796) :: tk gg 70) 71
def s21 : O := tb (tk tt 59)
def S_tree_509 : Params → PySem.W.BT := fun P => bt 10 (mp (fun x => x P) (ov (tk ff 451) [(3, s20), (8, s21)]))
def s22 : O := gd (Z "__name__" 165 (.str "thinwood.walks" 796) :: tk gg 73) 74
def s23 : O := tb (tk tt 62)
def l57 : O := fun P => (.mk (.type "type") none (.cls (.mk "Walk" [(.type "object")] [(.ref 502), (.type "object")] 501 "Walk" .true [] [] .false none .false)) #[none, none, (some (.str "Walk" 816)), (some (.str "Walk" 824)), (some (.builtin "object.__new__")), (some (.bool .true))])
def S_tree_567 : Params → PySem.W.BT := fun P => bt 10 (mp (fun x => x P) (ov (tk ff 507) [(3, s22), (8, s23), (489, l57)]))
def s24 : O := gd (Z "__name__" 165 (.str "thinwood.walks" 796) :: tk gg 74) 75
def s25 : O := tb (tk tt 63)
def l58 : O := fun P => (.mk (.type "type") none (.cls (.mk "Walk" [(.type "object")] [(.ref 502), (.type "object")] 501 "Walk" .true [] [(.ref 530)] .false none .false)) #[none, none, (some (.str "Walk" 816)), (some (.str "Walk" 824)), (some (.builtin "object.__new__")), (some (.bool .true))])
def S_tree_596 : Params → PySem.W.BT := fun P => bt 11 (mp (fun x => x P) (ov (tk ff 533) [(3, s24), (8, s25), (489, l58)]))
def s26 : O := gd (Z "__name__" 165 (.str "thinwood.shapes" 941) :: tk gg 78) 79
def s27 : O := tb (tk tt 66)
def S_tree_646 : Params → PySem.W.BT := fun P => bt 11 (mp (fun x => x P) (ov (tk ff 580) [(3, s26), (8, s27)]))
def S_tree_723 : Params → PySem.W.BT := fun P => bt 11 (mp (fun x => x P) (ff))
def S_heap_724 : Params → Heap := fun P => Heap.mk (Array.mk (mp (fun x => x P) (ff))) (.mk [] [] [] 0 [] [] .false #[] [] 0 .false .false .false 0 [2000, 10, 10] .false 0 .true [] [] 0 .false)
def S_sts_49 : List Stmt := tk (List.drop 0 PySem.Challenge.pw_thinwood_k54_behind_any_node.main.body) 3
def S_sts_71 : List Stmt := tk (List.drop 3 PySem.Challenge.pw_thinwood_k54_behind_any_node.main.body) 1
def S_sts_86 : List Stmt := tk (List.drop 4 PySem.Challenge.pw_thinwood_k54_behind_any_node.main.body) 1
def S_sts_101 : List Stmt := tk (List.drop 5 PySem.Challenge.pw_thinwood_k54_behind_any_node.main.body) 1
def S_sts_116 : List Stmt := tk (List.drop 6 PySem.Challenge.pw_thinwood_k54_behind_any_node.main.body) 1
def S_sts_131 : List Stmt := tk (List.drop 7 PySem.Challenge.pw_thinwood_k54_behind_any_node.main.body) 9
def S_sts_177 : List Stmt := tk (List.drop 16 PySem.Challenge.pw_thinwood_k54_behind_any_node.main.body) 13
def S_sts_256 : List Stmt := tk (List.drop 29 PySem.Challenge.pw_thinwood_k54_behind_any_node.main.body) 13
def S_sts_340 : List Stmt := tk (List.drop 42 PySem.Challenge.pw_thinwood_k54_behind_any_node.main.body) 13
def S_sts_424 : List Stmt := tk (List.drop 55 PySem.Challenge.pw_thinwood_k54_behind_any_node.main.body) 14
def S_sts_510 : List Stmt := tk (List.drop 69 PySem.Challenge.pw_thinwood_k54_behind_any_node.main.body) 3
def S_sts_568 : List Stmt := tk (List.drop 72 PySem.Challenge.pw_thinwood_k54_behind_any_node.main.body) 1
def S_sts_597 : List Stmt := tk (List.drop 73 PySem.Challenge.pw_thinwood_k54_behind_any_node.main.body) 5
def S_sts_647 : List Stmt := tk (List.drop 78 PySem.Challenge.pw_thinwood_k54_behind_any_node.main.body) 12
def S_view : Program := { PySem.Challenge.pw_thinwood_k54_behind_any_node with main := { PySem.Challenge.pw_thinwood_k54_behind_any_node.main with body := mp Tw.top [0, 2, 3, 4, 5, 6, 7, 9, 10, 11, 12, 13, 14, 15, 16, 17, 18, 19, 20, 21, 23, 24, 25, 26, 27, 28, 29, 30, 31, 33, 34, 35, 36, 37, 38, 39, 40, 41, 42, 44, 45, 46, 47, 48, 49, 50, 51, 52, 53, 54, 55, 56, 57, 58, 59, 60, 61, 62, 64, 65, 66, 67, 69, 70, 71, 72, 73, 75, 76, 77, 78, 80, 81, 82, 83, 84, 85, 86, 87, 88, 89] } }
end
end Tp
theorem PySem.W.Fast.tw14598715356260435866 : True := trivial
lay_quick Tp.g0 Tp.g1 Tp.g2 Tp.g3 Tp.g4 Tp.g5 Tp.g6 Tp.g7 Tp.g8 Tp.gg Tp.s0 Tp.l0 Tp.s1 Tp.l1 Tp.l2 Tp.d1 Tp.l3 Tp.l4 Tp.l5 Tp.l6 Tp.l7 Tp.l8 Tp.l9 Tp.l10 Tp.l11 Tp.l12 Tp.l13 Tp.d3 Tp.d4 Tp.d5 Tp.d6 Tp.d7 Tp.d8 Tp.d9 Tp.d10 Tp.d11 Tp.d12 Tp.d13 Tp.d14 Tp.d15
lay_quick Tp.d16 Tp.d17 Tp.d18 Tp.d19 Tp.d20 Tp.d21 Tp.d22 Tp.d23 Tp.d24 Tp.d25 Tp.d26 Tp.d27 Tp.d28 Tp.d29 Tp.d30 Tp.d31 Tp.d32 Tp.d33 Tp.d34 Tp.d35 Tp.d36 Tp.d37 Tp.d38 Tp.d39 Tp.d40 Tp.d41 Tp.d42 Tp.d43 Tp.d44 Tp.l14 Tp.l15 Tp.l16 Tp.l17 Tp.l18 Tp.d46 Tp.d47 Tp.d48 Tp.d49 Tp.d50 Tp.d51
lay_quick Tp.d52 Tp.d53 Tp.d54 Tp.d55 Tp.d56 Tp.d57 Tp.d58 Tp.d59 Tp.d60 Tp.d61 Tp.l19 Tp.l20 Tp.l21 Tp.l22 Tp.d63 Tp.d64 Tp.d65 Tp.d66 Tp.l23 Tp.l24 Tp.l25 Tp.l26 Tp.l27 Tp.l28 Tp.l29 Tp.l30 Tp.l31 Tp.l32 Tp.l33 Tp.l34 Tp.d68 Tp.d69 Tp.l35 Tp.l36 Tp.l37 Tp.l38 Tp.l39 Tp.l40 Tp.l41 Tp.l42
lay_quick Tp.d71 Tp.d72 Tp.d73 Tp.l43 Tp.l44 Tp.l45 Tp.l46 Tp.d75 Tp.d76 Tp.d77 Tp.d78 Tp.d79 Tp.d80 Tp.l47 Tp.l48 Tp.l49 Tp.l50 Tp.l51 Tp.d82 Tp.d83 Tp.d84 Tp.d85 Tp.d86 Tp.d87 Tp.f0 Tp.f1 Tp.f2 Tp.f3 Tp.f4 Tp.f5 Tp.f6 Tp.f7 Tp.f8 Tp.ff Tp.s2 Tp.s3 Tp.l52 Tp.S_tree_70 Tp.s4 Tp.s5
lay_quick Tp.l53 Tp.S_tree_85 Tp.s6 Tp.s7 Tp.l54 Tp.S_tree_100 Tp.s8 Tp.s9 Tp.l55 Tp.S_tree_115 Tp.s10 Tp.s11 Tp.l56 Tp.S_tree_130 Tp.s12 Tp.s13 Tp.S_tree_176 Tp.s14 Tp.s15 Tp.S_tree_255 Tp.s16 Tp.s17 Tp.S_tree_339 Tp.s18 Tp.s19 Tp.S_tree_423 Tp.s20 Tp.s21 Tp.S_tree_509 Tp.s22 Tp.s23 Tp.l57 Tp.S_tree_567 Tp.s24 Tp.s25 Tp.l58 Tp.S_tree_596 Tp.s26 Tp.s27 Tp.S_tree_646
lay_quick Tp.S_tree_723 Tp.S_heap_724 Tp.S_sts_49 Tp.S_sts_71 Tp.S_sts_86 Tp.S_sts_101 Tp.S_sts_116 Tp.S_sts_131 Tp.S_sts_177 Tp.S_sts_256 Tp.S_sts_340 Tp.S_sts_424 Tp.S_sts_510 Tp.S_sts_568 Tp.S_sts_597 Tp.S_sts_647 Tp.S_view
namespace Tp
open PySem PySem.W.Fast
noncomputable abbrev _root_.PySem.W.Fast.tw18413897286418965339 : Params → PySem.W.BT := tw14214130581899219458
theorem _root_.PySem.W.Fast.te18413897286418965339 : S_tree_70 = _root_.PySem.W.Fast.tw18413897286418965339 := te14214130581899219458
noncomputable abbrev _root_.PySem.W.Fast.tw10343787881848624742 : Params → PySem.W.BT := tw1462872556423308429
theorem _root_.PySem.W.Fast.te10343787881848624742 : S_tree_85 = _root_.PySem.W.Fast.tw10343787881848624742 := te1462872556423308429
noncomputable abbrev _root_.PySem.W.Fast.tw8931840133263930061 : Params → PySem.W.BT := tw10336504809818464900
theorem _root_.PySem.W.Fast.te8931840133263930061 : S_tree_100 = _root_.PySem.W.Fast.tw8931840133263930061 := te10336504809818464900
noncomputable abbrev _root_.PySem.W.Fast.tw14233850981791947918 : Params → PySem.W.BT := tw17198967476109506446
theorem _root_.PySem.W.Fast.te14233850981791947918 : S_tree_115 = _root_.PySem.W.Fast.tw14233850981791947918 := te17198967476109506446
noncomputable abbrev _root_.PySem.W.Fast.tw12766663012245210871 : Params → PySem.W.BT := tw11811930008104136036
theorem _root_.PySem.W.Fast.te12766663012245210871 : S_tree_130 = _root_.PySem.W.Fast.tw12766663012245210871 := te11811930008104136036
noncomputable abbrev _root_.PySem.W.Fast.tw15358186791183293296 : Params → PySem.W.BT := tw7956579504458452167
theorem _root_.PySem.W.Fast.te15358186791183293296 : S_tree_176 = _root_.PySem.W.Fast.tw15358186791183293296 := te7956579504458452167
noncomputable abbrev _root_.PySem.W.Fast.tw17171431265315631195 : Params → PySem.W.BT := tw2849194822850438242
theorem _root_.PySem.W.Fast.te17171431265315631195 : S_tree_255 = _root_.PySem.W.Fast.tw17171431265315631195 := te2849194822850438242
noncomputable abbrev _root_.PySem.W.Fast.tw5637618055237950684 : Params → PySem.W.BT := tw5312374799184676935
theorem _root_.PySem.W.Fast.te5637618055237950684 : S_tree_339 = _root_.PySem.W.Fast.tw5637618055237950684 := te5312374799184676935
noncomputable abbrev _root_.PySem.W.Fast.tw3304775194182707907 : Params → PySem.W.BT := tw620658560588564710
theorem _root_.PySem.W.Fast.te3304775194182707907 : S_tree_423 = _root_.PySem.W.Fast.tw3304775194182707907 := te620658560588564710
noncomputable abbrev _root_.PySem.W.Fast.tw7176999104880100273 : Params → PySem.W.BT := tw11722297060974542024
theorem _root_.PySem.W.Fast.te7176999104880100273 : S_tree_509 = _root_.PySem.W.Fast.tw7176999104880100273 := te11722297060974542024
noncomputable abbrev _root_.PySem.W.Fast.tw6320116917351644795 : Params → PySem.W.BT := tw8453556756388061558
theorem _root_.PySem.W.Fast.te6320116917351644795 : S_tree_567 = _root_.PySem.W.Fast.tw6320116917351644795 := te8453556756388061558
noncomputable abbrev _root_.PySem.W.Fast.tw11747291677654075284 : Params → PySem.W.BT := tw7964866342956356581
theorem _root_.PySem.W.Fast.te11747291677654075284 : S_tree_596 = _root_.PySem.W.Fast.tw11747291677654075284 := te7964866342956356581
noncomputable abbrev _root_.PySem.W.Fast.tw6375865612182012413 : Params → PySem.W.BT := tw9482566392023955127
theorem _root_.PySem.W.Fast.te6375865612182012413 : S_tree_646 = _root_.PySem.W.Fast.tw6375865612182012413 := te9482566392023955127
noncomputable abbrev _root_.PySem.W.Fast.tw2571647203070321383 : Params → PySem.W.BT := tw5972573062002413781
theorem _root_.PySem.W.Fast.te2571647203070321383 : S_tree_723 = _root_.PySem.W.Fast.tw2571647203070321383 := te5972573062002413781
noncomputable abbrev _root_.PySem.W.Fast.tw8823999408020762928 : Params → Heap := tw6516267808835723968
theorem _root_.PySem.W.Fast.te8823999408020762928 : S_heap_724 = _root_.PySem.W.Fast.tw8823999408020762928 := te6516267808835723968
noncomputable abbrev _root_.PySem.W.Fast.tw1547605943542478630 : List Stmt := tw666750322614274432
theorem _root_.PySem.W.Fast.te1547605943542478630 : S_sts_49 = _root_.PySem.W.Fast.tw1547605943542478630 := te666750322614274432
noncomputable abbrev _root_.PySem.W.Fast.tw3986602806843421390 : List Stmt := tw2773697916358693943
theorem _root_.PySem.W.Fast.te3986602806843421390 : S_sts_71 = _root_.PySem.W.Fast.tw3986602806843421390 := te2773697916358693943
noncomputable abbrev _root_.PySem.W.Fast.tw11978726560200861803 : List Stmt := tw14279870534025624394
theorem _root_.PySem.W.Fast.te11978726560200861803 : S_sts_86 = _root_.PySem.W.Fast.tw11978726560200861803 := te14279870534025624394
noncomputable abbrev _root_.PySem.W.Fast.tw13262342987008094234 : List Stmt := tw3151006196638662265
theorem _root_.PySem.W.Fast.te13262342987008094234 : S_sts_101 = _root_.PySem.W.Fast.tw13262342987008094234 := te3151006196638662265
noncomputable abbrev _root_.PySem.W.Fast.tw7226161285053394756 : List Stmt := tw2585414788117322289
theorem _root_.PySem.W.Fast.te7226161285053394756 : S_sts_116 = _root_.PySem.W.Fast.tw7226161285053394756 := te2585414788117322289
noncomputable abbrev _root_.PySem.W.Fast.tw8146748429054315959 : List Stmt := tw13329466766121000731
theorem _root_.PySem.W.Fast.te8146748429054315959 : S_sts_131 = _root_.PySem.W.Fast.tw8146748429054315959 := te13329466766121000731
noncomputable abbrev _root_.PySem.W.Fast.tw18011415436967639112 : List Stmt := tw13732552982790774252
theorem _root_.PySem.W.Fast.te18011415436967639112 : S_sts_177 = _root_.PySem.W.Fast.tw18011415436967639112 := te13732552982790774252
noncomputable abbrev _root_.PySem.W.Fast.tw4491648327243018102 : List Stmt := tw9279019274243665172
theorem _root_.PySem.W.Fast.te4491648327243018102 : S_sts_256 = _root_.PySem.W.Fast.tw4491648327243018102 := te9279019274243665172
noncomputable abbrev _root_.PySem.W.Fast.tw6416475081607432131 : List Stmt := tw3079395755316863758
theorem _root_.PySem.W.Fast.te6416475081607432131 : S_sts_340 = _root_.PySem.W.Fast.tw6416475081607432131 := te3079395755316863758
noncomputable abbrev _root_.PySem.W.Fast.tw11011724000221650735 : List Stmt := tw17017011731293446826
theorem _root_.PySem.W.Fast.te11011724000221650735 : S_sts_424 = _root_.PySem.W.Fast.tw11011724000221650735 := te17017011731293446826
noncomputable abbrev _root_.PySem.W.Fast.tw11421012828660222692 : List Stmt := tw10560306268292143933
theorem _root_.PySem.W.Fast.te11421012828660222692 : S_sts_510 = _root_.PySem.W.Fast.tw11421012828660222692 := te10560306268292143933
noncomputable abbrev _root_.PySem.W.Fast.tw18013436766299367488 : List Stmt := tw15106447290543451172
theorem _root_.PySem.W.Fast.te18013436766299367488 : S_sts_568 = _root_.PySem.W.Fast.tw18013436766299367488 := te15106447290543451172
noncomputable abbrev _root_.PySem.W.Fast.tw13381621283327817360 : List Stmt := tw16811338268549039179
theorem _root_.PySem.W.Fast.te13381621283327817360 : S_sts_597 = _root_.PySem.W.Fast.tw13381621283327817360 := te16811338268549039179
noncomputable abbrev _root_.PySem.W.Fast.tw10790975209951446429 : List Stmt := tw7806739277502537436
theorem _root_.PySem.W.Fast.te10790975209951446429 : S_sts_647 = _root_.PySem.W.Fast.tw10790975209951446429 := te7806739277502537436
noncomputable abbrev _root_.PySem.W.Fast.tw3628987761901813442 : Program := tw11325136443342628617
theorem _root_.PySem.W.Fast.te3628987761901813442 : S_view = _root_.PySem.W.Fast.tw3628987761901813442 := te11325136443342628617
theorem _root_.PySem.W.Fast.te15581418169490663783 : True := trivial
end Tp
open PySem PySem.W PyProof.Rows
set_option maxRecDepth 100000 in
set_option maxHeartbeats 0 in
theorem PySem.Challenge.cw_thinwood_k54_behind_any_node_holds : PySem.Challenge.rw_thinwood_k54_behind_any_node.Holds := by
 w_on; o_law; k_head; (case hw => w_witness2)
 k_fill
 refine L2.zT (l := PySem.Challenge.rw_thinwood_k54_behind_any_node) (n := 63) (k := 14) (x := "_law_script") rfl (by decide) rfl ⟨rfl, by decide, by decide⟩ (fun w h Y => PySem.W.km_in_of Y) ?F
 case F =>
  intro w mg mb mean fa h KX TT hmg
  refine' Tw.Eg KX TT hmg ?d0 ?d1 ?d2 ?d3 ?d4 ?d5 ?d6 ?d7 ?d8 ?d9 ?d10 ?d11 ?d12 ?d13 ?d14 ?d15 ?d16 ?d17 ?d18 ?d19 ?d20 ?d21 ?d22 ?d23 ?d24 ?d25 ?d26 ?d27 ?d28 ?d29 ?d30 ?d31 ?d32 ?d33 ?d34 ?d35 ?d36 ?d37 ?a38 ?l38 ?c38 ?k38 ?tl_heap_look ?tp_heap_look ?tr_heap_look ?d39 ?d40 ?d41 ?d42 ?d43 ?d44 ?d45 ?d46 ?d47 ?d48 ?d49 ?d50 ?d51 ?d52 ?d53 ?d54 ?dm55 ?dm56 ?dm57 ?dm58 ?dm59 ?d60 ?d61 ?d62 ?d63 ?d64 ?d65 ?a66 ?l66 ?c66 ?k66 ?tl_law_look ?tp_law_look ?tr_law_look ?d67 ?d68 ?d69 ?d70 ?d71 ?d72 ?z_bool ?z_enumerate ?z_int ?z_isinstance ?z_len ?z_list ?z_max ?z_min ?z_range ?z_reversed ?z_sum ?z_tuple ?z_zip ?g_BLOCK_BITS ?g_MOST_BITS ?g_MOST_NODES ?g_MOST_NUMBERS ?q_Late ?q_NoNode ?q_NoPlace ?q_Tips ?q_Walk ?q_WoodError ?ex_NoNode ?ed_NoNode ?ega_NoNode ?eng_NoNode ?ecl_NoNode ?egt_NoNode ?etk_NoNode ?emo_NoNode ?emb_NoNode ?i_NoNode_Late ?i_NoNode_NoNode ?i_NoNode_NoPlace ?i_NoNode_Tips ?i_NoNode_Walk ?i_NoNode_WoodError ?i_NoNode_ValueError ?cl_Late ?cl_Tips ?cl_Walk ?na_Late_look ?na_Late_tables ?na_Tips_look ?na_Tips_tables ?na_Walk_look ?na_Walk_tables ?mt_Late_behind ?mt_Tips_behind ?mt_Tips_tip_from ?mt_Walk_behind ?mk_Late ?mk_Tips ?mk_Walk ?nt ?nn_heap_look_law_look
  (case d0 | d1 | d2 | d3 | d4 | d5 | d6 | d7 | d8 | d9 | d10 | d11 | d12 | d13 | d14 | d15 | d16 | d17 | d18 | d19 | d20 | d21 | d22 | d23 | d24 | d25 | d26 | d27 | d28 | d29 | d30 | d31 | d32 | d33 | d34 | d35 | d36 | d37 | d39 | d40 | d41 | d42 | d43 | d44 | d45 | d46 | d47 | d48 | d49 | d50 | d51 | d52 | d53 | d54 | d60 | d61 | d62 | d63 | d64 | d65 | d67 | d68 | d69 | d70 | d71 | d72 => exact ⟨by k_is, L2.ug (by k_is) (by k_is) (by k_is)⟩); (case q_Late => k_is); (case q_NoNode => k_is); (case q_NoPlace => k_is); (case q_Tips => k_is); (case q_Walk => k_is); (case q_WoodError => k_is); (case mk_Late | mk_Tips | mk_Walk => exact ⟨by k_is, by k_is, by k_is, by k_is⟩); (case mt_Late_behind | mt_Tips_behind | mt_Tips_tip_from | mt_Walk_behind => exact ⟨by k_is, by k_is, by k_is⟩); (case dm55 | dm56 | dm57 | dm58 | dm59 => exact L2.ug (by k_is) (by k_is) (by k_is)); (case cl_Late | cl_Tips | cl_Walk => exact ⟨by k_is, by k_is, by k_is, by k_is⟩); (case a38 => k_is); (case l38 => k_is); (case c38 => k_is); (case k38 => k_is); (case tl_heap_look => k_is); (case tp_heap_look => rfl); (case tr_heap_look => exact ⟨_, rfl⟩); (case a66 => k_is); (case l66 => k_is); (case c66 => k_is); (case k66 => k_is); (case tl_law_look => k_is); (case tp_law_look => rfl); (case tr_law_look => exact ⟨_, rfl⟩); (case z_bool => k_is); (case z_enumerate => k_is); (case z_int => k_is); (case z_isinstance => k_is); (case z_len => k_is); (case z_list => k_is); (case z_max => k_is); (case z_min => k_is); (case z_range => k_is); (case z_reversed => k_is); (case z_sum => k_is); (case z_tuple => k_is); (case z_zip => k_is); (case g_BLOCK_BITS => k_is); (case g_MOST_BITS => k_is); (case g_MOST_NODES => k_is); (case g_MOST_NUMBERS => k_is); (case ex_NoNode => k_exc); (case ed_NoNode => k_is); (case ega_NoNode => k_is); (case eng_NoNode => k_is); (case ecl_NoNode => k_is); (case egt_NoNode => k_is); (case etk_NoNode => k_is); (case emo_NoNode => k_is); (case emb_NoNode => k_is); (case i_NoNode_Late => kit_is); (case i_NoNode_NoNode => kit_is); (case i_NoNode_NoPlace => kit_is); (case i_NoNode_Tips => kit_is); (case i_NoNode_Walk => kit_is); (case i_NoNode_WoodError => kit_is); (case i_NoNode_ValueError => kit_is); (case na_Late_look => k_is); (case na_Late_tables => k_is); (case na_Tips_look => k_is); (case na_Tips_tables => k_is); (case na_Walk_look => k_is); (case na_Walk_tables => k_is); (case nt => kernel_rfl); (case nn_heap_look_law_look => decide)
