import PyProof.Rows.All
import Wide.All
import OpenK.AllK
import Wide.FinOn
import Lean
import PyProof.EqAt
import PyProof.EqKinds
import PyProof.TupleCall
import PySem.Challenge.RW_thinwood_k37_no_such_brackets
set_option Elab.async false
set_option linter.all false
set_option maxRecDepth 100000
namespace L2
open PySem PySem.Spec PyProof.Rows
abbrev Key := Sum Int Str
def zW : Key → Value → Bool
 | .inl k, v => Value.isInt k v
 | .inr x, v => Value.isStrOf x v
def CQ (w : World) : Key → Int
 | .inl k => hashInt k
 | .inr x => hashStr w x
theorem bN : ∀ {k : Key} {v : Value}, zW k v = true → (∃ i t, k = Sum.inl i ∧ v = Value.int i t) ∨ (∃ x t, k = Sum.inr x ∧ v = Value.str x t)
 | .inl i, v, h => by
  obtain ⟨t, e⟩ := Value.isInt_shape (k := i) (v := v) h
  exact .inl ⟨i, t, rfl, e⟩
 | .inr x, v, h => by
  obtain ⟨t, e⟩ := Value.isStrOf_shape (x := x) (v := v) h
  exact .inr ⟨x, t, rfl, e⟩
theorem Al (a b : Int) : decide ((Sum.inl a : Key) = Sum.inl b) = (a == b) := by
 by_cases e : a = b
 ·subst e; simp
 ·have h : ¬ (Sum.inl a : Key) = Sum.inl b := fun q => e (Sum.inl.inj q)
  rw [decide_eq_false h]
  exact (beq_eq_false_iff_ne.mpr e).symm
theorem Bd (a b : Str) : decide ((Sum.inr a : Key) = Sum.inr b) = decide (a = b) := by
 by_cases e : a = b
 ·subst e; simp
 ·have h : ¬ (Sum.inr a : Key) = Sum.inr b := fun q => e (Sum.inr.inj q)
  rw [decide_eq_false h, decide_eq_false e]
theorem Ax (a : Int) (b : Str) : decide ((Sum.inl a : Key) = Sum.inr b) = false := decide_eq_false (fun q => nomatch q)
theorem Bc (a : Str) (b : Int) : decide ((Sum.inr a : Key) = Sum.inl b) = false := decide_eq_false (fun q => nomatch q)
def vN (prog : Program) (w : World) : PySem.KeyKind prog w Key where
 is := zW
 hash := CQ w
 inj := fun v a b ha hb => by
  rcases bN ha with ⟨i, t, rfl, rfl⟩ | ⟨x, t, rfl, rfl⟩
  ·rcases bN hb with ⟨j, u, rfl, e⟩ | ⟨y, u, rfl, e⟩
   ·injection e with e1 _; rw [e1]
   ·exact nomatch e
  ·rcases bN hb with ⟨j, u, rfl, e⟩ | ⟨y, u, rfl, e⟩
   ·exact nomatch e
   ·injection e with e1 _; rw [e1]
 byValue := fun k v h => by
  rcases bN h with ⟨i, t, rfl, rfl⟩ | ⟨x, t, rfl, rfl⟩ <;> rfl
 pyHash := fun hv h => by
  rcases bN hv with ⟨i, t, rfl, rfl⟩ | ⟨x, t, rfl, rfl⟩
  ·exact wpAny_pyHash_int h
  ·exact wpAny_pyHash_str h
 eqBool := fun hu hv h => by
  rcases bN hu with ⟨i, t, rfl, rfl⟩ | ⟨x, t, rfl, rfl⟩
  ·rcases bN hv with ⟨j, u, rfl, rfl⟩ | ⟨y, u, rfl, rfl⟩
   ·rw [Al] at h; exact wpAny_eqBool_int h
   ·rw [Ax] at h; exact SeqAt.EqAt.int_str i t y u _ _ _ _ h
  ·rcases bN hv with ⟨j, u, rfl, rfl⟩ | ⟨y, u, rfl, rfl⟩
   ·rw [Bc] at h; exact SeqAt.EqAt.str_int x t j u _ _ _ _ h
   ·rw [Bd] at h; exact wpAny_eqBool_str h
 «strs» := fun k x t v h => by
  rcases bN h with ⟨i, u, rfl, e⟩ | ⟨y, u, rfl, e⟩
  ·exact nomatch e
  ·injection e with e1 _
   subst e1
   cases v <;> rfl
end L2
namespace L2
open PySem PySem.Spec PyProof.Rows
inductive V where
 | non | bl (b : Bool) | int (i : Int) | str (x : Str) | byt (b : Array UInt8) | flt (b : UInt64) | ref (a : Addr) | ty (n : String)
 deriving DecidableEq
def RelV : V → Value → Prop
 | .non, u => u = Value.none
 | .bl b, u => u = Value.bool b
 | .int i, u => ∃ t, u = Value.int i t
 | .str x, u => ∃ t, u = Value.str x t
 | .byt b, u => ∃ t, u = Value.bytes b t
 | .flt b, u => ∃ t, u = Value.float b t
 | .ref a, u => u = Value.ref a
 | .ty n, u => u = Value.type n
abbrev Vals : List V → List Value → Prop := Paired RelV
theorem Vals.length {xs : List V} {us : List Value} (r : Vals xs us) : xs.length = us.length := Paired.length r
theorem Vals.get : ∀ {xs : List V} {us : List Value} {i : Nat} {x : V}, Vals xs us → xs[i]? = some x → ∃ u, us[i]? = some u ∧ RelV x u
 | _, _, _, _, .nil, e => by simp at e
 | _, _, 0, _, .cons r _, e => by simp at e; subst e; exact ⟨_, rfl, r⟩
 | _, _, i + 1, x, .cons _ t, e => by
  obtain ⟨u, h1, h2⟩ := Vals.get (i := i) (x := x) t (by simpa using e)
  exact ⟨u, by simpa using h1, h2⟩
theorem Vals.set {x : V} {u : Value} (r : RelV x u) : ∀ {xs : List V} {us : List Value} (i : Nat), Vals xs us → Vals (xs.set i x) (us.set i u)
 | _, _, _, .nil => .nil
 | _, _, 0, .cons _ t => .cons r t
 | _, _, i + 1, .cons q t => .cons q (Vals.set r i t)
theorem Vals.append : ∀ {xs ys : List V} {us ws : List Value}, Vals xs us → Vals ys ws → Vals (xs ++ ys) (us ++ ws)
 | _, _, _, _, .nil, s => s
 | _, _, _, _, .cons r t, s => .cons r (Vals.append t s)
theorem Vals.take : ∀ {xs : List V} {us : List Value} (n : Nat), Vals xs us → Vals (xs.take n) (us.take n)
 | _, _, 0, _ => .nil
 | _, _, _ + 1, .nil => .nil
 | _, _, n + 1, .cons r t => .cons r (Vals.take n t)
theorem Vals.drop : ∀ {xs : List V} {us : List Value} (n : Nat), Vals xs us → Vals (xs.drop n) (us.drop n)
 | _, _, 0, r => r
 | _, _, _ + 1, .nil => .nil
 | _, _, n + 1, .cons _ t => Vals.drop n t
def Cm : Option V → Option Value → Prop
 | some v, some u => RelV v u
 | none, none => True
 | _, _ => False
def KV {κ : Type} : List (κ × V) → List (κ × Value) → Prop := Paired fun (p : κ × V) (q : κ × Value) => p.1 = q.1 ∧ RelV p.2 q.2
def kV : Key → V
 | .inl i => .int i
 | .inr x => .str x
inductive HO where
  | lst (xs : List V)
  | tup (xs : List V)
  | dK (kvs : List (Key × V)) | dT (kvs : List (List Key × V))
  | set (S : Int → Bool) (n : Nat)
  | ins (C dx : Addr) (fs : List (Str × V))
  | own (x : Addr)
  | xd (fs : List (Str × V))
  | met (f x : Addr)
  | rng (lo hi : Int)
  | frz (o : Obj) (u : HO)
  | tbl (ps : Array Value)
  | ext (φ : Heap → Prop)
abbrev Hp := Addr → Option HO
def upd (H : Hp) (a : Addr) (o : HO) : Hp := fun b => if b = a then some o else H b
theorem ak {H : Hp} {a : Addr} {o : HO} : upd H a o a = some o := by unfold upd; rw [if_pos rfl]
theorem aG {H : Hp} {a b : Addr} {o : HO} (h : b ≠ a) : upd H a o b = H b := by unfold upd; rw [if_neg h]
theorem qQ {H : Hp} {a : Addr} {o u : HO} : upd (upd H a o) a u = upd H a u := by
 funext b; unfold upd; split <;> rfl
theorem aO {H : Hp} {a b : Addr} {o : HO} (h : H a = some o) (h' : H b = none) : a ≠ b := by
 intro e; subst e; rw [h] at h'; cases h'
section
variable (P : Program) (w : World)
def cU (H : Hp) (h : Heap) (a : Addr) : HO → Prop
 | .lst xs => xs.length ≤ sizeLine ∧ ∃ (its : List Value) (n : Nat), Vals xs its ∧ h.get? a = some { cls := .type "list", data := .seq its.toArray n }
 | .tup xs => xs.length ≤ sizeLine ∧ ∃ its : List Value, Vals xs its ∧ IsTup h a its.toArray
 | .dK kvs => kvs.length ≤ sizeLine ∧ (a == sysModules) = false ∧ ∃ vs, KV kvs vs ∧ h.DictOf (vN P w) a vs
 | .dT kvs => kvs.length ≤ sizeLine ∧ (a == sysModules) = false ∧ ∃ xs : List (List Key × Addr × Value),
   Paired (fun (p : List Key × V) (q : List Key × Addr × Value) => p.1 = q.1 ∧ H q.2.1 = some (.tup (p.1.map kV)) ∧ RelV p.2 q.2.2) kvs xs ∧
   ∃ o es ep, h.get? a = some o ∧ o.ExactDict ∧ o.data = .dict es ep ∧ es.toList = xs.map (entryOfKey (tupleKind (vN P w))) ∧ (xs.map (·.1)).Nodup
 | .set S n => h.SetOf (intKind P w) a S n
 | .ins C dx fs => H dx = some (.own a) ∧ fs.length ≤ 1000 ∧ dx ≠ a ∧ h.get? a = some (PySem.W.instObj C dx) ∧
   ∃ mA, h.Ns1 dx mA ∧ (∀ f, Cm (fs.lookup f) (mA f)) ∧ PySem.Within mA (fs.map (·.1))
 | .own _ => ∃ o, h.get? a = some o
 | .xd fs => ∃ mA, h.Ns1 a mA ∧ ∀ f, Cm (fs.lookup f) (mA f)
 | .rng lo hi => ∃ t u v, h.get? a = some { cls := .type "range", data := .fields #[.int lo t, .int hi u, .int 1 v] }
 | .frz o u => h.get? a = some o ∧ cU H h a u
 | .tbl ps => h.get? a = some { cls := .none, data := .fields ps }
 | .met f x => h.get? a = some (PySem.W.methodObj (.ref f) (.ref x))
 | .ext φ => φ h ∧ (∃ o, h.get? a = some o) ∧ ∀ h1 h2 : Heap, φ h1 → (∀ o, h1.get? a = some o → h2.get? a = some o) → φ h2
def HOk (H : Hp) (h : Heap) : Prop := ∀ a o, H a = some o → cU P w H h a o
end
section
variable {P : Program} {w : World} {H H' : Hp} {h h' : Heap} {a : Addr} {o : HO}
theorem cU.lt (x : cU P w H h a o) : a < h.objs.size := by
 cases o with
 | lst xs => obtain ⟨_, _, _, _, e⟩ := x; exact Heap.lt_size e
 | tup xs => obtain ⟨_, _, _, p⟩ := x; exact p.lt
 | dK kvs => obtain ⟨_, _, _, _, o, _, _, e, _⟩ := x; exact Heap.lt_size e
 | dT kvs => obtain ⟨_, _, _, _, o, _, _, e, _⟩ := x; exact Heap.lt_size e
 | set S n => obtain ⟨o, _, _, _, e, _⟩ := x; exact Heap.lt_size e
 | ins C dx fs => obtain ⟨_, _, _, e, _⟩ := x; exact Heap.lt_size e
 | own y => obtain ⟨_, e⟩ := x; exact Heap.lt_size e
 | xd fs => obtain ⟨_, ⟨_, _, _, e, _⟩, _⟩ := x; exact Heap.lt_size e
 | rng lo hi => obtain ⟨_, _, _, e⟩ := x; exact Heap.lt_size e
 | frz ob u => obtain ⟨e, _⟩ := x; exact Heap.lt_size e
 | tbl ps => exact Heap.lt_size (show h.get? a = some _ from x)
 | met f y => exact Heap.lt_size (show h.get? a = some _ from x)
 | ext φ => obtain ⟨_, ⟨_, e⟩, _⟩ := x; exact Heap.lt_size e
theorem Paired.mapP {α β : Type} {F G : α → β → Prop} : ∀ {l₁ : List α} {l₂ : List β}, Paired F l₁ l₂ → (∀ a b, F a b → G a b) → Paired G l₁ l₂
 | _, _, .nil, _ => .nil
 | _, _, .cons r t, f => .cons (f _ _ r) (Paired.mapP t f)
theorem cU.stay (x : cU P w H h a o) (k : ∀ b u, (b = a ∨ H b = some (.own a)) → h.get? b = some u → h'.get? b = some u)
  (ho : ∀ b, H b = some (.own a) → H' b = some (.own a)) (ht : ∀ b xs, H b = some (.tup xs) → H' b = some (.tup xs)) : cU P w H' h' a o := by
 induction o with
 | lst xs => obtain ⟨z, its, n, r, e⟩ := x; exact ⟨z, its, n, r, k _ _ (.inl rfl) e⟩
 | tup xs => obtain ⟨z, its, r, ob, e, c⟩ := x; exact ⟨z, its, r, ob, k _ _ (.inl rfl) e, c⟩
 | dK kvs => obtain ⟨z, y, vs, r, ob, es, ep, e, c⟩ := x; exact ⟨z, y, vs, r, ob, es, ep, k _ _ (.inl rfl) e, c⟩
 | dT kvs =>
  obtain ⟨z, y, xs, r, ob, es, ep, e, c⟩ := x
  exact ⟨z, y, xs, Paired.mapP r fun p q z => ⟨z.1, ht _ _ z.2.1, z.2.2⟩, ob, es, ep, k _ _ (.inl rfl) e, c⟩
 | set S n => obtain ⟨ob, es, ep, t, e, c⟩ := x; exact ⟨ob, es, ep, t, k _ _ (.inl rfl) e, c⟩
 | ins C dx fs =>
  obtain ⟨d, z, ne, e, mA, ⟨od, es, ep, e2, c⟩, r⟩ := x
  exact ⟨ho _ d, z, ne, k _ _ (.inl rfl) e, mA, ⟨od, es, ep, k _ _ (.inr d) e2, c⟩, r⟩
 | own y => obtain ⟨ob, e⟩ := x; exact ⟨ob, k _ _ (.inl rfl) e⟩
 | xd fs => obtain ⟨mA, ⟨od, es, ep, e, c⟩, r⟩ := x; exact ⟨mA, ⟨od, es, ep, k _ _ (.inl rfl) e, c⟩, r⟩
 | rng lo hi => obtain ⟨t, u, v, e⟩ := x; exact ⟨t, u, v, k _ _ (.inl rfl) e⟩
 | frz ob u ih => obtain ⟨e, q⟩ := x; exact ⟨k _ _ (.inl rfl) e, ih q⟩
 | tbl ps =>
  have e : h.get? a = some { cls := .none, data := .fields ps } := x
  show h'.get? a = some { cls := .none, data := .fields ps }
  exact k a _ (.inl rfl) e
 | met f y =>
  have e : h.get? a = some (PySem.W.methodObj (.ref f) (.ref y)) := x
  show h'.get? a = some (PySem.W.methodObj (.ref f) (.ref y))
  exact k a _ (.inl rfl) e
 | ext φ => obtain ⟨p, ⟨o, e⟩, st⟩ := x; exact ⟨st _ _ p fun o q => k _ _ (.inl rfl) q, ⟨o, k _ _ (.inl rfl) e⟩, st⟩
theorem HOk.lt (x : HOk P w H h) (e : H a = some o) : a < h.objs.size := (x a o e).lt
theorem HOk.fresh (x : HOk P w H h) (e : h.objs.size ≤ a) : H a = none := by
 cases q : H a with
 | none => rfl
 | some u => exact absurd (Nat.lt_of_lt_of_le (x.lt q) e) (Nat.lt_irrefl _)
theorem HOk.kept (x : HOk P w H h) (k : ∀ b u, h.get? b = some u → h'.get? b = some u) : HOk P w H h' := fun a o e =>
 (x a o e).stay (fun b u _ q => k b u q) (fun _ q => q) fun _ _ q => q
theorem HOk.laid (x : HOk P w H h) (k : ∀ b u, h.get? b = some u → h'.get? b = some u) (hp : h.objs.size ≤ a) (new : cU P w (upd H a o) h' a o) : HOk P w (upd H a o) h' := fun b u e => by
 have hn := x.fresh hp
 by_cases hb : b = a
 ·subst hb; rw [ak] at e; cases e; exact new
 ·rw [aG hb] at e
  exact (x b u e).stay (fun c v _ q => k c v q) (fun c q => by rw [aG (aO q hn)]; exact q) fun c xs q => by rw [aG (aO q hn)]; exact q
end
def Rd (H : Hp) (a : Addr) (u : HO) : Prop := H a = some u ∨ ∃ o, H a = some (.frz o u)
theorem Rd.ok {P : Program} {w : World} {H : Hp} {h : Heap} {a : Addr} {u : HO} (r : Rd H a u) (x : HOk P w H h) : cU P w H h a u := by
 rcases r with r | ⟨o, r⟩
 ·exact x a u r
 ·obtain ⟨_, q⟩ := x a _ r
  exact q
def Mut : Option HO → Prop
 | some (.lst _) => True
 | some (.dK _) => True
 | some (.dT _) => True
 | some (.set _ _) => True
 | some (.ins _ _ _) => True
 | some (.ext _) => True
 | _ => False
section
variable {P : Program} {w : World} {H : Hp} {h h' : Heap} {x e : Addr} {o' : HO}
theorem HOk.write (ok : HOk P w H h) (mu : Mut (H x)) (he : e = x ∨ H e = some (.own x)) (k : ∀ b u, b ≠ e → h.get? b = some u → h'.get? b = some u) (heo : ∃ u, h'.get? e = some u)
  (new : cU P w (upd H x o') h' x o') : HOk P w (upd H x o') h' := fun b u q => by
 have nown : ∀ c y, H c = some (.own y) → c ≠ x := fun c y r z => by subst z; rw [r] at mu; exact mu
 have ntup : ∀ c xs, H c = some (.tup xs) → c ≠ x := fun c xs r z => by subst z; rw [r] at mu; exact mu
 by_cases hb : b = x
 ·subst hb; rw [ak] at q; cases q; exact new
 ·rw [aG hb] at q
  by_cases hbe : b = e
  ·have q' : H b = some (.own x) := by
    rcases he with z | z
    ·exact absurd (hbe.trans z) hb
    ·rw [hbe]; exact z
   rw [q] at q'; cases q'
   obtain ⟨v, hv⟩ := heo
   exact ⟨v, by rw [hbe]; exact hv⟩
  ·refine (ok b u q).stay (fun c v hc r => k c v ?_ r) (fun c r => by rw [aG (nown c b r)]; exact r) fun c xs r => by rw [aG (ntup c xs r)]; exact r
   rcases hc with rfl | hc
   ·exact hbe
   ·rintro rfl
    rcases he with z | z
    ·exact nown c b hc z
    ·rw [hc] at z; cases z; exact hb rfl
end
structure Un (fs ex : List Addr) (H H' : Hp) (h h' : Heap) : Prop where
 keep : ∀ b o, h.get? b = some o → H b = none → b ∉ fs → b ∉ ex → h'.get? b = some o
 slot : ∀ b o, h.get? b = some o → H b = none → b ∈ fs → b ∉ ex → ∃ sl, h'.get? b = some { o with slots := sl }
 free : ∀ b o, h.get? b = some o → H b = none → b ∉ ex → H' b = none
 there : ∀ b o, h.get? b = some o → b ∉ ex → ∃ o', h'.get? b = some o'
 tups : ∀ b xs, H b = some (.tup xs) → H' b = some (.tup xs)
 frzs : ∀ b o u, H b = some (.frz o u) → H' b = some (.frz o u)
 tbls : ∀ b ps, H b = some (.tbl ps) → ∃ more, H' b = some (.tbl (ps ++ more))
section
variable {fs fs' ex ex' : List Addr} {H H1 H2 : Hp} {h h1 h2 h' : Heap} {a x e : Addr} {o : HO}
theorem Un.any (u : Un fs ex H H1 h h1) {b : Addr} {ob : Obj} (q : h.get? b = some ob) (n : H b = none) (hx : b ∉ ex) : ∃ sl, h1.get? b = some { ob with slots := sl } := by
 by_cases hb : b ∈ fs
 ·exact u.slot b ob q n hb hx
 ·exact ⟨ob.slots, u.keep b ob q n hb hx⟩
theorem Un.trans (a : Un fs ex H H1 h h1) (b : Un fs ex H1 H2 h1 h2) : Un fs ex H H2 h h2 where
 keep := fun c ob q n hc hx => b.keep c ob (a.keep c ob q n hc hx) (a.free c ob q n hx) hc hx
 slot := fun c ob q n hc hx => by
  obtain ⟨sl, e1⟩ := a.slot c ob q n hc hx
  obtain ⟨sl', e2⟩ := b.slot c _ e1 (a.free c ob q n hx) hc hx
  exact ⟨sl', e2⟩
 free := fun c ob q n hx => by
  obtain ⟨o', e1⟩ := a.there c ob q hx
  exact b.free c o' e1 (a.free c ob q n hx) hx
 there := fun c ob q hx => by
  obtain ⟨o', e1⟩ := a.there c ob q hx
  exact b.there c o' e1 hx
 tups := fun c xs q => b.tups c xs (a.tups c xs q)
 frzs := fun c ob xs q => b.frzs c ob xs (a.frzs c ob xs q)
 tbls := fun c ps q => by
  obtain ⟨m1, e1⟩ := a.tbls c ps q
  obtain ⟨m2, e2⟩ := b.tbls c _ e1
  exact ⟨m1 ++ m2, by rw [e2, Array.append_assoc]⟩
theorem Un.kept (k : ∀ b u, h.get? b = some u → h'.get? b = some u) : Un fs ex H H h h' :=
 ⟨fun b ob q _ _ _ => k b ob q, fun b ob q _ _ _ => ⟨ob.slots, k b ob q⟩, fun _ _ _ n _ => n, fun b ob q _ => ⟨ob, k b ob q⟩, fun _ _ q => q, fun _ _ _ q => q, fun _ ps q => ⟨#[], by rw [q]; simp⟩⟩
theorem Un.refl : Un fs ex H H h h := Un.kept fun _ _ q => q
theorem Un.laid (k : ∀ b u, h.get? b = some u → h'.get? b = some u) (hp : h.objs.size ≤ a) (hn : H a = none) : Un fs ex H (upd H a o) h h' where
 keep := fun b u q _ _ _ => k b u q
 slot := fun b u q _ _ _ => ⟨u.slots, k b u q⟩
 free := fun b u q n _ => by rw [aG (Nat.ne_of_lt (Nat.lt_of_lt_of_le (Heap.lt_size q) hp))]; exact n
 there := fun b u q _ => ⟨u, k b u q⟩
 tups := fun b xs q => by rw [aG (aO q hn)]; exact q
 frzs := fun b u xs q => by rw [aG (aO q hn)]; exact q
 tbls := fun b ps q => ⟨#[], by rw [aG (aO q hn), q]; simp⟩
theorem Un.write (mu : Mut (H x)) (he : e = x ∨ H e = some (.own x)) (k : ∀ b u, b ≠ e → h.get? b = some u → h'.get? b = some u) (heo : ∃ u, h'.get? e = some u) : Un fs ex H (upd H x o) h h' := by
 have hx : ∀ b, H b = none → b ≠ x := fun b n z => by subst z; rw [n] at mu; exact mu
 have hb : ∀ b, H b = none → b ≠ e := fun b n z => by
  subst z
  rcases he with r | r
  ·exact hx b n r
  ·rw [n] at r; cases r
 have hm : ∀ b u, H b = some u → ¬ Mut (some u) → b ≠ x := fun b u q nm z => by subst z; rw [q] at mu; exact nm mu
 refine ⟨fun b u q n _ _ => k b u (hb b n) q, fun b u q n _ _ => ⟨u.slots, k b u (hb b n) q⟩, fun b u q n _ => by rw [aG (hx b n)]; exact n, fun b u q _ => ?_,
  fun b xs q => by rw [aG (hm b _ q fun z => z)]; exact q, fun b u xs q => by rw [aG (hm b _ q fun z => z)]; exact q, fun b ps q => ⟨#[], by rw [aG (hm b _ q fun z => z), q]; simp⟩⟩
 by_cases hbe : b = e
 ·subst hbe; exact heo
 ·exact ⟨u, k b u hbe q⟩
end
def trk (h : Heap) (H : Hp) : List Addr := (List.range h.objs.size).filter fun a => (H a).isSome
def pJ (h : Heap) (H : Hp) : Heap := PySem.W.hideAll h (trk h H)
theorem xQ (h : Heap) (H : Hp) : (pJ h H).objs.size = h.objs.size := PySem.W.hideAll_size _ _
theorem yu {h : Heap} {H : Hp} {b : Addr} {o : Obj} (e : h.get? b = some o) (n : H b = none) : (pJ h H).get? b = some o :=
 PySem.W.hideAll_get _ e fun hm => by
  have q : (H b).isSome = true := (List.mem_filter.mp hm).2
  rw [n] at q; simp at q
theorem zy {h : Heap} {H : Hp} {b : Addr} {o : Obj} (e : (pJ h H).get? b = some o) : h.get? b = some o ∧ H b = none := by
 have e' : h.get? b = some o := PySem.W.of_hideAll (trk h H) e
 refine ⟨e', ?_⟩
 cases q : H b with
 | none => rfl
 | some x =>
  have hm : b ∈ trk h H := List.mem_filter.mpr ⟨List.mem_range.mpr (Heap.lt_size e'), by simp [q]⟩
  have z : (pJ h H).get? b = none := PySem.W.hideAll_none (trk h H) hm
  rw [z] at e; cases e
def zp (g h : Heap) (L : Addr) : List (Addr × Obj) := (List.range h.objs.size).filterMap fun a => if a = L ∨ (g.get? a).isSome = true then none else (h.get? a).map fun o => (a, o)
def rest (g h : Heap) (L d : Addr) : List (Addr × Obj) := (zp g h L).filter fun p => decide (p.1 ≠ d)
end L2
namespace L2
open PySem PySem.Spec PyProof.Rows
structure Mod (K : PySem.W.Frag) (mg : Str → Option Value) (base : Heap) : Prop where
 kin : K.In base
 glob : base.Ns mainGlobals mg
 blt : ∃ mb, base.Ns builtinsNs mb ∧ ∀ x : Str, x ≠ "__name__" → mb x = bootBuiltins x
 nolimit : base.NoLimit
structure Cx where
 prog : Program
 w : World
 K : PySem.W.Frag
 mg : Str → Option Value
 base : Heap
 A : Around
 N : List Str
 s₀ : Shared
 H₀ : Hp
 env : Env
 outer : List Env
 stack : List Env
 ex : List Addr
 fn : Str → Bool
 calm : Bool
 pn : List (Addr × Obj)
 xe : Value → Shared → Prop
def frs (l : List Env) : List Addr := l.filterMap (·.frame)
abbrev Cx.fs (X : Cx) : List Addr := frs X.outer
def Vis (sc : Scope) (x : Str) : Prop := sc.names.lookup x = some .local ∨ sc.names.lookup x = some .cell ∨ sc.names.lookup x = some .free
def Loc (sc : Scope) (x : Str) : Prop := sc.names.lookup x = some .local ∨ sc.names.lookup x = some .cell
def Look (env : Env) (h : Heap) (m : Str → Option Value) (x : Str) (u : Value) : Prop :=
 (env.kindOf x = some .local ∧ m x = some u) ∨ ((env.kindOf x = some .cell ∨ env.kindOf x = some .free) ∧ ∃ c, env.cells.lookup x = some c ∧ h.IsCell c (some u))
structure Cx.Ok (X : Cx) : Prop where
 mod : Mod X.K X.mg X.base
 kind : X.env.scope.kind = .function
 glob : X.env.globals = mainGlobals
 blt : X.env.builtins = builtinsNs
 above : X.s₀.heap.objs.size ≤ X.env.locals
 inj : ∀ x y c, X.env.cells.lookup x = some c → X.env.cells.lookup y = some c → x = y
 has : ∀ x, (X.env.kindOf x = some .cell ∨ X.env.kindOf x = some .free) → ∃ c, X.env.cells.lookup x = some c
 cab : ∀ x c, X.fn x = true → X.env.cells.lookup x = some c → X.s₀.heap.objs.size ≤ c
 hd : X.calm = true → X.A.handled = none
 frames : X.A.frames = some X.stack
 stk : X.stack = X.outer ∨ (X.stack = X.env :: X.outer ∧ X.env.frame = some X.env.locals)
 exf : ∀ b ∈ X.ex, b ≠ X.env.locals ∧ ∀ x c, X.env.cells.lookup x = some c → c ≠ b
 bs : ∀ b o, X.base.get? b = some o → X.s₀.heap.get? b = some o ∧ X.H₀ b = none
 bsz : X.base.objs.size ≤ X.s₀.heap.objs.size
 noex : ∀ b o, X.base.get? b = some o → b ∉ X.ex
 exfs : ∀ b ∈ X.ex, b ∉ X.fs
 funs : X.s₀.heap.FunFrames X.base X.outer
 frf : ∀ b ∈ X.fs, X.H₀ b = none
structure Inv (X : Cx) (pins : List (Addr × Obj)) (σ : List (Option V)) (H : Hp) (s : Shared) : Prop where
 ok : X.Ok
 os : s.os = X.s₀.os
 bare : AllBare s.gens
 base : Un X.fs X.ex X.H₀ H X.s₀.heap s.heap
 loc : ∃ m, s.heap.Ns X.env.locals m ∧ ∀ (i : Nat) (x : Str) (v : V), X.N[i]? = some x → σ[i]? = some (some v) → Vis X.env.scope x → ∃ u, RelV v u ∧ Look X.env s.heap m x u
 cell : ∀ x c, X.env.cells.lookup x = some c → ∃ v, s.heap.IsCell c v
 free : H X.env.locals = none
 freeC : ∀ x c, X.env.cells.lookup x = some c → H c = none
 pin : ∀ p ∈ X.pn ++ pins, s.heap.get? p.1 = some p.2 ∧ H p.1 = none ∧ p.1 ≠ X.env.locals ∧ p.1 ∉ X.fs ∧ ∀ v, p.2.data ≠ .cell v
 hok : HOk X.prog X.w H s.heap
 len : σ.length = X.N.length
section
variable {X : Cx} {pins : List (Addr × Obj)} {σ : List (Option V)} {H H' : Hp} {s : Shared} {h' : Heap}
theorem Cx.Ok.nofr (ok : X.Ok) {b : Addr} {o : Obj} (e : X.base.get? b = some o) : b ∉ X.fs := fun hb => by
 have := (ok.funs.mem hb).1
 rw [e] at this; cases this
theorem Inv.bs (I : Inv X pins σ H s) : ∀ b o, X.base.get? b = some o → s.heap.get? b = some o ∧ H b = none := fun b o e =>
 ⟨I.base.keep b o (I.ok.bs b o e).1 (I.ok.bs b o e).2 (I.ok.nofr e) (I.ok.noex b o e), I.base.free b o (I.ok.bs b o e).1 (I.ok.bs b o e).2 (I.ok.noex b o e)⟩
theorem Inv.bk (I : Inv X pins σ H s) : ∀ b o, X.base.get? b = some o → s.heap.get? b = some o := fun b o e => (I.bs b o e).1
theorem Inv.mod (I : Inv X pins σ H s) : Mod X.K X.mg X.base := I.ok.mod
theorem Inv.kIn (I : Inv X pins σ H s) : X.K.In s.heap := I.ok.mod.kin.keeps I.bk
theorem Inv.lt (I : Inv X pins σ H s) : X.env.locals < s.heap.objs.size := let ⟨_, hn, _⟩ := I.loc; hn.lt
theorem Inv.sz (I : Inv X pins σ H s) : X.s₀.heap.objs.size ≤ s.heap.objs.size := Nat.le_trans I.ok.above (Nat.le_of_lt I.lt)
theorem Inv.nofs (I : Inv X pins σ H s) {a : Addr} (h : s.heap.objs.size ≤ a) : a ∉ X.fs := fun hb => by
 obtain ⟨_, o, ho, _⟩ := I.ok.funs.mem hb
 exact absurd (Nat.lt_of_lt_of_le (Heap.lt_size ho) (Nat.le_trans I.sz h)) (Nat.lt_irrefl _)
theorem Inv.cne (I : Inv X pins σ H s) : ∀ x c, X.env.cells.lookup x = some c → c ≠ X.env.locals := fun x c e z => by
 obtain ⟨v, o, ho, hd⟩ := I.cell x c e
 obtain ⟨m, ⟨o', es, ep, ho', hd', _⟩, _⟩ := I.loc
 rw [z, ho'] at ho; cases ho; rw [hd'] at hd; cases hd
theorem Inv.funs (I : Inv X pins σ H s) : s.heap.FunFrames X.base X.outer := by
 have all : ∀ (l : List Env), (∀ b ∈ frs l, b ∈ X.fs) → X.s₀.heap.FunFrames X.base l → s.heap.FunFrames X.base l := by
  intro l
  induction l with
  | nil => intro _ _; trivial
  | cons env r ih =>
   intro hs hl
   obtain ⟨hk, ⟨L, o, hf, hn, ho, hd⟩, hr⟩ := hl
   have hL : L ∈ X.fs := hs L (by unfold frs; rw [List.filterMap_cons, hf]; exact List.mem_cons_self)
   obtain ⟨sl, e⟩ := I.base.slot L o ho (I.ok.frf L hL) hL fun z => I.ok.exfs L z hL
   exact ⟨hk, ⟨L, _, hf, hn, e, hd⟩, ih (fun b hb => hs b (by unfold frs; rw [List.filterMap_cons, hf]; exact List.mem_cons_of_mem _ hb)) hr⟩
 exact all X.outer (fun _ hb => hb) I.ok.funs
theorem Inv.stack (I : Inv X pins σ H s) : s.heap.FunFrames X.base X.stack := by
 rcases I.ok.stk with e | ⟨e, hf⟩
 ·rw [e]; exact I.funs
 ·rw [e]
  obtain ⟨m, hn, _⟩ := I.loc
  refine .cons (by rw [I.ok.kind]; decide) hf hn ?_ I.funs
  exact Heap.get?_none_of_le (Nat.le_trans I.ok.bsz I.ok.above)
theorem Inv.stkSub (I : Inv X pins σ H s) : ∀ b ∈ frs X.stack, b ∈ X.env.locals :: X.fs := fun b hb => by
 rcases I.ok.stk with e | ⟨e, hf⟩
 ·rw [e] at hb; exact List.mem_cons_of_mem _ hb
 ·rw [e] at hb
  unfold frs at hb
  rw [List.filterMap_cons, hf] at hb
  exact hb
theorem Inv.stkFree (I : Inv X pins σ H s) : ∀ b ∈ frs X.stack, H b = none := fun b hb => by
 rcases List.mem_cons.mp (I.stkSub b hb) with e | hb
 ·rw [e]; exact I.free
 ·obtain ⟨_, o, ho, _⟩ := I.ok.funs.mem hb
  exact I.base.free b o ho (I.ok.frf b hb) fun z => I.ok.exfs b z hb
theorem Inv.step {g' : Array GenState} {t' : Nat} {d' : Drawn} {ch : List Addr} (I : Inv X pins σ H s)
  (hch : ∀ b ∈ ch, (b ∈ X.ex ∨ X.s₀.heap.objs.size ≤ b) ∧ b ≠ X.env.locals ∧ (∀ x c, X.env.cells.lookup x = some c → c ≠ b) ∧ ∀ p ∈ X.pn ++ pins, p.1 ≠ b)
  (keep : ∀ b o, b ≠ X.env.locals → b ∉ X.fs → b ∉ ch → s.heap.get? b = some o → H b = none → h'.get? b = some o)
  (slot : ∀ b o, b ≠ X.env.locals → b ∈ X.fs → b ∉ ch → s.heap.get? b = some o → H b = none → ∃ sl, h'.get? b = some { o with slots := sl }) (free : ∀ b o, b ∉ ch → s.heap.get? b = some o → H b = none → H' b = none)
  (there : ∀ b o, b ∉ ch → s.heap.get? b = some o → ∃ o', h'.get? b = some o')
  (tups : ∀ b xs, H b = some (.tup xs) → H' b = some (.tup xs)) (frzs : ∀ b o u, H b = some (.frz o u) → H' b = some (.frz o u)) (tbls : ∀ b ps, H b = some (.tbl ps) → ∃ more, H' b = some (.tbl (ps ++ more)))
  (ns : ∀ m, s.heap.Ns X.env.locals m → h'.Ns X.env.locals m) (hok : HOk X.prog X.w H' h') (hg : AllBare g') :
  Inv X pins σ H' { s with heap := h', gens := g', drawn := d', toks := t' } := by
 have neL : ∀ b o, X.s₀.heap.get? b = some o → b ≠ X.env.locals := fun b o e => Nat.ne_of_lt (Nat.lt_of_lt_of_le (Heap.lt_size e) I.ok.above)
 have neC : ∀ b o, X.s₀.heap.get? b = some o → b ∉ X.ex → b ∉ ch := fun b o e hx hb => by
  rcases (hch b hb).1 with z | z
  ·exact hx z
  ·exact absurd (Nat.lt_of_lt_of_le (Heap.lt_size e) z) (Nat.lt_irrefl _)
 have cellK : ∀ x c, X.env.cells.lookup x = some c → ∀ v, s.heap.IsCell c v → h'.IsCell c v := fun x c e v ⟨o, ho, hd⟩ => by
  have nch : c ∉ ch := fun z => (hch c z).2.2.1 x c e rfl
  by_cases hc : c ∈ X.fs
  ·obtain ⟨sl, q⟩ := slot c o (I.cne x c e) hc nch ho (I.freeC x c e)
   exact ⟨_, q, hd⟩
  ·exact ⟨o, keep c o (I.cne x c e) hc nch ho (I.freeC x c e), hd⟩
 refine ⟨I.ok, I.os, hg, ⟨fun b o e n hb hx => ?_, fun b o e n hb hx => ?_, fun b o e n hx => ?_, fun b o e hx => ?_, fun b xs e => tups b xs (I.base.tups b xs e), fun b o xs e => frzs b o xs (I.base.frzs b o xs e), fun b ps e => ?_⟩, ?_, fun x c e => ?_, ?_, fun x c e => ?_, fun p hp => ?_, hok, I.len⟩
 ·exact keep b o (neL b o e) hb (neC b o e hx) (I.base.keep b o e n hb hx) (I.base.free b o e n hx)
 ·obtain ⟨sl, e1⟩ := I.base.slot b o e n hb hx
  obtain ⟨sl', e2⟩ := slot b _ (neL b o e) hb (neC b o e hx) e1 (I.base.free b o e n hx)
  exact ⟨sl', e2⟩
 ·obtain ⟨o', e1⟩ := I.base.there b o e hx
  exact free b o' (neC b o e hx) e1 (I.base.free b o e n hx)
 ·obtain ⟨o', e1⟩ := I.base.there b o e hx
  exact there b o' (neC b o e hx) e1
 ·obtain ⟨m1, e1⟩ := I.base.tbls b ps e
  obtain ⟨m2, e2⟩ := tbls b _ e1
  exact ⟨m1 ++ m2, by rw [e2, Array.append_assoc]⟩
 ·obtain ⟨m, hn, hl⟩ := I.loc
  refine ⟨m, ns m hn, fun i x v e1 e2 e3 => ?_⟩
  obtain ⟨u, r, l⟩ := hl i x v e1 e2 e3
  refine ⟨u, r, ?_⟩
  rcases l with l | ⟨k, c, e, z⟩
  ·exact .inl l
  ·exact .inr ⟨k, c, e, cellK x c e _ z⟩
 ·obtain ⟨v, z⟩ := I.cell x c e
  exact ⟨v, cellK x c e v z⟩
 ·obtain ⟨m, ⟨o, _, _, ho, _⟩, _⟩ := I.loc
  exact free _ o (fun z => (hch _ z).2.1 rfl) ho I.free
 ·obtain ⟨v, o, ho, hd⟩ := I.cell x c e
  exact free c o (fun z => (hch c z).2.2.1 x c e rfl) ho (I.freeC x c e)
 ·obtain ⟨e, n, ne, nf, d⟩ := I.pin p hp
  have nch : p.1 ∉ ch := fun z => (hch p.1 z).2.2.2 p hp rfl
  exact ⟨keep p.1 p.2 ne nf nch e n, free p.1 p.2 nch e n, ne, nf, d⟩
theorem Inv.un {t' : Nat} (I : Inv X pins σ H s) (u : Un X.fs [] H H' s.heap h') (hok : HOk X.prog X.w H' h') : Inv X pins σ H' { s with heap := h', toks := t' } := by
 obtain ⟨m, ⟨o, es, ep, ho, r⟩, _⟩ := id I.loc
 obtain ⟨sl, hL⟩ := u.any ho I.free (by simp)
 exact I.step (g' := s.gens) (d' := s.drawn) (ch := []) (fun _ z => nomatch z) (fun b o _ hb _ e n => u.keep b o e n hb (by simp)) (fun b o _ hb _ e n => u.slot b o e n hb (by simp)) (fun b o _ e n => u.free b o e n (by simp)) (fun b o _ e => u.there b o e (by simp)) u.tups u.frzs u.tbls (fun m' hm => by
  obtain ⟨o', es', ep', ho', r'⟩ := hm
  rw [ho] at ho'; cases ho'
  exact ⟨_, es', ep', hL, r'⟩) hok I.bare
theorem Inv.call {g' : Array GenState} {t' : Nat} {d' : Drawn} {ch : List Addr} (I : Inv X pins σ H s) (u : Un (frs X.stack) ch H H' s.heap h') (hok : HOk X.prog X.w H' h') (hg : AllBare g')
  (hch : ∀ b ∈ ch, (b ∈ X.ex ∨ X.s₀.heap.objs.size ≤ b) ∧ b ≠ X.env.locals ∧ (∀ x c, X.env.cells.lookup x = some c → c ≠ b) ∧ ∀ p ∈ X.pn ++ pins, p.1 ≠ b) :
  Inv X pins σ H' { s with heap := h', gens := g', drawn := d', toks := t' } := by
 obtain ⟨m, ⟨o, es, ep, ho, r⟩, _⟩ := id I.loc
 obtain ⟨sl, hL⟩ := u.any ho I.free fun z => (hch _ z).2.1 rfl
 exact I.step (ch := ch) hch (fun b o hL hb hc e n => u.keep b o e n (fun z => (List.mem_cons.mp (I.stkSub b z)).elim hL hb) hc) (fun b o _ _ hc e n => u.any e n hc) (fun b o hc e n => u.free b o e n hc) (fun b o hc e => u.there b o e hc) u.tups u.frzs u.tbls (fun m' hm => by
  obtain ⟨o', es', ep', ho', r'⟩ := hm
  rw [ho] at ho'; cases ho'
  exact ⟨_, es', ep', hL, r'⟩) hok hg
theorem Inv.turned {t' : Nat} {it : Addr} (I : Inv X pins σ H s) (k : ∀ b o, b ≠ it → s.heap.get? b = some o → h'.get? b = some o) (hn : H it = none) (hL : it ≠ X.env.locals)
  (h1 : it ∈ X.ex ∨ X.s₀.heap.objs.size ≤ it) (h2 : ∀ x c, X.env.cells.lookup x = some c → c ≠ it) (h3 : ∀ p ∈ X.pn ++ pins, p.1 ≠ it) : Inv X pins σ H { s with heap := h', toks := t' } := by
 have nit : ∀ b u, H b = some u → b ≠ it := fun b u e z => by rw [z, hn] at e; cases e
 refine I.step (g' := s.gens) (d' := s.drawn) (ch := [it]) (fun b hb => ?_) (fun b o _ _ hc e _ => k b o (fun z => hc (by simp [z])) e) (fun b o _ _ hc e _ => ⟨o.slots, k b o (fun z => hc (by simp [z])) e⟩) (fun _ _ _ _ n => n)
  (fun b o hc e => ⟨o, k b o (fun z => hc (by simp [z])) e⟩) (fun _ _ e => e) (fun _ _ _ e => e) (fun b ps e => ⟨#[], by rw [e]; simp⟩) (fun m hm => ?_) (fun b u e => ?_) I.bare
 ·have e : b = it := by simpa using hb
  subst e
  exact ⟨h1, hL, h2, h3⟩
 ·obtain ⟨o, es, ep, ho, r⟩ := hm
  exact ⟨o, es, ep, k _ o (Ne.symm hL) ho, r⟩
 ·refine (I.hok b u e).stay (fun c v hc q => k c v ?_ q) (fun _ q => q) fun _ _ q => q
  rcases hc with z | z
  ·rw [z]; exact nit b u e
  ·exact nit c _ z
theorem Inv.tok (I : Inv X pins σ H s) (t : Nat) : Inv X pins σ H { s with toks := t } := I.un (h' := s.heap) (t' := t) Un.refl I.hok
theorem Inv.kept {t' : Nat} (I : Inv X pins σ H s) (k : ∀ b u, s.heap.get? b = some u → h'.get? b = some u) : Inv X pins σ H { s with heap := h', toks := t' } := I.un (Un.kept k) (I.hok.kept k)
theorem Inv.laid {a : Addr} {o : HO} {t' : Nat} (I : Inv X pins σ H s) (k : ∀ b u, s.heap.get? b = some u → h'.get? b = some u) (hp : s.heap.objs.size ≤ a) (new : cU X.prog X.w (upd H a o) h' a o) :
  Inv X pins σ (upd H a o) { s with heap := h', toks := t' } := I.un (Un.laid k hp (I.hok.fresh hp)) (I.hok.laid k hp new)
theorem Inv.write {x e : Addr} {o : HO} {t' : Nat} (I : Inv X pins σ H s) (mu : Mut (H x)) (he : e = x ∨ H e = some (.own x)) (k : ∀ b u, b ≠ e → s.heap.get? b = some u → h'.get? b = some u) (heo : ∃ u, h'.get? e = some u)
  (new : cU X.prog X.w (upd H x o) h' x o) : Inv X pins σ (upd H x o) { s with heap := h', toks := t' } := I.un (Un.write mu he k heo) (I.hok.write mu he k heo new)
theorem Inv.pins_of {pins' : List (Addr × Obj)} (I : Inv X pins σ H s) (h : ∀ p ∈ pins', s.heap.get? p.1 = some p.2 ∧ H p.1 = none ∧ p.1 ≠ X.env.locals ∧ p.1 ∉ X.fs ∧ ∀ v, p.2.data ≠ .cell v) : Inv X pins' σ H s :=
 ⟨I.ok, I.os, I.bare, I.base, I.loc, I.cell, I.free, I.freeC, fun p hp => (List.mem_append.mp hp).elim (fun z => I.pin p (List.mem_append_left _ z)) (h p), I.hok, I.len⟩
theorem pI {N : List Str} (hN : N.Nodup) {i j : Nat} {x : Str} (a : N[i]? = some x) (b : N[j]? = some x) : i = j := by
 obtain ⟨h1, e1⟩ := List.getElem?_eq_some_iff.mp a
 obtain ⟨h2, e2⟩ := List.getElem?_eq_some_iff.mp b
 exact (List.getElem_inj hN).mp (e1.trans e2.symm)
theorem qy {M : Model} {A : Around} {E : Value → Shared → Prop} {i : Nat} {x : Str} {v : V} {u : Value} {Q : Unit → Shared → Prop} (I : Inv X pins σ H s) (hN : X.N.Nodup) (hi : X.N[i]? = some x) (hx : Loc X.env.scope x) (r : RelV v u)
  (h : ∀ s', Inv X pins (σ.set i (some v)) H s' → (∃ a, Heap.SameBut a s.heap s'.heap ∧ (a = X.env.locals ∨ X.env.cells.lookup x = some a)) → Q () s') (hf : X.fn x = true ∨ X.env.scope.names.lookup x = some .local := by first | exact .inl rfl | exact .inr rfl | assumption) : wpAny M A (storeName X.env x u) Q E s := by
 obtain ⟨m, hn, hl⟩ := id I.loc
 have hcls : (X.env.scope.kind == .class || (X.env.scope.kind == .module && X.env.locals != X.env.globals)) = false := by rw [I.ok.kind]; rfl
 have hiσ : i < σ.length := by rw [I.len]; exact (List.getElem?_eq_some_iff.mp hi).1
 have cne := I.cne
 have tracked : ∀ {a : Addr} {h' : Heap}, (∃ o, s.heap.get? a = some o ∧ H a = none) → Heap.SameBut a s.heap h' → HOk X.prog X.w H h' := fun {a h'} ha hs b ob e => by
  obtain ⟨_, _, hfree⟩ := ha
  refine (I.hok b ob e).stay (fun c w' hc q => (hs.2 c ?_).trans q) (fun _ q => q) fun _ _ q => q
  rintro rfl
  rcases hc with rfl | hc
  ·rw [hfree] at e; cases e
  ·rw [hfree] at hc; cases hc
 rcases hx with hk | hk
 ·refine wpAny_storeName_local hk hn (fun h' hn' hs => ?_) hcls
  obtain ⟨oL, _, _, hoL, _⟩ := id hn
  refine h _ ⟨I.ok, I.os, I.bare, ⟨fun b o e n hb hx => ?_, fun b o e n hb hx => ?_, I.base.free, fun b o e hx => ?_, I.base.tups, I.base.frzs, I.base.tbls⟩, ⟨_, hn', fun j y v' e1 e2 e3 => ?_⟩, fun y c e => ?_, I.free, I.freeC, fun p hp => ?_, tracked ⟨oL, hoL, I.free⟩ hs, by simpa using I.len⟩ ⟨_, hs, .inl rfl⟩
  ·exact (hs.2 b (Nat.ne_of_lt (Nat.lt_of_lt_of_le (Heap.lt_size e) I.ok.above))).trans (I.base.keep b o e n hb hx)
  ·obtain ⟨sl, e1⟩ := I.base.slot b o e n hb hx
   exact ⟨sl, (hs.2 b (Nat.ne_of_lt (Nat.lt_of_lt_of_le (Heap.lt_size e) I.ok.above))).trans e1⟩
  ·obtain ⟨o', e1⟩ := I.base.there b o e hx
   exact ⟨o', (hs.2 b (Nat.ne_of_lt (Nat.lt_of_lt_of_le (Heap.lt_size e) I.ok.above))).trans e1⟩
  ·by_cases hj : j = i
   ·subst hj
    rw [hi] at e1; cases e1
    rw [List.getElem?_set_self hiσ] at e2
    cases e2
    exact ⟨u, r, .inl ⟨hk, by simp⟩⟩
   ·rw [List.getElem?_set_ne (Ne.symm hj)] at e2
    obtain ⟨u', r', q⟩ := hl j y v' e1 e2 e3
    refine ⟨u', r', ?_⟩
    rcases q with ⟨k, e⟩ | ⟨k, c, e, z⟩
    ·refine .inl ⟨k, ?_⟩
     have : y ≠ x := fun e => hj (pI hN e1 (e ▸ hi))
     simp [this, e]
    ·exact .inr ⟨k, c, e, z.sameBut hs (cne y c e)⟩
  ·obtain ⟨w', z⟩ := I.cell y c e
   exact ⟨w', z.sameBut hs (cne y c e)⟩
  ·obtain ⟨e, n, ne, nf, d⟩ := I.pin p hp
   exact ⟨(hs.2 p.1 ne).trans e, n, ne, nf, d⟩
 ·have hfn : X.fn x = true := by
   rcases hf with z | z
   ·exact z
   ·rw [z] at hk; cases hk
  obtain ⟨c, hc⟩ := I.ok.has x (.inl hk)
  obtain ⟨w', z⟩ := I.cell x c hc
  refine wpAny_storeName_cell I.ok.kind hk hc z (fun h' hc' hs => ?_)
  obtain ⟨oc, hoc, hocd⟩ := id z
  refine h { s with heap := h' } ⟨I.ok, I.os, I.bare, ⟨fun b o e n hb hx => ?_, fun b o e n hb hx => ?_, I.base.free, fun b o e hx => ?_, I.base.tups, I.base.frzs, I.base.tbls⟩, ⟨m, hn.sameBut hs (Ne.symm (cne x c hc)), fun j y v' e1 e2 e3 => ?_⟩, fun y c' e => ?_, I.free, I.freeC, fun p hp => ?_, tracked ⟨oc, hoc, I.freeC x c hc⟩ hs, by simpa using I.len⟩ ⟨c, hs, .inr hc⟩
  ·exact (hs.2 b (Nat.ne_of_lt (Nat.lt_of_lt_of_le (Heap.lt_size e) (I.ok.cab x c hfn hc)))).trans (I.base.keep b o e n hb hx)
  ·obtain ⟨sl, e1⟩ := I.base.slot b o e n hb hx
   exact ⟨sl, (hs.2 b (Nat.ne_of_lt (Nat.lt_of_lt_of_le (Heap.lt_size e) (I.ok.cab x c hfn hc)))).trans e1⟩
  ·obtain ⟨o', e1⟩ := I.base.there b o e hx
   exact ⟨o', (hs.2 b (Nat.ne_of_lt (Nat.lt_of_lt_of_le (Heap.lt_size e) (I.ok.cab x c hfn hc)))).trans e1⟩
  ·by_cases hj : j = i
   ·subst hj
    rw [hi] at e1; cases e1
    rw [List.getElem?_set_self hiσ] at e2
    cases e2
    exact ⟨u, r, .inr ⟨.inl hk, c, hc, hc'⟩⟩
   ·rw [List.getElem?_set_ne (Ne.symm hj)] at e2
    obtain ⟨u', r', q⟩ := hl j y v' e1 e2 e3
    refine ⟨u', r', ?_⟩
    rcases q with q | ⟨k, c', e, z'⟩
    ·exact .inl q
    ·refine .inr ⟨k, c', e, z'.sameBut hs ?_⟩
     rintro rfl
     exact hj (pI hN e1 (I.ok.inj _ _ _ e hc ▸ hi))
  ·by_cases hcc : c' = c
   ·subst hcc; exact ⟨_, hc'⟩
   ·obtain ⟨w2, z2⟩ := I.cell y c' e
    exact ⟨w2, z2.sameBut hs hcc⟩
  ·obtain ⟨e, n, ne, nf, d⟩ := I.pin p hp
   refine ⟨(hs.2 p.1 ?_).trans e, n, ne, nf, d⟩
   intro q
   rw [q, hoc] at e
   have q' : oc = p.2 := Option.some.inj e
   exact d w' (by rw [← q']; exact hocd)
theorem jZ {M : Model} {A : Around} {E : Value → Shared → Prop} {i : Nat} {x : Str} {v : V} {u : Value} {Q : Unit → Shared → Prop} (I : Inv X pins σ H s) (hN : X.N.Nodup) (hi : X.N[i]? = some x) (hx : Loc X.env.scope x) (r : RelV v u)
  (h : ∀ s', Inv X pins (σ.set i (some v)) H s' → Q () s') (hf : X.fn x = true ∨ X.env.scope.names.lookup x = some .local := by first | exact .inl rfl | exact .inr rfl | assumption) : wpAny M A (storeName X.env x u) Q E s :=
 qy I hN hi hx r (fun s' I' _ => h s' I') hf
theorem Inv.call' {s' : Shared} {ch : List Addr} (I : Inv X pins σ H s) (ho : s'.os = s.os) (u : Un (frs X.stack) ch H H' s.heap s'.heap) (hok : HOk X.prog X.w H' s'.heap) (hg : AllBare s'.gens)
  (hch : ∀ b ∈ ch, (b ∈ X.ex ∨ X.s₀.heap.objs.size ≤ b) ∧ b ≠ X.env.locals ∧ (∀ x c, X.env.cells.lookup x = some c → c ≠ b) ∧ ∀ p ∈ X.pn ++ pins, p.1 ≠ b) : Inv X pins σ H' s' := by
 obtain ⟨h', g', d', t', o'⟩ := s'
 have e : o' = s.os := ho
 subst e
 exact I.call (g' := g') (t' := t') (d' := d') u hok hg hch
end
abbrev XK := Value → Option Addr → Hp → Prop
abbrev St := List (Option V)
abbrev VK := V → Hp → Prop
abbrev TE := St → Hp → VK → Prop
abbrev TT := St → Hp → (Bool → Hp → Prop) → Prop
abbrev TA := St → Hp → (List V → Hp → Prop) → Prop
structure Ends where
 nx : St → Hp → Prop
 rt : VK
 bk : St → Hp → Prop := fun _ _ => False
 ct : St → Hp → Prop := fun _ _ => False
abbrev TS := Ends → St → Hp → Prop
def EP (X : Cx) (pins : List (Addr × Obj)) (σ : St) (Q : VK) (u : Value) (s' : Shared) : Prop := ∃ v H', Inv X pins σ H' s' ∧ RelV v u ∧ Q v H'
def TP (X : Cx) (pins : List (Addr × Obj)) (σ : St) (Q : Bool → Hp → Prop) (b : Bool) (s' : Shared) : Prop := ∃ H', Inv X pins σ H' s' ∧ Q b H'
def AP (X : Cx) (pins : List (Addr × Obj)) (σ : St) (Q : List V → Hp → Prop) (us : List Value) (s' : Shared) : Prop := ∃ vs H', Inv X pins σ H' s' ∧ Vals vs us ∧ Q vs H'
def SP (X : Cx) (pins : List (Addr × Obj)) (D : Ends) (f : Flow) (s' : Shared) : Prop :=
 match f with
 | .next => ∃ σ' H', Inv X pins σ' H' s' ∧ D.nx σ' H'
 | .brk => ∃ σ' H', Inv X pins σ' H' s' ∧ D.bk σ' H'
 | .cont => ∃ σ' H', Inv X pins σ' H' s' ∧ D.ct σ' H'
 | .ret u => ∃ v σ' H', Inv X pins σ' H' s' ∧ RelV v u ∧ D.rt v H'
def PE (X : Cx) (e : Expr) (t : TE) : Prop :=
 ∀ (pins : List (Addr × Obj)) (s : Shared) (σ : St) (H : Hp) (Q : VK), Inv X pins σ H s → t σ H Q → wpAny (model X.prog X.w) X.A (eval e X.env) (EP X pins σ Q) X.xe s
def PT (X : Cx) (e : Expr) (t : TT) : Prop :=
 ∀ (pins : List (Addr × Obj)) (s : Shared) (σ : St) (H : Hp) (Q : Bool → Hp → Prop), Inv X pins σ H s → t σ H Q → wpAny (model X.prog X.w) X.A (isTrue e X.env (eval e X.env)) (TP X pins σ Q) X.xe s
def PW (X : Cx) (e : Expr) (t : TT) : Prop :=
 ∀ (whole : Sem Value) (pins : List (Addr × Obj)) (s : Shared) (σ : St) (H : Hp) (Q : Bool → Hp → Prop), Inv X pins σ H s → t σ H Q → wpAny (model X.prog X.w) X.A (isTrue e X.env whole) (TP X pins σ Q) X.xe s
theorem PW.pt {X : Cx} {e : Expr} {t : TT} (h : PW X e t) : PT X e t := h _
def PA (X : Cx) (es : List Expr) (t : TA) : Prop :=
 ∀ (pos : Pos) (pins : List (Addr × Obj)) (s : Shared) (σ : St) (H : Hp) (Q : List V → Hp → Prop), Inv X pins σ H s → t σ H Q → wpAny (model X.prog X.w) X.A (spliced (backTo pos (starEach es X.env))) (AP X pins σ Q) X.xe s
def PS (X : Cx) (st : Stmt) (t : TS) : Prop :=
 ∀ (pins : List (Addr × Obj)) (s : Shared) (σ : St) (H : Hp) (D : Ends), Inv X pins σ H s → t D σ H → wpAny (model X.prog X.w) X.A (exec st X.env) (SP X pins D) X.xe s
def PSs (X : Cx) (st : List Stmt) (t : TS) : Prop :=
 ∀ (pins : List (Addr × Obj)) (s : Shared) (σ : St) (H : Hp) (D : Ends), Inv X pins σ H s → t D σ H → wpAny (model X.prog X.w) X.A (execs st X.env) (SP X pins D) X.xe s
theorem thn {α : Type} {t : Sem α} {Q Q' : α → Shared → Prop} {M : Model} {A : Around} {E : Value → Shared → Prop} {s : Shared} (h : wpAny M A t Q E s) (hQ : ∀ a s, Q a s → Q' a s) : wpAny M A t Q' E s := wpAny_mono h hQ fun _ _ x => x
end L2
namespace L2
open PySem PySem.Spec PyProof.Rows
section
variable {X : Cx}
theorem bin {a b : Expr} {ta tb : TE} (ha : PE X a ta) (hb : PE X b tb) {pins : List (Addr × Obj)} {s : Shared} {σ : St} {H : Hp} {R : V → V → Hp → Prop} (I : Inv X pins σ H s) (h : ta σ H fun x H1 => tb σ H1 fun y H2 => R x y H2)
  {α : Type} {Q : α → Shared → Prop} {f : Value → Value → Sem α}
  (hf : ∀ v u s2 x y H2, Inv X pins σ H2 s2 → RelV x v → RelV y u → R x y H2 → wpAny (model X.prog X.w) X.A (f v u) Q X.xe s2) :
  wpAny (model X.prog X.w) X.A (eval a X.env) (fun v s₁ => wpAny (model X.prog X.w) X.A (eval b X.env) (fun u s₂ => wpAny (model X.prog X.w) X.A (f v u) Q X.xe s₂) X.xe s₁) X.xe s := by
 refine thn (ha pins s σ H _ I h) fun v s1 ⟨x, H1, I1, r1, q1⟩ => ?_
 refine thn (hb pins s1 σ H1 _ I1 q1) fun u s2 ⟨y, H2, I2, r2, q2⟩ => ?_
 exact hf v u s2 x y H2 I2 r1 r2 q2
def Be (i : Nat) : TE := fun σ H Q => ∃ v, σ[i]? = some (some v) ∧ Q v H
def tC (v : V) : TE := fun _ H Q => Q v H
theorem uU {i : Nat} {x : Str} {pos : Pos} (hN : X.N[i]? = some x) (hv : Vis X.env.scope x) (hd : (x == ("__debug__" : Str)) = false := by decide) (hcd : (x == ("__classdict__" : Str)) = false := by decide) : PE X (.Name x pos) (Be i) := by
 intro pins s σ H Q I h
 obtain ⟨v, e, h⟩ := h
 obtain ⟨m, hn, hl⟩ := I.loc
 obtain ⟨u, r, l⟩ := hl i x v hN e hv
 have fin : EP X pins σ Q u s := ⟨v, H, I, r, h⟩
 rcases l with ⟨hk, hm⟩ | ⟨hk, c, hc, hcell⟩
 ·exact wpAny_Name (wpAny_loadName_local I.ok.kind hk hn hm fin) hd
 ·rcases hk with hk | hk
  ·exact wpAny_Name (wpAny_loadName_cell I.ok.kind hk hc hcell fin) hd
  ·exact wpAny_Name (wpAny_loadName_free I.ok.kind hk hc hcell fin hcd) hd
theorem ao {i j pos} : PE X (.Constant (.int i) j pos) (tC (.int i)) := fun _ _ _ H _ I h => wpAny_Constant_int ⟨.int i, H, I.tok _, ⟨_, rfl⟩, h⟩
theorem fG {b j pos} : PE X (.Constant (.bool b) j pos) (tC (.bl b)) := fun _ _ _ H _ I h => Constant_bool ⟨.bl b, H, I, rfl, h⟩
theorem dY {j pos} : PE X (.Constant .none j pos) (tC .non) := fun _ _ _ H _ I h => Constant_none ⟨.non, H, I, rfl, h⟩
theorem lE {x j pos} : PE X (.Constant (.str x) j pos) (tC (.str x)) := fun _ _ _ H _ I h => Calls.Constant_str ⟨.str x, H, I.tok _, ⟨_, rfl⟩, h⟩
def Gl (X : Cx) (x : Str) : Prop := X.env.kindOf x = some .globalImplicit
theorem gW {E : Value → Shared → Prop} {pins : List (Addr × Obj)} {s : Shared} {σ : St} {H : Hp} {x : Str} {u : Value} {pos : Pos} {Q : Value → Shared → Prop} (I : Inv X pins σ H s) (hg : Gl X x) (hm : X.mg x = some u) (h : Q u s)
  (hd : (x == ("__debug__" : Str)) = false := by decide) : wpAny (model X.prog X.w) X.A (eval (.Name x pos) X.env) Q E s :=
 Calls.Name_function_global I.ok.kind hg (Calls.loadGlobal_global (by rw [I.ok.glob]; exact I.mod.glob.keeps I.bk) hm h) hd
theorem dG {E : Value → Shared → Prop} {pins : List (Addr × Obj)} {s : Shared} {σ : St} {H : Hp} {x : Str} {u : Value} {pos : Pos} {Q : Value → Shared → Prop} (I : Inv X pins σ H s) (hg : Gl X x) (hm : X.mg x = none) (hv : bootBuiltins x = some u) (h : Q u s)
  (hn : x ≠ "__name__" := by decide) (hd : (x == ("__debug__" : Str)) = false := by decide) : wpAny (model X.prog X.w) X.A (eval (.Name x pos) X.env) Q E s := by
 obtain ⟨mb, h1, h2⟩ := I.mod.blt
 exact Calls.Name_function_global I.ok.kind hg (Calls.loadGlobal_builtin (by rw [I.ok.glob]; exact I.mod.glob.keeps I.bk) hm (by rw [I.ok.blt]; exact h1.keeps I.bk) ((h2 x hn).trans hv) h) hd
theorem bw {x : Str} {v : V} {u : Value} {pos : Pos} (hg : Gl X x) (hm : X.mg x = some u) (r : RelV v u) (hd : (x == ("__debug__" : Str)) = false := by decide) : PE X (.Name x pos) (tC v) :=
 fun _ _ _ H _ I h => gW I hg hm ⟨v, H, I, r, h⟩ hd
theorem v5 {x : Str} {v : V} {u : Value} {pos : Pos} (hg : Gl X x) (hm : X.mg x = none) (hv : bootBuiltins x = some u) (r : RelV v u) (hn : x ≠ "__name__" := by decide) (hd : (x == ("__debug__" : Str)) = false := by decide) : PE X (.Name x pos) (tC v) :=
 fun _ _ _ H _ I h => dG I hg hm hv ⟨v, H, I, r, h⟩ hn hd
variable {a b : Expr} {ta tb : TE} {pos : Pos}
def PC (X : Cx) (op : CmpOp) (a b : Expr) (t : TE) : Prop :=
 ∀ (pins : List (Addr × Obj)) (s : Shared) (σ : St) (H : Hp) (Q : VK), Inv X pins σ H s → t σ H Q →
  wpAny (model X.prog X.w) X.A (eval a X.env) (fun v s₁ => wpAny (model X.prog X.w) X.A (eval b X.env) (fun u s₂ => wpAny (model X.prog X.w) X.A (compareOp op v u) (EP X pins σ Q) X.xe s₂) X.xe s₁) X.xe s
theorem xX (b : Expr) {op : CmpOp} (h : op ≠ .In) (h2 : op ≠ .NotIn) : behindInMarks op b = false := by
 have e1 : (op == CmpOp.In) = false := by cases op <;> first | rfl | exact absurd rfl h
 have e2 : (op == CmpOp.NotIn) = false := by cases op <;> first | rfl | exact absurd rfl h2
 cases b <;> simp [behindInMarks, e1, e2]
def Cz (ta : TE) : TE := fun σ H Q => ta σ H fun x H1 => Q (.bl (decide (x = .non))) H1
def Ca (ta : TE) : TE := fun σ H Q => ta σ H fun x H1 => Q (.bl (!decide (x = .non))) H1
theorem RelV.none_iff {x : V} {v : Value} (r : RelV x v) : (v == Value.none) = decide (x = .non) := by
 cases x with
 | non => cases r; rfl
 | bl _ => cases r; rfl
 | int _ => obtain ⟨t, rfl⟩ := r; rfl
 | str _ => obtain ⟨t, rfl⟩ := r; rfl
 | byt _ => obtain ⟨t, rfl⟩ := r; rfl
 | flt _ => obtain ⟨t, rfl⟩ := r; rfl
 | ref _ => cases r; rfl
 | ty _ => cases r; rfl
theorem mq {j pos'} (ha : PE X a ta) : PC X .Is a (.Constant .none j pos') (Cz ta) := by
 intro pins s σ H Q I h
 refine thn (ha pins s σ H _ I h) fun v s1 ⟨x, H1, I1, r1, q1⟩ => ?_
 exact Constant_none (is_none_gen ⟨.bl _, H1, I1, by rw [r1.none_iff]; rfl, q1⟩)
theorem vP {j pos'} (ha : PE X a ta) : PC X .IsNot a (.Constant .none j pos') (Ca ta) := by
 intro pins s σ H Q I h
 refine thn (ha pins s σ H _ I h) fun v s1 ⟨x, H1, I1, r1, q1⟩ => ?_
 exact Constant_none (isnot_none_gen ⟨.bl _, H1, I1, by rw [r1.none_iff]; rfl, q1⟩)
def tB (t : TE) : TT := fun σ H Q => t σ H fun x H1 => ∃ c, x = .bl c ∧ Q c H1
theorem iM {op : CmpOp} {t : TE} (h : PC X op a b t) (h1 : behindInMarks op b = false := by first | exact xX _ (by decide) (by decide) | rfl) : PT X (.Compare a [op] [b] pos) (tB t) := by
 intro pins s σ H Q I hw
 refine wpAny_isTrue_Compare1 (thn (h pins s σ H _ I hw) fun v s1 h1 => thn h1 fun u s2 h2 => thn h2 fun c s3 ⟨x, H1, I1, r1, q1⟩ => ?_) h1
 obtain ⟨d, rfl, q⟩ := q1
 cases r1
 exact wpAny_truthy_bool ⟨H1, I1, q⟩
theorem fZ {e : Expr} {t : TE} (h : PE X e t) (he : ∀ whole, isTrue e X.env whole = (do let v ← whole; standAt e.pos; holding [v] (truthy v)) := by intro _; rfl) : PT X e (tB t) := by
 intro pins s σ H Q I hw
 refine isTrue_plain (thn (h pins s σ H _ I hw) fun v s1 ⟨x, H1, I1, r1, q1⟩ => ?_) (he _)
 obtain ⟨d, rfl, q⟩ := q1
 cases r1
 exact wpAny_truthy_bool ⟨H1, I1, q⟩
variable {tA tB' : TT} {rest : List Expr}
def De (t u : TT) : TT := fun σ H Q => t σ H fun c H1 => if c = true then u σ H1 Q else Q false H1
def tOr (t u : TT) : TT := fun σ H Q => t σ H fun c H1 => if c = true then Q true H1 else u σ H1 Q
def CW (t : TT) : TT := fun σ H Q => t σ H fun c H1 => Q (!c) H1
theorem jo (ha : PT X a tA) : PW X (.BoolOp .And [a] pos) tA := by
 intro wh pins s σ H Q I h
 refine isTrue_and (thn (ha pins s σ H Q I h) fun c s1 e => ?_)
 cases c with
 | true => exact isTrue_and_nil e
 | false => exact e
theorem rO (ha : PT X a tA) : PW X (.BoolOp .Or [a] pos) tA := by
 intro wh pins s σ H Q I h
 refine isTrue_or (thn (ha pins s σ H Q I h) fun c s1 e => ?_)
 cases c with
 | false => exact isTrue_or_nil e
 | true => exact e
theorem jL (ha : PT X a tA) (hb : PW X (.BoolOp .And (b :: rest) pos) tB') : PW X (.BoolOp .And (a :: b :: rest) pos) (De tA tB') := by
 intro wh pins s σ H Q I h
 refine isTrue_and (thn (ha pins s σ H _ I h) fun c s1 ⟨H1, I1, q1⟩ => ?_)
 cases c with
 | true => exact hb wh pins s1 σ H1 Q I1 q1
 | false => exact ⟨H1, I1, q1⟩
theorem rZ (ha : PT X a tA) (hb : PW X (.BoolOp .Or (b :: rest) pos) tB') : PW X (.BoolOp .Or (a :: b :: rest) pos) (tOr tA tB') := by
 intro wh pins s σ H Q I h
 refine isTrue_or (thn (ha pins s σ H _ I h) fun c s1 ⟨H1, I1, q1⟩ => ?_)
 cases c with
 | true => exact ⟨H1, I1, q1⟩
 | false => exact hb wh pins s1 σ H1 Q I1 q1
theorem eU (ha : PT X a tA) : PT X (.UnaryOp .Not a pos) (CW tA) := by
 intro pins s σ H Q I h
 exact isTrue_not (ha pins s σ H (fun c H1 => Q (!c) H1) I h)
def BW (ta tb : TE) : TE := fun σ H Q => ta σ H fun x H1 => ∃ c, x = .bl c ∧ if c = true then tb σ H1 Q else Q (.bl false) H1
theorem oO {op} {t : TE} (h : PE X a t) : PE X (.BoolOp op [a] pos) t := fun pins s σ H Q I hw => BoolOp_one (h pins s σ H Q I hw)
theorem oE (ha : PE X a ta) (hb : PE X (.BoolOp .And (b :: rest) pos) tb) : PE X (.BoolOp .And (a :: b :: rest) pos) (BW ta tb) := by
 intro pins s σ H Q I h
 refine BoolOp_and (thn (ha pins s σ H _ I h) fun v s1 ⟨x, H1, I1, r1, q1⟩ => ?_)
 obtain ⟨c, rfl, q1⟩ := q1
 cases r1
 refine wpAny_truthy_bool ?_
 cases c with
 | true => exact hb pins s1 σ H1 Q I1 q1
 | false => exact ⟨.bl false, H1, I1, rfl, q1⟩
end
end L2
namespace L2
open PySem PySem.Spec PyProof.Rows
def SqL (K : PySem.W.Frag) (H : Hp) (a : Addr) (xs : List V) : Prop :=
 Rd H a (.lst xs) ∨
  ∃ (o : Obj) (its : Array Value) (n : Nat), K.lookup a = some o ∧ o.cls = .type "list" ∧ o.dict = none ∧ o.data = .seq its n ∧ its.size ≤ sizeLine ∧ Vals xs its.toList
def SqT (K : PySem.W.Frag) (H : Hp) (a : Addr) (xs : List V) : Prop :=
 Rd H a (.tup xs) ∨
  ∃ (o : Obj) (its : Array Value) (n : Nat), K.lookup a = some o ∧ o.cls = .type "tuple" ∧ o.data = .seq its n ∧ its.size ≤ sizeLine ∧ Vals xs its.toList
def CN : Value → Option V
 | .none => some .non
 | .bool b => some (.bl b)
 | .int i _ => some (.int i)
 | .str x _ => some (.str x)
 | .bytes b _ => some (.byt b)
 | .float b _ => some (.flt b)
 | .ref a => some (.ref a)
 | .type n => some (.ty n)
 | _ => none
theorem RelV.abs {x : V} {u : Value} (r : RelV x u) : CN u = some x := by
 cases x with
 | non => cases r; rfl
 | bl _ => cases r; rfl
 | int _ => obtain ⟨t, rfl⟩ := r; rfl
 | str _ => obtain ⟨t, rfl⟩ := r; rfl
 | byt _ => obtain ⟨t, rfl⟩ := r; rfl
 | flt _ => obtain ⟨t, rfl⟩ := r; rfl
 | ref _ => cases r; rfl
 | ty _ => cases r; rfl
theorem RelV.inj {x y : V} {u : Value} (r : RelV x u) (q : RelV y u) : x = y := Option.some.inj (r.abs.symm.trans q.abs)
theorem Vals.inj : ∀ {xs ys : List V} {us : List Value}, Vals xs us → Vals ys us → xs = ys
 | _, _, _, .nil, .nil => rfl
 | _, _, _, .cons r t, .cons r' t' => by rw [r.inj r', Vals.inj t t']
section
variable {X : Cx} {pins : List (Addr × Obj)} {σ : St} {H : Hp} {s : Shared} {a : Addr} {xs ys : List V}
theorem SqL.of {K : PySem.W.Frag} (h : H a = some (.lst xs)) : SqL K H a xs := .inl (.inl h)
theorem SqT.of {K : PySem.W.Frag} (h : H a = some (.tup xs)) : SqT K H a xs := .inl (.inl h)
theorem Inv.list (I : Inv X pins σ H s) (h : SqL X.K H a xs) : ∃ its : List Value, Vals xs its ∧ PlainL s.heap a its.toArray ∧ xs.length ≤ sizeLine := by
 rcases h with h | ⟨o, its, n, hk, hc, hd, hs, hz, r⟩
 ·obtain ⟨z, its, n, r, e⟩ := h.ok I.hok
  exact ⟨its, r, ⟨_, n, e, rfl, rfl, rfl⟩, z⟩
 ·refine ⟨its.toList, r, ⟨o, n, I.kIn a o hk, hc, hd, by simpa using hs⟩, ?_⟩
  have e := r.length
  simp only [Array.length_toList] at e
  omega
theorem Inv.tuple (I : Inv X pins σ H s) (h : SqT X.K H a xs) : ∃ its : List Value, Vals xs its ∧ IsTup s.heap a its.toArray ∧ xs.length ≤ sizeLine := by
 rcases h with h | ⟨o, its, n, hk, hc, hs, hz, r⟩
 ·obtain ⟨z, its, r, p⟩ := h.ok I.hok
  exact ⟨its, r, p, z⟩
 ·refine ⟨its.toList, r, ⟨o, I.kIn a o hk, hc, n, by simpa using hs⟩, ?_⟩
  have e := r.length
  simp only [Array.length_toList] at e
  omega
theorem Inv.list_inj (I : Inv X pins σ H s) (h : SqL X.K H a xs) (h' : SqL X.K H a ys) : xs = ys := by
 obtain ⟨its, r, ⟨o, n, e, _, _, d⟩, _⟩ := I.list h
 obtain ⟨its', r', ⟨o', n', e', _, _, d'⟩, _⟩ := I.list h'
 rw [e] at e'; cases e'
 rw [d] at d'
 injection d' with d1 _
 have : its = its' := by simpa using congrArg Array.toList d1
 subst this
 exact r.inj r'
end
abbrev Cx.wish (X : Cx) (E : Value → Shared → Prop) : Cx := { X with xe := E }
abbrev Cx.nox (X : Cx) : Cx := X.wish fun _ _ => False
theorem Cx.Ok.wish {X : Cx} (ok : X.Ok) (E : Value → Shared → Prop) : (X.wish E).Ok :=
 ⟨ok.mod, ok.kind, ok.glob, ok.blt, ok.above, ok.inj, ok.has, ok.cab, ok.hd, ok.frames, ok.stk, ok.exf, ok.bs, ok.bsz, ok.noex, ok.exfs, ok.funs, ok.frf⟩
theorem Cx.Ok.unwish {X : Cx} {E : Value → Shared → Prop} (ok : (X.wish E).Ok) : X.Ok :=
 ⟨ok.mod, ok.kind, ok.glob, ok.blt, ok.above, ok.inj, ok.has, ok.cab, ok.hd, ok.frames, ok.stk, ok.exf, ok.bs, ok.bsz, ok.noex, ok.exfs, ok.funs, ok.frf⟩
section
variable {X : Cx} {pins : List (Addr × Obj)} {σ : St} {H : Hp} {s : Shared} {E : Value → Shared → Prop}
theorem Inv.wish (I : Inv X pins σ H s) (E : Value → Shared → Prop) : Inv (X.wish E) pins σ H s := ⟨I.ok.wish E, I.os, I.bare, I.base, I.loc, I.cell, I.free, I.freeC, I.pin, I.hok, I.len⟩
theorem Inv.unwish (I : Inv (X.wish E) pins σ H s) : Inv X pins σ H s := ⟨I.ok.unwish, I.os, I.bare, I.base, I.loc, I.cell, I.free, I.freeC, I.pin, I.hok, I.len⟩
theorem SP.unwish {D : Ends} {f : Flow} {s' : Shared} (h : SP (X.wish E) pins D f s') : SP X pins D f s' := by
 cases f with
 | next => obtain ⟨σ', H', I, q⟩ := h; exact ⟨σ', H', I.unwish, q⟩
 | brk => obtain ⟨σ', H', I, q⟩ := h; exact ⟨σ', H', I.unwish, q⟩
 | cont => obtain ⟨σ', H', I, q⟩ := h; exact ⟨σ', H', I.unwish, q⟩
 | ret u => obtain ⟨v, σ', H', I, r, q⟩ := h; exact ⟨v, σ', H', I.unwish, r, q⟩
theorem PSs.nox {st : List Stmt} {t : TS} (h : PSs X.nox st t) : PSs X st t := fun pins s σ H D I hw =>
 wpAny_mono (h pins s σ H D (I.wish _) hw) (fun _ _ q => q.unwish) fun _ _ z => False.elim z
end
section
variable {X : Cx} {st : Stmt} {rest : List Stmt} {t u : TS} {e : Expr} {te : TE} {pos : Pos}
def yt : TS := fun D σ H => D.nx σ H
def CT (t u : TS) : TS := fun D σ H => t { D with nx := u D } σ H
theorem aJ : PSs X [] yt := fun _ _ σ H _ I h => wpAny_execs_nil ⟨σ, H, I, h⟩
theorem aq (h1 : PS X st t) (h2 : PSs X rest u) : PSs X (st :: rest) (CT t u) := by
 intro pins s σ H D I h
 refine wpAny_execs_cons (thn (h1 pins s σ H { D with nx := u D } I h) fun f s1 q => ?_)
 cases f with
 | next =>
  obtain ⟨σ', H', I', q⟩ := q
  exact h2 pins s1 σ' H' D I' q
 | ret v => exact q
 | brk => exact q
 | cont => exact q
theorem az (h1 : PS X st t) : PSs X [st] t := by
 intro pins s σ H D I h
 refine wpAny_execs_cons (thn (h1 pins s σ H D I h) fun f s1 q => ?_)
 cases f with
 | next => exact wpAny_execs_nil q
 | ret v => exact q
 | brk => exact q
 | cont => exact q
theorem Inv.quiet {pins : List (Addr × Obj)} {σ : St} {H : Hp} {s : Shared} (I : Inv X pins σ H s) : interactive X.env = false := by simp [interactive, I.ok.kind]
def Bu (te : TE) : TS := fun D σ H => te σ H fun _ H1 => D.nx σ H1
theorem bL (he : PE X e te) (hs : swapsWith e none pos.line X.env = pure false := by rfl) : PS X (.Expr e pos) (Bu te) := by
 intro pins s σ H D I h
 exact wpAny_Expr_any (thn (he pins s σ H _ I h) fun v s1 ⟨x, H1, I1, r1, q1⟩ => ⟨σ, H1, I1, q1⟩) I.quiet hs
def Cr (te : TE) : TS := fun D σ H => te σ H D.rt
theorem aC (he : PE X e te) : PS X (.Return (some e) pos) (Cr te) := by
 intro pins s σ H D I h
 exact wpAny_Return_some (thn (he pins s σ H _ I h) fun v s1 ⟨x, H1, I1, r1, q1⟩ => ⟨x, σ, H1, I1, r1, q1⟩)
def Cq (c : TT) (t u : TS) : TS := fun D σ H => c σ H fun b H1 => if b = true then t D σ H1 else u D σ H1
theorem aX {c : Expr} {a b : List Stmt} {tc : TT} (hc : PT X c tc) (ha : PSs X a t) (hb : PSs X b u) : PS X (.If c a b pos) (Cq tc t u) := by
 intro pins s σ H D I h
 refine wpAny_If (thn (hc pins s σ H _ I h) fun d s1 ⟨H1, I1, q1⟩ => ?_)
 cases d with
 | true => exact ha pins s1 σ H1 D I1 q1
 | false => exact hb pins s1 σ H1 D I1 q1
def Bj : TS := fun _ _ _ => False
theorem su : PS X st Bj := fun _ _ _ _ _ _ h => h.elim
end
abbrev TG := V → St → Hp → (St → Hp → Prop) → Prop
abbrev TGs := List V → St → Hp → (St → Hp → Prop) → Prop
def PG (X : Cx) (target : Expr) (t : TG) : Prop :=
 ∀ (pins : List (Addr × Obj)) (s : Shared) (σ : St) (H : Hp) (v : V) (u : Value) (Q : St → Hp → Prop), Inv X pins σ H s → RelV v u → t v σ H Q →
  wpAny (model X.prog X.w) X.A (assign target X.env u) (fun _ s' => ∃ σ' H', Inv X pins σ' H' s' ∧ Q σ' H') X.xe s
def PGs (X : Cx) (ts : List Expr) (t : TGs) : Prop :=
 ∀ (pins : List (Addr × Obj)) (s : Shared) (σ : St) (H : Hp) (vs : List V) (us : List Value) (Q : St → Hp → Prop), Inv X pins σ H s → Vals vs us → t vs σ H Q →
  wpAny (model X.prog X.w) X.A (assignInOrder ((assignEach ts X.env).map (·.2)) us) (fun _ s' => ∃ σ' H', Inv X pins σ' H' s' ∧ Q σ' H') X.xe s
abbrev Ab := V → V → V → Hp → (Hp → Prop) → Prop
def BL (X : Cx) (t : Ab) : Prop :=
 ∀ (pins : List (Addr × Obj)) (s : Shared) (σ : St) (H : Hp) (o i v : V) (ov iv u : Value) (Q : Hp → Prop), Inv X pins σ H s → RelV o ov → RelV i iv → RelV v u → t o i v H Q →
  wpAny (model X.prog X.w) X.A (setItem ov iv u) (fun _ s' => ∃ H', Inv X pins σ H' s' ∧ Q H') X.xe s
section
variable {X : Cx} {pos : Pos}
def qg (i : Nat) : TG := fun v σ H Q => Q (σ.set i (some v)) H
theorem bc {i : Nat} {x : Str} (hN : X.N.Nodup) (hi : X.N[i]? = some x) (hx : Loc X.env.scope x) (hf : X.fn x = true ∨ X.env.scope.names.lookup x = some .local := by first | exact .inl rfl | exact .inr rfl | assumption) : PG X (.Name x pos) (qg i) := by
 intro pins s σ H v u Q I r h
 exact wpAny_assign_Name (jZ I hN hi hx r (fun s' I' => ⟨_, H, I', h⟩) hf)
def Ci : TGs := fun vs σ H Q => vs = [] ∧ Q σ H
def yr (t : TG) (u : TGs) : TGs := fun vs σ H Q => ∃ v r, vs = v :: r ∧ t v σ H fun σ' H' => u r σ' H' Q
theorem gU : PGs X [] Ci := by
 intro pins s σ H vs us Q I r h
 obtain ⟨e, h⟩ := h
 subst e
 cases r
 exact assignInOrder_nil ⟨σ, H, I, h⟩
theorem bT {e : Expr} {es : List Expr} {t : TG} {u : TGs} (h1 : PG X e t) (h2 : PGs X es u)
  (hs : (assignEach (e :: es) X.env).map (·.2) = assign e X.env :: (assignEach es X.env).map (·.2) := by rfl) : PGs X (e :: es) (yr t u) := by
 intro pins s σ H vs us Q I r h
 obtain ⟨v, vr, e1, h⟩ := h
 subst e1
 cases r with
 | cons r rr =>
  rw [hs]
  refine assignInOrder_cons (thn (h1 pins s σ H _ _ _ I r h) fun _ s1 ⟨σ1, H1, I1, q1⟩ => ?_)
  exact h2 pins s1 σ1 H1 _ _ Q I1 rr q1
def By (K : PySem.W.Frag) (n : Nat) (t : TGs) : TG := fun v σ H Q => ∃ a xs, v = .ref a ∧ SqT K H a xs ∧ xs.length = n ∧ t xs σ H Q
theorem jM {es : List Expr} {k : Nat} {t : TGs} {n : Nat} (hc : X.calm = true) (h : PGs X es t)
  (hn : (assignEach es X.env).length = n := by rfl) (hst : (assignEach es X.env).findIdx? (·.1) = none := by rfl) : PG X (.Tuple es k pos) (By X.K n t) := by
 intro pins s σ H v u Q I r hw
 obtain ⟨a, xs, e1, hq, hl, hw⟩ := hw
 subst e1
 cases r
 obtain ⟨its, rv, ht, hz⟩ := I.tuple hq
 refine assign_Tuple_tuple (I.ok.hd hc) ht (by simp [hn, ← hl, rv.length]) hst fun h' hx => ?_
 have I1 : Inv X pins σ H { s with heap := h' } := I.kept (t' := s.toks) fun b o e => hx b o (Nat.ne_of_lt (Heap.lt_size e)) e
 exact h pins _ σ H xs _ Q I1 (by simpa using rv) hw
def Cy (to ti : TE) (t : Ab) : TG := fun v σ H Q => to σ H fun o H1 => ti σ H1 fun i H2 => t o i v H2 fun H3 => Q σ H3
theorem vA {o i : Expr} {to ti : TE} {t : Ab} (ho : PE X o to) (hi : PE X i ti) (hs : BL X t)
  (ha : ∀ v, assign (.Subscript o i pos) X.env v = (do
   let ov ← holding [v] (eval o X.env)
   let iv ← holding [v, ov] (eval i X.env)
   standAt pos
   holding [v, ov, iv] (setItem ov iv v)
   release [v, ov, iv] []) := by intro _; rfl) : PG X (.Subscript o i pos) (Cy to ti t) := by
 intro pins s σ H v u Q I r h
 rw [ha]
 refine wpAny_bind (wpAny_holding (thn (ho pins s σ H _ I h) fun ov s1 ⟨x, H1, I1, r1, q1⟩ => ?_))
 refine wpAny_bind (wpAny_holding (thn (hi pins s1 σ H1 _ I1 q1) fun iv s2 ⟨y, H2, I2, r2, q2⟩ => ?_))
 refine wpAny_bind (wpAny_standAt (wpAny_bind (wpAny_holding (thn (hs pins s2 σ H2 x y v ov iv u _ I2 r1 r2 r q2) fun _ s3 ⟨H3, I3, q3⟩ => ?_))))
 exact wpAny_release ⟨σ, H3, I3, q3⟩
def An (te : TE) (g : TG) : TS := fun D σ H => te σ H fun x H1 => g x σ H1 D.nx
theorem o8 {tg e : Expr} {te : TE} {g : TG} (he : PE X e te) (hg : PG X tg g) (hs : swapsWithSole [tg] e pos.line X.env = pure false := by rfl) (hw : swappedStores [tg] e X.env = pure none := by rfl)
  (h1 : (assignEach [tg] X.env).map (·.2) = [assign tg X.env] := by rfl) : PS X (.Assign [tg] e pos) (An te g) := by
 intro pins s σ H D I h
 refine wpAny_Assign_stores (thn (he pins s σ H _ I h) fun v s1 ⟨x, H1, I1, r1, q1⟩ => ?_) hs hw
 rw [h1]
 exact thn (hg pins s1 σ H1 x v _ I1 r1 q1) fun _ s2 q => q
theorem aF {i : Nat} {x : Str} {e : Expr} {te : TE} {pos' : Pos} (hN : X.N.Nodup) (hi : X.N[i]? = some x) (hx : Loc X.env.scope x) (he : PE X e te) (hs : swapsWith e (some (.Name x pos')) pos.line X.env = pure false := by rfl) (hf : X.fn x = true ∨ X.env.scope.names.lookup x = some .local := by first | exact .inl rfl | exact .inr rfl | assumption) :
  PS X (.Assign [.Name x pos'] e pos) (An te (qg i)) := by
 intro pins s σ H D I h
 refine wpAny_Assign_Name (thn (he pins s σ H _ I h) fun v s1 ⟨y, H1, I1, r1, q1⟩ => ?_) hs
 exact jZ I1 hN hi hx r1 (fun s2 I2 => ⟨_, H1, I2, q1⟩) hf
end
section
variable {X : Cx} {pos : Pos}
def Av (c : TT) (tb : TS) : TS := fun D σ H => ∃ W : Nat → St → Hp → Prop, (∃ m, W m σ H) ∧ ∀ m σ H, W m σ H →
 c σ H fun b H1 => if b = true then ∃ N : St → Hp → Prop, (∀ σ' H', N σ' H' → ∃ m', m' < m ∧ W m' σ' H') ∧ tb { D with nx := N, ct := N, bk := D.nx } σ H1 else D.nx σ H1
theorem pH {c : Expr} {body : List Stmt} {tc : TT} {tb : TS} (hp : PassesOwn (model X.prog X.w) X.A X.env X.xe) (hc : PT X c tc) (hb : PSs X body tb) : PS X (.While c body [] pos) (Av tc tb) := by
 intro pins s σ H D I h
 obtain ⟨W, ⟨m0, w0⟩, turn⟩ := h
 refine wpAny_While (codeAny_whileLoop (fun n s' => ∃ σ' H', Inv X pins σ' H' s' ∧ W n σ' H') ?_ m0 ⟨σ, H, I, w0⟩)
 rintro n s1 ⟨σ1, H1, I1, w1⟩
 refine wpAny_passesOwn hp (thn (hc pins s1 σ1 H1 _ I1 (turn n σ1 H1 w1)) fun b s2 ⟨H2, I2, q2⟩ => ?_)
 cases b with
 | true =>
  obtain ⟨N, hN, q2⟩ := q2
  rw [if_pos rfl]
  refine wpAny_passesOwn hp (thn (hb pins s2 σ1 H2 _ I2 q2) fun f s3 q3 => ?_)
  cases f with
  | next =>
   obtain ⟨σ3, H3, I3, n3⟩ := q3
   obtain ⟨m', hm, w3⟩ := hN σ3 H3 n3
   exact ⟨m', hm, σ3, H3, I3, w3⟩
  | cont =>
   obtain ⟨σ3, H3, I3, n3⟩ := q3
   obtain ⟨m', hm, w3⟩ := hN σ3 H3 n3
   exact ⟨m', hm, σ3, H3, I3, w3⟩
  | brk => exact q3
  | ret v => exact q3
 | false =>
  rw [if_neg Bool.false_ne_true]
  exact wpAny_execs_nil ⟨σ1, H2, I2, q2⟩
end
structure It where
 go : Nat → Hp → Prop
 yld : Nat → Hp → V → Hp → Prop
 stop : Nat → Hp → Prop
def jb (X : Cx) (pins : List (Addr × Obj)) (H : Hp) (b : Addr) : Prop :=
 H b = none ∧ b ≠ X.env.locals ∧ b ∉ X.fs ∧ (b ∈ X.ex ∨ X.s₀.heap.objs.size ≤ b) ∧ (∀ x c, X.env.cells.lookup x = some c → c ≠ b) ∧ ∀ p ∈ X.pn ++ pins, p.1 ≠ b
theorem Inv.fpOk {X : Cx} {pins : List (Addr × Obj)} {σ : St} {H H' : Hp} {s : Shared} {b : Addr} (I : Inv X pins σ H s) (hb : s.heap.objs.size ≤ b) (hn : H' b = none) : jb X pins H' b := by
 refine ⟨hn, Nat.ne_of_gt (Nat.lt_of_lt_of_le I.lt hb), I.nofs hb, .inr (Nat.le_trans I.sz hb), fun x c e z => ?_, fun p hp z => ?_⟩
 ·obtain ⟨v, q⟩ := I.cell x c e
  exact absurd (Nat.lt_of_lt_of_le q.lt (by rw [z]; exact hb)) (Nat.lt_irrefl _)
 ·exact absurd (Nat.lt_of_lt_of_le (Heap.lt_size (I.pin p hp).1) (by rw [z]; exact hb)) (Nat.lt_irrefl _)
structure Turn (P : Program) (w : World) (K : PySem.W.Frag) (tg : Expr) (J : It) (fp : List Addr) (it : Addr) (tn : Nat → Heap → Prop) : Prop where
 mem : it ∈ fp
 obj : ∀ i h, tn i h → ∀ b ∈ fp, ∃ o, h.get? b = some o ∧ ∀ v, o.data ≠ .cell v
 keep : ∀ i h h', tn i h → (∀ b ∈ fp, ∀ o, h.get? b = some o → h'.get? b = some o) → tn i h'
 item : ∀ (X : Cx), X.prog = P → X.w = w → X.K = K → X.calm = true → ∀ (i : Nat) (pins : List (Addr × Obj)) (s : Shared) (σ : St) (H : Hp) (E : Value → Shared → Prop), Inv X pins σ H s → (∀ b ∈ fp, jb X pins H b) → tn i s.heap → J.go i H →
  wpAny (model P w) X.A (pyNext (.ref it)) (fun r s1 => ∃ u, r = some u ∧
   wpAny (model P w) X.A (letOwnedTupleGo tg (.ref it) u) (fun _ s2 => ∃ x H', Inv X pins σ H' s2 ∧ RelV x u ∧ J.yld i H x H' ∧ tn (i + 1) s2.heap ∧ ∀ b ∈ fp, H' b = none) E s1) E s
 done : ∀ (X : Cx), X.prog = P → X.w = w → X.K = K → X.calm = true → ∀ (i : Nat) (pins : List (Addr × Obj)) (s : Shared) (σ : St) (H : Hp) (E : Value → Shared → Prop), Inv X pins σ H s → (∀ b ∈ fp, jb X pins H b) → tn i s.heap → J.stop i H →
  wpAny (model P w) X.A (pyNext (.ref it)) (fun r s1 => r = none ∧ Inv X pins σ H s1) E s
 self : ∀ (A : Around) (i : Nat) (s : Shared) (Q : Value → Shared → Prop) (E : Value → Shared → Prop), tn i s.heap → Q (.ref it) s → wpAny (model P w) A (pyIter (.ref it)) Q E s
abbrev TI := St → Hp → (It → Hp → Prop) → Prop
def PIE (X : Cx) (pins : List (Addr × Obj)) (σ : St) (tg : Expr) (R : It → Hp → Prop) (itv : Value) (s2 : Shared) : Prop :=
 ∃ (it : Addr) (fp : List Addr) (tn : Nat → Heap → Prop) (J : It) (H' : Hp), itv = .ref it ∧ Inv X pins σ H' s2 ∧ Turn X.prog X.w X.K tg J fp it tn ∧ tn 0 s2.heap ∧ (∀ b ∈ fp, jb X pins H' b) ∧ R J H'
def PI (X : Cx) (tg iter : Expr) (wi : TI) : Prop :=
 ∀ (pins : List (Addr × Obj)) (s : Shared) (σ : St) (H : Hp) (R : It → Hp → Prop), Inv X pins σ H s → wi σ H R →
  wpAny (model X.prog X.w) X.A (eval iter X.env) (fun v s1 => wpAny (model X.prog X.w) X.A (pyIter v) (PIE X pins σ tg R) X.xe s1) X.xe s
theorem vQ {M : Model} {A : Around} {E : Value → Shared → Prop} {s : Shared} {tg : Expr} {it : Addr} {u : Value} {o : Obj} {n : String} {vs : Array Value} {Q : Unit → Shared → Prop} (ho : s.heap.get? it = some o) (hc : o.cls = .type n) (hd : o.data = .fields vs)
    (hn : ["enumerate", "zip", "dict_itemiterator", "dict_reverseitemiterator", "odict_iterator", "itertools.zip_longest", "itertools.pairwise"].contains n = false) (hQ : Q () s) : wpAny M A (letOwnedTupleGo tg (.ref it) u) Q E s := by
  unfold letOwnedTupleGo
  cases tg <;> first
    | exact wpAny_pure hQ
    | (cases u <;> first
        | exact wpAny_pure hQ
        | (refine wpAny_bind (wpAny_load ho ?_)
           rw [hc, hd]
           show wpAny M A (if (["enumerate", "zip", "dict_itemiterator", "dict_reverseitemiterator", "odict_iterator", "itertools.zip_longest", "itertools.pairwise"].contains n && vs[0]? == some (rawInt _)) = true then _ else _) Q E s
           rw [if_neg (by intro h; rw [hn, Bool.false_and] at h; cases h)]
           exact wpAny_pure hQ))
def Itl (K : PySem.W.Frag) (a : Addr) : It :=
 ⟨fun i H => ∃ xs x, SqL K H a xs ∧ xs[i]? = some x, fun i H x H' => H' = H ∧ ∀ xs, SqL K H a xs → xs[i]? = some x, fun i H => ∃ xs, SqL K H a xs ∧ xs.length ≤ i⟩
def Itr (lo : Int) (n : Nat) : It := ⟨fun i _ => i < n, fun i H x H' => H' = H ∧ x = .int (lo + i), fun i _ => n ≤ i⟩
theorem xf {P : Program} {w : World} {K : PySem.W.Frag} {tg : Expr} (a it : Addr) : Turn P w K tg (Itl K a) [it] it (fun i h => h.IsListIter it a i) where
 mem := by simp
 obj := fun i h st b hb => by
  have e : b = it := by simpa using hb
  subst e
  obtain ⟨o, e, c, d⟩ := st
  exact ⟨o, e, fun v z => by rw [d] at z; cases z⟩
 keep := fun i h h' st k => st.at fun o e => k it (by simp) o e
 item := by
  intro X hP hw hK hc i pins s σ H E I hf st hg
  subst hP hw hK
  obtain ⟨xs, x, hq, hx⟩ := hg
  obtain ⟨its, rv, p, hz⟩ := I.list hq
  obtain ⟨u, hu, ru⟩ := rv.get hx
  obtain ⟨f0, f1, f2, f3, f4, f5⟩ := hf it (by simp)
  refine wpAny_pyNext_list_item st p.isList (x := u) (by simpa using hu) fun h' st' sb => ?_
  have I1 : Inv X pins σ H { s with heap := h' } := I.turned (t' := s.toks) (fun b o hb e => (sb.2 b hb).trans e) f0 f1 f3 f4 f5
  obtain ⟨o, e, c, d⟩ := id st'
  exact ⟨u, rfl, vQ (s := { s with heap := h' }) e c d (by decide) ⟨x, H, I1, ru, ⟨rfl, fun ys hy => by rw [I.list_inj hy hq]; exact hx⟩, st', fun b hb => (hf b hb).1⟩⟩
 done := by
  intro X hP hw hK hc i pins s σ H E I hf st hg
  subst hP hw hK
  obtain ⟨xs, hq, hx⟩ := hg
  obtain ⟨its, rv, p, hz⟩ := I.list hq
  obtain ⟨f0, f1, f2, f3, f4, f5⟩ := hf it (by simp)
  have hl := rv.length
  exact wpAny_pyNext_list_end (I.ok.hd hc) st p.isList (by simp; omega) fun h' eb => ⟨rfl, I.turned (t' := s.toks) (fun b o hb e => eb b o hb e) f0 f1 f3 f4 f5⟩
 self := fun _ _ _ _ _ st h => wpAny_pyIter_listiter st h
theorem u9 {P : Program} {w : World} {K : PySem.W.Frag} {tg : Expr} (it : Addr) (lo : Int) (n : Nat) : Turn P w K tg (Itr lo n) [it] it (fun i h => IsRangeIter h it (lo + (i : Nat) * 1) ((n : Int) - (i : Nat)) 1) where
 mem := by simp
 obj := fun i h st b hb => by
  have e : b = it := by simpa using hb
  subst e
  exact ⟨_, st, fun v z => by
   have z' : Data.fields _ = Data.cell v := z
   cases z'⟩
 keep := fun i h h' st k => k it (by simp) _ st
 item := by
  intro X hP hw hK hc i pins s σ H E I hf st hg
  subst hP hw hK
  obtain ⟨f0, f1, f2, f3, f4, f5⟩ := hf it (by simp)
  have W := Walks.range (prog := X.prog) (w := X.w) (I.ok.hd hc) it lo 1 n
  refine W.item i s _ _ hg st fun v h' tk hv st' kk => ?_
  obtain ⟨t, rfl⟩ := hv
  have I1 : Inv X pins σ H { s with heap := h', toks := tk } := I.turned (fun b o hb e => kk b o (by simpa using hb) e) f0 f1 f3 f4 f5
  refine ⟨_, rfl, vQ (s := { s with heap := h', toks := tk }) (n := "range_iterator") st' rfl rfl (by decide) ⟨.int (lo + i), H, I1, ⟨t, ?_⟩, ⟨rfl, rfl⟩, st', fun b hb => (hf b hb).1⟩⟩
  rw [Int.mul_one]
 done := by
  intro X hP hw hK hc i pins s σ H E I hf st hg
  subst hP hw hK
  obtain ⟨f0, f1, f2, f3, f4, f5⟩ := hf it (by simp)
  exact wpAny_pyNext_range_end (I.ok.hd hc) st (by have : n ≤ i := hg; omega) fun h' eb => ⟨rfl, I.turned (t' := s.toks) (fun b o hb e => eb b o hb e) f0 f1 f3 f4 f5⟩
 self := fun _ _ _ _ _ st h => wpAny_pyIter_rangeiter st h
end L2
namespace L2
open PySem PySem.Spec PyProof.Rows
section
variable {X : Cx} {tg : Expr}
def BJ (K : PySem.W.Frag) (tl : TE) : TI := fun σ H R => tl σ H fun x H1 => ∃ a, x = .ref a ∧ (∃ xs, SqL K H1 a xs) ∧ R (Itl K a) H1
theorem cI {l : Expr} {tl : TE} (hl : PE X l tl) : PI X tg l (BJ X.K tl) := by
 intro pins s σ H R I h
 refine thn (hl pins s σ H _ I h) fun v s1 ⟨x, H1, I1, r1, q1⟩ => ?_
 obtain ⟨a, e, ⟨xs, hq⟩, q⟩ := q1
 subst e
 cases r1
 obtain ⟨its, rv, p, hz⟩ := I1.list hq
 refine wpAny_pyIter_list p.isList ?_
 refine ⟨s1.heap.objs.size, [s1.heap.objs.size], _, _, H1, rfl, I1.kept (t' := s1.toks) fun b o e => Heap.get?_push_of_some _ e, xf a _, ⟨_, Heap.get?_push_size _ rfl, rfl, rfl⟩, fun b hb => ?_, q⟩
 have e : b = s1.heap.objs.size := by simpa using hb
 subst e
 exact I1.fpOk (Nat.le_refl _) (I1.hok.fresh (Nat.le_refl _))
theorem xW {pins : List (Addr × Obj)} {σ : St} {H : Hp} {s : Shared} {R : It → Hp → Prop} {E : Value → Shared → Prop} {lo hi : Int} {t u v : Tok} {tk : Nat} (I : Inv X pins σ H s) (h1 : -(2 ^ 62) ≤ lo) (h2 : lo < 2 ^ 62) (h3 : -(2 ^ 62) ≤ hi) (h4 : hi < 2 ^ 62)
  (q : R (Itr lo (hi - lo).toNat) H) : wpAny (model X.prog X.w) X.A (pyIter (.ref s.heap.objs.size)) (PIE X pins σ tg R) E { s with heap := s.heap.push { cls := .type "range", data := .fields #[.int lo t, .int hi u, .int 1 v] }, toks := tk } := by
 refine wpAny_pyIter_range (IsRange.new ..) (small_one h1 h2 h3 h4) ?_
 have I1 : Inv X pins σ H { s with heap := s.heap.push { cls := .type "range", data := .fields #[.int lo t, .int hi u, .int 1 v] }, toks := tk } := I.kept fun b o e => Heap.get?_push_of_some _ e
 refine ⟨(s.heap.push { cls := .type "range", data := .fields #[.int lo t, .int hi u, .int 1 v] }).objs.size, [(s.heap.push { cls := .type "range", data := .fields #[.int lo t, .int hi u, .int 1 v] }).objs.size], _, _, H, rfl,
  I1.kept (t' := tk) fun b o e => Heap.get?_push_of_some _ e, u9 _ lo (hi - lo).toNat, ?_, fun b hb => ?_, q⟩
 ·have e1 : lo + ((0 : Nat) : Int) * 1 = lo := by simp
  have e2 : (((hi - lo).toNat : Nat) : Int) - ((0 : Nat) : Int) = Builtin.Range.rangeSize lo hi 1 := by rw [rangeSize_one]; split <;> omega
  show IsRangeIter _ _ (lo + ((0 : Nat) : Int) * 1) ((((hi - lo).toNat : Nat) : Int) - ((0 : Nat) : Int)) 1
  rw [e1, e2]
  exact Heap.get?_push_size _ rfl
 ·have e : b = (s.heap.push { cls := .type "range", data := .fields #[.int lo t, .int hi u, .int 1 v] }).objs.size := by simpa using hb
  subst e
  exact I1.fpOk (Nat.le_refl _) (I1.hok.fresh (Nat.le_refl _))
def Bq (ta : TA) : TI := fun σ H R => ta σ H fun vs H1 => ∃ j : Int, vs = [.int j] ∧ -(2 ^ 62) ≤ j ∧ j < 2 ^ 62 ∧ R (Itr 0 j.toNat) H1
theorem lY {a : Expr} {ta : TA} {p pos : Pos} (hg : Gl X "range") (hm : X.mg "range" = none) (ha : PA X [a] ta) (hs : starEach [a] X.env = [(false, eval a X.env)] := by rfl) : PI X tg (.Call (.Name "range" p) [a] [] pos) (Bq ta) := by
 intro pins s σ H R I h
 refine Call_ (dG I hg hm boot_range (PyProof.Rows.callWith_type1 (thn (ha pos pins s σ H _ I h) fun us s1 ⟨vs, H1, I1, r1, q1⟩ => ?_) hs rfl))
 obtain ⟨j, e, q1, q2, q⟩ := q1
 subst e
 cases r1 with
 | cons r rr =>
  cases rr
  obtain ⟨t, rfl⟩ := r
  exact call_range_1 (xW I1 (by omega) (by omega) q1 q2 (by simpa using q))
def Dg (wi : TI) (g : TG) (tb : TS) : TS := fun D σ H => wi σ H fun J H1 => ∃ W : Nat → Nat → St → Hp → Prop, (∃ m, W 0 m σ H1) ∧ ∀ i m σ H, W i m σ H →
 (J.stop i H ∧ D.nx σ H) ∨ (J.go i H ∧ ∃ N : St → Hp → Prop, (∀ σ' H', N σ' H' → ∃ m', m' < m ∧ W (i + 1) m' σ' H') ∧ ∀ x H', J.yld i H x H' → g x σ H' fun σ2 H2 => tb { D with nx := N, ct := N, bk := D.nx } σ2 H2)
def mK (fp : List Addr) (h : Heap) : List (Addr × Obj) := fp.filterMap fun b => (h.get? b).map fun o => (b, o)
theorem dB {fp : List Addr} {h : Heap} {b : Addr} {o : Obj} (hb : b ∈ fp) (e : h.get? b = some o) : (b, o) ∈ mK fp h := List.mem_filterMap.mpr ⟨b, hb, by rw [e]; rfl⟩
theorem wJ {fp : List Addr} {h : Heap} {p : Addr × Obj} (hp : p ∈ mK fp h) : p.1 ∈ fp ∧ h.get? p.1 = some p.2 := by
 obtain ⟨b, hb, e⟩ := List.mem_filterMap.mp hp
 cases q : h.get? b with
 | none => rw [q] at e; cases e
 | some o =>
  rw [q] at e
  have e' : (b, o) = p := Option.some.inj e
  subst e'
  exact ⟨hb, q⟩
theorem Inv.pinned {pins : List (Addr × Obj)} {σ : St} {H : Hp} {s : Shared} {fp : List Addr} (I : Inv X pins σ H s) (hf : ∀ b ∈ fp, jb X pins H b) (ho : ∀ b ∈ fp, ∃ o, s.heap.get? b = some o ∧ ∀ v, o.data ≠ .cell v) : Inv X (pins ++ mK fp s.heap) σ H s :=
 I.pins_of fun p hp => (List.mem_append.mp hp).elim (fun z => I.pin p (List.mem_append_right _ z)) fun z => by
  obtain ⟨hb, e⟩ := wJ z
  obtain ⟨f0, f1, f2, _⟩ := hf p.1 hb
  obtain ⟨o, e', d⟩ := ho p.1 hb
  rw [e] at e'; cases e'
  exact ⟨e, f0, f1, f2, d⟩
theorem Inv.unpinned {pins pl : List (Addr × Obj)} {σ : St} {H : Hp} {s : Shared} (I : Inv X (pins ++ pl) σ H s) : Inv X pins σ H s := I.pins_of fun p hp => I.pin p (List.mem_append_right _ (List.mem_append_left _ hp))
theorem cA {iter : Expr} {body : List Stmt} {wi : TI} {g : TG} {tb : TS} {pos : Pos} (hp : PassesOwn (model X.prog X.w) X.A X.env X.xe) (hc : X.calm = true) (hi : PI X tg iter wi) (hg : PG X tg g) (hb : PSs X body tb)
  (hs : ∀ x, foldedSetIterable iter X.env x = pure x := by intro _; rfl) : PS X (.For tg iter body [] pos) (Dg wi g tb) := by
 intro pins s σ H D I h
 refine wpAny_For (thn (hi pins s σ H _ I h) fun v s1 h1 => thn h1 fun itv s2 h2 => ?_) hs
 obtain ⟨it, fp, tn, J, H2, e, I2, T, st2, f2, W, ⟨m0, w0⟩, turn⟩ := h2
 subst e
 have stat : ∀ {H' : Hp}, (∀ b ∈ fp, H' b = none) → ∀ b ∈ fp, jb X pins H' b := fun hn b hb => ⟨hn b hb, (f2 b hb).2⟩
 refine codeAny_forLoop_any (fun n s' => ∃ i σ' H', Inv X pins σ' H' s' ∧ tn i s'.heap ∧ (∀ b ∈ fp, H' b = none) ∧ W i n σ' H') ?_ m0 ⟨0, σ, H2, I2, st2, fun b hb => (f2 b hb).1, w0⟩
 rintro n s3 ⟨i, σ3, H3, I3, st3, fr3, w3⟩
 rcases turn i n σ3 H3 w3 with ⟨stop, qn⟩ | ⟨go, N, hN, step⟩
 ·refine wpAny_passesOwn hp (thn (T.done X rfl rfl rfl hc i pins s3 σ3 H3 X.xe I3 (stat fr3) st3 stop) fun r s4 ⟨hr, I4⟩ => ?_)
  subst hr
  exact wpAny_execs_nil ⟨σ3, H3, I4, qn⟩
 ·refine wpAny_passesOwn hp (thn (T.item X rfl rfl rfl hc i pins s3 σ3 H3 X.xe I3 (stat fr3) st3 go) fun r s4 ⟨u, hr, h4⟩ => ?_)
  subst hr
  refine wpAny_passesOwn hp (thn h4 fun _ s5 ⟨x, H5, I5, r5, y5, st5, fr5⟩ => ?_)
  have I5' := I5.pinned (stat fr5) (T.obj _ _ st5)
  refine wpAny_passesOwn hp (thn (hg _ s5 σ3 H5 x u _ I5' r5 (step x H5 y5)) fun _ s6 ⟨σ6, H6, I6, q6⟩ => ?_)
  refine wpAny_passesOwn hp (thn (hb _ s6 σ6 H6 _ I6 q6) fun f s7 q7 => ?_)
  have again : ∀ {σ7 : St} {H7 : Hp}, Inv X (pins ++ mK fp s5.heap) σ7 H7 s7 → N σ7 H7 → ∃ m, m < n ∧ ∃ i σ' H', Inv X pins σ' H' s7 ∧ tn i s7.heap ∧ (∀ b ∈ fp, H' b = none) ∧ W i m σ' H' := fun {σ7 H7} I7 n7 => by
   obtain ⟨m', hm, w7⟩ := hN σ7 H7 n7
   refine ⟨m', hm, i + 1, σ7, H7, I7.unpinned, T.keep _ _ _ st5 fun b hb o e => (I7.pin (b, o) (List.mem_append_right _ (List.mem_append_right _ (dB hb e)))).1, fun b hb => ?_, w7⟩
   obtain ⟨o, e, d⟩ := T.obj _ _ st5 b hb
   exact (I7.pin (b, o) (List.mem_append_right _ (List.mem_append_right _ (dB hb e)))).2.1
  cases f with
  | next => obtain ⟨σ7, H7, I7, n7⟩ := q7; exact again I7 n7
  | cont => obtain ⟨σ7, H7, I7, n7⟩ := q7; exact again I7 n7
  | brk => obtain ⟨σ7, H7, I7, q7⟩ := q7; exact ⟨σ7, H7, I7.unpinned, q7⟩
  | ret v => obtain ⟨x7, σ7, H7, I7, r7, q7⟩ := q7; exact ⟨x7, σ7, H7, I7.unpinned, r7, q7⟩
end
theorem cj {K : PySem.W.Frag} {a : Addr} {xs : List V} {g : TG} {tb : TS} {D : Ends} {σ : St} {H : Hp} (Pv : Nat → St → Hp → Prop) (h0 : Pv 0 σ H) (hl : ∀ i σ H, i ≤ xs.length → Pv i σ H → SqL K H a xs)
  (hs : ∀ i x σ H, xs[i]? = some x → Pv i σ H → g x σ H fun σ2 H2 => tb { D with nx := Pv (i + 1), ct := Pv (i + 1), bk := D.nx } σ2 H2) (hd : ∀ σ H, Pv xs.length σ H → D.nx σ H) :
  ∃ W : Nat → Nat → St → Hp → Prop, (∃ m, W 0 m σ H) ∧ ∀ i m σ H, W i m σ H →
   ((Itl K a).stop i H ∧ D.nx σ H) ∨ ((Itl K a).go i H ∧ ∃ N : St → Hp → Prop, (∀ σ' H', N σ' H' → ∃ m', m' < m ∧ W (i + 1) m' σ' H') ∧ ∀ x H', (Itl K a).yld i H x H' → g x σ H' fun σ2 H2 => tb { D with nx := N, ct := N, bk := D.nx } σ2 H2) := by
 refine ⟨fun i m σ H => m = xs.length - i ∧ i ≤ xs.length ∧ Pv i σ H, ⟨xs.length, by simp, Nat.zero_le _, h0⟩, ?_⟩
 rintro i m σ H ⟨rfl, hi, p⟩
 have q := hl i σ H hi p
 by_cases hlt : i < xs.length
 ·refine .inr ⟨⟨xs, xs[i], q, by simp [hlt]⟩, Pv (i + 1), fun σ' H' p' => ⟨xs.length - (i + 1), by omega, rfl, hlt, p'⟩, fun x H' y => ?_⟩
  obtain ⟨e, y⟩ := y
  subst e
  exact hs i x σ _ (y xs q) p
 ·have e : i = xs.length := by omega
  subst e
  exact .inl ⟨⟨xs, q, Nat.le_refl _⟩, hd σ H p⟩
end L2
namespace L2
open PySem PySem.Spec PyProof.Rows
abbrev R2 := V → V → Hp → VK → Prop
def OpR (X : Cx) (f : Value → Value → Sem Value) (r : R2) : Prop :=
 ∀ (pins : List (Addr × Obj)) (s : Shared) (σ : St) (H : Hp) (x y : V) (v u : Value) (Q : VK), Inv X pins σ H s → RelV x v → RelV y u → r x y H Q →
  wpAny (model X.prog X.w) X.A (f v u) (EP X pins σ Q) X.xe s
def UnR (X : Cx) (f : Value → Sem Value) (r : V → Hp → VK → Prop) : Prop :=
 ∀ (pins : List (Addr × Obj)) (s : Shared) (σ : St) (H : Hp) (x : V) (v : Value) (Q : VK), Inv X pins σ H s → RelV x v → r x H Q →
  wpAny (model X.prog X.w) X.A (f v) (EP X pins σ Q) X.xe s
def dq (X : Cx) (f : Value) (r : List V → Hp → VK → Prop) : Prop :=
 ∀ (pins : List (Addr × Obj)) (s : Shared) (σ : St) (H : Hp) (xs : List V) (us : List Value) (Q : VK), Inv X pins σ H s → Vals xs us → r xs H Q →
  wpAny (model X.prog X.w) X.A (call f us) (EP X pins σ Q) X.xe s
def tOp (r : R2) (ta tb : TE) : TE := fun σ H Q => ta σ H fun x H1 => tb σ H1 fun y H2 => r x y H2 Q
def tUn (r : V → Hp → VK → Prop) (ta : TE) : TE := fun σ H Q => ta σ H fun x H1 => r x H1 Q
def rI (C : Int → Int → Prop) (g : Int → Int → V) : R2 := fun x y H Q => ∃ i j, x = .int i ∧ y = .int j ∧ C i j ∧ Q (g i j) H
def rI0 (g : Int → Int → V) : R2 := fun x y H Q => ∃ i j, x = .int i ∧ y = .int j ∧ Q (g i j) H
def rU (g : Int → V) : V → Hp → VK → Prop := fun x H Q => ∃ i, x = .int i ∧ Q (g i) H
section
variable {X : Cx} {a b c : Expr} {ta tb tc : TE} {pos : Pos}
theorem Bf (ha : PE X a ta) (hb : PE X b tb) {pins : List (Addr × Obj)} {s : Shared} {σ : St} {H : Hp} {R : V → V → Hp → Prop} (I : Inv X pins σ H s)
  (h : ta σ H fun x H1 => tb σ H1 fun y H2 => R x y H2) {Q : Value → Shared → Prop} {f : Value → Value → Sem Value}
  (hf : ∀ v u s2 x y H2, Inv X pins σ H2 s2 → RelV x v → RelV y u → R x y H2 → wpAny (model X.prog X.w) X.A (f v u) Q X.xe s2) :
  wpAny (model X.prog X.w) X.A (eval a X.env) (fun v s₁ => wpAny (model X.prog X.w) X.A (eval b X.env) (fun u s₂ => wpAny (model X.prog X.w) X.A (f v u) Q X.xe s₂) X.xe s₁) X.xe s := by
 refine thn (ha pins s σ H _ I h) fun v s1 ⟨x, H1, I1, r1, q1⟩ => ?_
 refine thn (hb pins s1 σ H1 _ I1 q1) fun u s2 ⟨y, H2, I2, r2, q2⟩ => ?_
 exact hf v u s2 x y H2 I2 r1 r2 q2
theorem aA {op : Operator} {r : R2} (ho : OpR X (binaryOp op) r) (ha : PE X a ta) (hb : PE X b tb) : PE X (.BinOp a op b pos) (tOp r ta tb) := by
 intro pins s σ H Q I h
 exact wpAny_BinOp (Bf ha hb I h fun v u s2 x y H2 I2 rx ry q => ho pins s2 σ H2 x y v u Q I2 rx ry q)
theorem yD {op : UnaryOp} {r : V → Hp → VK → Prop} (ho : UnR X (unaryOp op) r) (ha : PE X a ta) : PE X (.UnaryOp op a pos) (tUn r ta) := by
 intro pins s σ H Q I h
 exact UnaryOp_ (thn (ha pins s σ H _ I h) fun v s1 ⟨x, H1, I1, r1, q1⟩ => ho pins s1 σ H1 x v Q I1 r1 q1)
theorem opI {f : Value → Value → Sem Value} {C : Int → Int → Prop} {g : Int → Int → Int}
  (rule : ∀ (i j : Int) (t u : Tok) (s : Shared) (Q : Value → Shared → Prop) (E : Value → Shared → Prop), C i j → Q (.int (g i j) s.toks) { s with toks := s.toks + 1 } → wpAny (model X.prog X.w) X.A (f (.int i t) (.int j u)) Q E s) :
  OpR X f (rI C fun i j => .int (g i j)) := by
 intro pins s σ H x y v u Q I rx ry h
 obtain ⟨i, j, rfl, rfl, hc, q⟩ := h
 obtain ⟨t, rfl⟩ := rx
 obtain ⟨t', rfl⟩ := ry
 exact rule i j t t' s _ _ hc ⟨.int (g i j), H, I.tok _, ⟨_, rfl⟩, q⟩
theorem Bg {f : Value → Value → Sem Value} {g : Int → Int → Int}
  (rule : ∀ (i j : Int) (t u : Tok) (s : Shared) (Q : Value → Shared → Prop) (E : Value → Shared → Prop), Q (.int (g i j) s.toks) { s with toks := s.toks + 1 } → wpAny (model X.prog X.w) X.A (f (.int i t) (.int j u)) Q E s) :
  OpR X f (rI0 fun i j => .int (g i j)) := by
 intro pins s σ H x y v u Q I rx ry h
 obtain ⟨i, j, rfl, rfl, q⟩ := h
 obtain ⟨t, rfl⟩ := rx
 obtain ⟨t', rfl⟩ := ry
 exact rule i j t t' s _ _ ⟨.int (g i j), H, I.tok _, ⟨_, rfl⟩, q⟩
theorem zG {f : Value → Value → Sem Value} {g : Int → Int → Bool}
  (rule : ∀ (i j : Int) (t u : Tok) (s : Shared) (Q : Value → Shared → Prop) (E : Value → Shared → Prop), Q (.bool (g i j)) s → wpAny (model X.prog X.w) X.A (f (.int i t) (.int j u)) Q E s) :
  OpR X f (rI0 fun i j => .bl (g i j)) := by
 intro pins s σ H x y v u Q I rx ry h
 obtain ⟨i, j, rfl, rfl, q⟩ := h
 obtain ⟨t, rfl⟩ := rx
 obtain ⟨t', rfl⟩ := ry
 exact rule i j t t' s _ _ ⟨.bl (g i j), H, I, rfl, q⟩
def Cu (i j : Int) : Prop := 0 < j ∧ j < 1073741824
def Dc (i j : Int) : Prop := 0 ≤ j ∧ j ≤ 1000000 ∧ i.natAbs < 2 ^ 64
def Ar (i j : Int) : Prop := (-(2 ^ 64) < i ∧ i < 2 ^ 64) ∨ (-(2 ^ 64) < j ∧ j < 2 ^ 64)
theorem Ar.ok {i j : Int} (h : Ar i j) : IntMulOk i j := by
 rcases h with ⟨h1, h2⟩ | ⟨h1, h2⟩
 ·exact .of_left (intBits_le_64 h1 h2)
 ·exact .of_right (intBits_le_64 h1 h2)
theorem vz (k : Nat) : (0 : Int) ≤ 2 ^ k := by
 rw [two_pow_cast]
 exact Int.natCast_nonneg _
theorem bC : OpR X (binaryOp .Add) (rI0 fun i j => .int (i + j)) := Bg fun _ _ _ _ _ _ _ q => add_int q
theorem bz : OpR X (binaryOp .Sub) (rI0 fun i j => .int (i - j)) := Bg fun _ _ _ _ _ _ _ q => sub_int q
theorem cC : OpR X (binaryOp .Mult) (rI Ar fun i j => .int (i * j)) := opI fun _ _ _ _ _ _ _ hc q => mul_int q hc.ok
theorem bO : OpR X (binaryOp .FloorDiv) (rI Cu fun i j => .int (i / j)) := opI fun i j _ _ _ _ _ hc q => by
 have h1 : (0 : Int) < j := hc.1
 have h2 : j < 1073741824 := hc.2
 exact floordiv_int (by omega) (by rw [Int.fdiv_eq_ediv_of_nonneg i (by omega)]; exact q) (.inl (PyProof.noPylong_small (by omega)))
theorem bD : OpR X (binaryOp .Mod) (rI (fun _ j => 0 < j) fun i j => .int (i % j)) := opI fun i j _ _ _ _ _ hc q => by
 have h1 : (0 : Int) < j := hc
 exact mod_int' (by omega) (by rw [Int.fmod_eq_emod_of_nonneg i (by omega)]; exact q)
theorem rF : OpR X (binaryOp .Pow) (rI Dc fun i j => .int (i ^ j.toNat)) := opI fun _ _ _ _ _ _ _ hc q => pow_int_small hc.1 hc.2.1 hc.2.2 q
theorem Ac : OpR X (binaryOp .RShift) (rI (fun _ j => 0 ≤ j) fun i j => .int (i / 2 ^ j.toNat)) := opI fun i j _ _ _ _ _ hc q =>
 rshift_int hc (by rw [Int.fdiv_eq_ediv_of_nonneg i (vz _)]; exact q)
theorem Ag : OpR X (binaryOp .BitAnd) (rI0 fun i j => .int (Builtin.bitAnd i j)) := Bg fun _ _ _ _ _ _ _ q => and_int q
theorem unI {f : Value → Sem Value} {g : Int → Int}
  (rule : ∀ (i : Int) (t : Tok) (s : Shared) (Q : Value → Shared → Prop) (E : Value → Shared → Prop), Q (.int (g i) s.toks) { s with toks := s.toks + 1 } → wpAny (model X.prog X.w) X.A (f (.int i t)) Q E s) :
  UnR X f (rU fun i => .int (g i)) := by
 intro pins s σ H x v Q I rx h
 obtain ⟨i, rfl, q⟩ := h
 obtain ⟨t, rfl⟩ := rx
 exact rule i t s _ _ ⟨.int (g i), H, I.tok _, ⟨_, rfl⟩, q⟩
theorem uP : UnR X (unaryOp .USub) (rU fun i => .int (-i)) := unI fun _ _ _ _ _ q => neg_int q
end
def Cd : V → V → Bool
 | .non, .non => true | .non, .int _ => true | .int _, .non => true | .non, .bl _ => true | .bl _, .non => true | .non, .str _ => true | .str _, .non => true
 | .int _, .int _ => true | .bl _, .bl _ => true | .str _, .str _ => true | .byt _, .byt _ => true
 | .int _, .str _ => true | .str _, .int _ => true | .bl _, .str _ => true | .str _, .bl _ => true
 | _, _ => false
def rEq : R2 := fun x y H Q => Cd x y = true ∧ Q (.bl (decide (x = y))) H
def rNe : R2 := fun x y H Q => Cd x y = true ∧ Q (.bl (!decide (x = y))) H
theorem nW {i j : Int} : decide (V.int i = V.int j) = (i == j) := by
 rw [Bool.eq_iff_iff]
 simp
theorem yO {i j : Bool} : decide (V.bl i = V.bl j) = (i == j) := by
 rw [Bool.eq_iff_iff]
 simp
theorem vR {i j : Str} : decide (V.str i = V.str j) = (i == j) := by
 rw [Bool.eq_iff_iff]
 simp
theorem vM {i j : Array UInt8} : decide (V.byt i = V.byt j) = (i.toList == j.toList) := by
 rw [Bool.eq_iff_iff]
 cases i
 cases j
 simp
section
variable {X : Cx} {a b c : Expr} {ta tb tc : TE} {pos : Pos}
theorem bA {pins : List (Addr × Obj)} {σ : St} {H : Hp} {s : Shared} {Q : VK} {k k' : Bool} (I : Inv X pins σ H s) (q : Q (.bl k) H) (e : k = k') : EP X pins σ Q (.bool k') s := by
 subst e
 exact ⟨.bl k, H, I, rfl, q⟩
theorem cM : OpR X (compareOp .Eq) rEq := by
 intro pins s σ H x y v u Q I rx ry h
 obtain ⟨hs, q⟩ := h
 cases x with
 | non =>
  cases rx
  cases y with
  | non => cases ry; exact PySem.EqNone.eq_none_none (bA I q (by simp))
  | bl j => cases ry; exact PySem.EqNone.eq_none_bool (bA I q (by simp))
  | int j => obtain ⟨t', rfl⟩ := ry; exact PySem.EqNone.eq_none_int (bA I q (by simp))
  | str j => obtain ⟨t', rfl⟩ := ry; exact PySem.EqNone.eq_none_str (bA I q (by simp))
  | _ => exact absurd (show false = true from hs) Bool.false_ne_true
 | bl i =>
  cases rx
  cases y with
  | non => cases ry; exact PySem.EqNone.eq_bool_none (bA I q (by simp))
  | bl j => cases ry; exact eq_bool (bA I q yO)
  | str j => obtain ⟨t', rfl⟩ := ry; exact PySem.EqMixed.eq_bool_str (bA I q (by simp))
  | _ => exact absurd (show false = true from hs) Bool.false_ne_true
 | int i =>
  obtain ⟨t, rfl⟩ := rx
  cases y with
  | non => cases ry; exact PySem.EqNone.eq_int_none (bA I q (by simp))
  | int j => obtain ⟨t', rfl⟩ := ry; exact eq_int (bA I q nW)
  | str j => obtain ⟨t', rfl⟩ := ry; exact PySem.EqMixed.eq_int_str (bA I q (by simp))
  | _ => exact absurd (show false = true from hs) Bool.false_ne_true
 | str i =>
  obtain ⟨t, rfl⟩ := rx
  cases y with
  | non => cases ry; exact PySem.EqNone.eq_str_none (bA I q (by simp))
  | bl j => cases ry; exact PySem.EqMixed.eq_str_bool (bA I q (by simp))
  | int j => obtain ⟨t', rfl⟩ := ry; exact PySem.EqMixed.eq_str_int (bA I q (by simp))
  | str j => obtain ⟨t', rfl⟩ := ry; exact eq_str (bA I q vR)
  | _ => exact absurd (show false = true from hs) Bool.false_ne_true
 | byt i =>
  obtain ⟨t, rfl⟩ := rx
  cases y with
  | byt j => obtain ⟨t', rfl⟩ := ry; exact PySem.W.eq_bytes (bA I q vM)
  | _ => exact absurd (show false = true from hs) Bool.false_ne_true
 | _ => cases y <;> exact absurd (show false = true from hs) Bool.false_ne_true
theorem mV : OpR X (compareOp .NotEq) rNe := by
 intro pins s σ H x y v u Q I rx ry h
 obtain ⟨hs, q⟩ := h
 cases x with
 | non =>
  cases rx
  cases y with
  | non => cases ry; exact PySem.EqNone.ne_none_none (bA I q (by simp))
  | bl j => cases ry; exact PySem.EqNone.ne_none_bool (bA I q (by simp))
  | int j => obtain ⟨t', rfl⟩ := ry; exact PySem.EqNone.ne_none_int (bA I q (by simp))
  | str j => obtain ⟨t', rfl⟩ := ry; exact PySem.EqNone.ne_none_str (bA I q (by simp))
  | _ => exact absurd (show false = true from hs) Bool.false_ne_true
 | bl i =>
  cases rx
  cases y with
  | non => cases ry; exact PySem.EqNone.ne_bool_none (bA I q (by simp))
  | bl j => cases ry; exact ne_bool (bA I q (congrArg not yO))
  | str j => obtain ⟨t', rfl⟩ := ry; exact PySem.EqMixed.ne_bool_str (bA I q (by simp))
  | _ => exact absurd (show false = true from hs) Bool.false_ne_true
 | int i =>
  obtain ⟨t, rfl⟩ := rx
  cases y with
  | non => cases ry; exact PySem.EqNone.ne_int_none (bA I q (by simp))
  | int j => obtain ⟨t', rfl⟩ := ry; exact ne_int (bA I q (congrArg not nW))
  | str j => obtain ⟨t', rfl⟩ := ry; exact PySem.EqMixed.ne_int_str (bA I q (by simp))
  | _ => exact absurd (show false = true from hs) Bool.false_ne_true
 | str i =>
  obtain ⟨t, rfl⟩ := rx
  cases y with
  | non => cases ry; exact PySem.EqNone.ne_str_none (bA I q (by simp))
  | bl j => cases ry; exact PySem.EqMixed.ne_str_bool (bA I q (by simp))
  | int j => obtain ⟨t', rfl⟩ := ry; exact PySem.EqMixed.ne_str_int (bA I q (by simp))
  | str j => obtain ⟨t', rfl⟩ := ry; exact ne_str (bA I q (congrArg not vR))
  | _ => exact absurd (show false = true from hs) Bool.false_ne_true
 | byt i =>
  obtain ⟨t, rfl⟩ := rx
  cases y with
  | byt j => obtain ⟨t', rfl⟩ := ry; exact PySem.W.ne_bytes (bA I q (congrArg not vM))
  | _ => exact absurd (show false = true from hs) Bool.false_ne_true
 | _ => cases y <;> exact absurd (show false = true from hs) Bool.false_ne_true
theorem m9 : OpR X (compareOp .Lt) (rI0 fun i j => .bl (decide (i < j))) := zG fun _ _ _ _ _ _ _ q => lt_int q
theorem jB : OpR X (compareOp .LtE) (rI0 fun i j => .bl (decide (i ≤ j))) := zG fun _ _ _ _ _ _ _ q => le_int q
theorem jC : OpR X (compareOp .Gt) (rI0 fun i j => .bl (decide (j < i))) := zG fun _ _ _ _ _ _ _ q => gt_int q
theorem zZ : OpR X (compareOp .GtE) (rI0 fun i j => .bl (decide (j ≤ i))) := zG fun _ _ _ _ _ _ _ q => ge_int q
theorem aP (b : Expr) {op : CmpOp} (h : op ≠ .In := by decide) (h2 : op ≠ .NotIn := by decide) : behindInMarks op b = false := by
 have e1 : (op == CmpOp.In) = false := by cases op <;> first | rfl | exact absurd rfl h
 have e2 : (op == CmpOp.NotIn) = false := by cases op <;> first | rfl | exact absurd rfl h2
 cases b <;> simp [behindInMarks, e1, e2]
theorem dJ {op : CmpOp} {r : R2} (ho : OpR X (compareOp op) r) (ha : PE X a ta) (hb : PE X b tb) (hm : behindInMarks op b = false) : PE X (.Compare a [op] [b] pos) (tOp r ta tb) := by
 intro pins s σ H Q I h
 exact wpAny_Compare1 (Bf ha hb I h fun v u s2 x y H2 I2 rx ry q => ho pins s2 σ H2 x y v u Q I2 rx ry q) hm
def zT (t : TE) : TT := fun σ H Q => t σ H fun x H' => ∃ k, x = .bl k ∧ Q k H'
theorem aM {op : CmpOp} {r : R2} (ho : OpR X (compareOp op) r) (ha : PE X a ta) (hb : PE X b tb) (hm : behindInMarks op b = false) : PT X (.Compare a [op] [b] pos) (zT (tOp r ta tb)) := by
 intro pins s σ H Q I h
 refine wpAny_isTrue_Compare1 (thn (ha pins s σ H _ I h) fun v s1 ⟨x, H1, I1, r1, q1⟩ => thn (hb pins s1 σ H1 _ I1 q1) fun u s2 ⟨y, H2, I2, r2, q2⟩ =>
  thn (ho pins s2 σ H2 x y v u _ I2 r1 r2 q2) fun c s3 ⟨z, H3, I3, r3, k, e, q3⟩ => ?_) hm
 subst e
 cases r3
 exact wpAny_truthy_bool ⟨H3, I3, q3⟩
theorem rn : (sizeLine : Nat) < 2 ^ 63 := by rw [sizeLine_eq]; decide
theorem vals1 {x : V} {us : List Value} (r : Vals [x] us) : ∃ u, us = [u] ∧ RelV x u := by
 cases r with
 | cons r1 r2 => cases r2; exact ⟨_, rfl, r1⟩
theorem vals2 {x y : V} {us : List Value} (r : Vals [x, y] us) : ∃ u w', us = [u, w'] ∧ RelV x u ∧ RelV y w' := by
 cases r with
 | cons r1 r2 =>
  cases r2 with
  | cons r3 r4 => cases r4; exact ⟨_, _, rfl, r1, r3⟩
theorem xP (hc : X.calm = true) : dq X (.builtin "max") (fun xs H Q => ∃ i j, xs = [.int i, .int j] ∧ Q (.int (if j > i then j else i)) H) := by
 intro pins s σ H xs us Q I r h
 obtain ⟨i, j, rfl, q⟩ := h
 obtain ⟨u, w', rfl, ⟨t, rfl⟩, ⟨t', rfl⟩⟩ := vals2 r
 refine max_two_ints (I.ok.hd hc) fun h' tk k => ⟨_, H, I.kept k, ?_, q⟩
 by_cases hj : j > i
 ·rw [if_pos hj, if_pos hj]; exact ⟨_, rfl⟩
 ·rw [if_neg hj, if_neg hj]; exact ⟨_, rfl⟩
theorem lM (hc : X.calm = true) : dq X (.builtin "min") (fun xs H Q => ∃ i j, xs = [.int i, .int j] ∧ Q (.int (if j < i then j else i)) H) := by
 intro pins s σ H xs us Q I r h
 obtain ⟨i, j, rfl, q⟩ := h
 obtain ⟨u, w', rfl, ⟨t, rfl⟩, ⟨t', rfl⟩⟩ := vals2 r
 refine min_two_ints (I.ok.hd hc) fun h' tk k => ⟨_, H, I.kept k, ?_, q⟩
 by_cases hj : j < i
 ·rw [if_pos hj, if_pos hj]; exact ⟨_, rfl⟩
 ·rw [if_neg hj, if_neg hj]; exact ⟨_, rfl⟩
end
end L2
namespace L2
open PySem PySem.Spec PyProof.Rows
section
variable {prog : Program} {w : World} {A : Around} {E : Value → Shared → Prop} {s : Shared} {K : PySem.W.Frag} {x dx C f : Addr} {mA : Str → Option Value} {name : Str} {v : Value}
end
section
variable {P : Program} {w : World} {H H' : Hp} {h h' : Heap} {a C dx : Addr} {fs fs' : List (Str × V)}
end
section
variable {X : Cx} {pins : List (Addr × Obj)} {σ : St} {H : Hp} {s : Shared} {a C dx : Addr} {fs : List (Str × V)} {f : Str} {v : V} {A : Around} {E : Value → Shared → Prop}
end
section
variable {X : Cx} {o e value : Expr} {f : Str} {pos pos' tpos : Pos} {ta tv : TE}
end
section
variable {X : Cx} {pins : List (Addr × Obj)} {σ : St} {H : Hp} {s : Shared} {A : Around} {E : Value → Shared → Prop} {Q : Value → Shared → Prop} {c : Value} {b : Bool}
end
end L2
namespace L2
open PySem PySem.Spec PyProof.Rows
structure cL (k : Nat) (A : Around) : Prop where
 hd : A.handled = none
 dp : A.depth + 3 * k + 5 < recursionLimit
 un : A.units + 16 * k + 200 < cLine
theorem cL.mono {j k : Nat} {A : Around} (r : cL k A) (h : j ≤ k) : cL j A := ⟨r.hd, by have := r.dp; omega, by have := r.un; omega⟩
theorem cL.deeper {k : Nat} {A : Around} (r : cL (k + 1) A) (env : Env) : cL k (A.deeper env) :=
 ⟨r.hd, by have := r.dp; show A.depth + 1 + 3 * k + 5 < _; omega, by have := r.un; show A.units + 3 + 16 * k + 200 < _; omega⟩
theorem cL.depth {k : Nat} {A : Around} (r : cL k A) : A.depth < recursionLimit := by have := r.dp; omega
theorem cL.units {k : Nat} {A : Around} (r : cL k A) : A.units + 64 < cLine := by have := r.un; omega
def yf : TA := fun _ H Q => Q [] H
def wg (ta : TE) (tr : TA) : TA := fun σ H Q => ta σ H fun x H1 => tr σ H1 fun xs H2 => Q (x :: xs) H2
section
variable {X : Cx} {e : Expr} {es : List Expr} {te : TE} {t : TA} {pos : Pos}
theorem aj : PA X [] yf := fun _ _ _ _ H Q I h => Calls.spliced_nil ⟨[], H, I, .nil, h⟩
theorem aa (ha : PE X e te) (hr : PA X es t) (hs : starEach (e :: es) X.env = (false, eval e X.env) :: starEach es X.env := by rfl) : PA X (e :: es) (wg te t) := by
 intro pos pins s σ H Q I h
 rw [hs]
 show wpAny _ _ (spliced ((false, eval e X.env) :: backTo pos (starEach es X.env))) _ _ s
 refine Calls.spliced_cons (thn (ha pins s σ H _ I h) fun u s1 ⟨x, H1, I1, r1, q1⟩ => ?_)
 exact thn (hr pos pins s1 σ H1 _ I1 q1) fun us s2 ⟨xs, H2, I2, r2, q2⟩ => ⟨x :: xs, H2, I2, .cons r1 r2, q2⟩
def CG (t : TA) : TE := fun σ H Q => t σ H fun xs H1 => xs.length ≤ sizeLine ∧ ∀ p, H1 p = none → Q (.ref p) (upd H1 p (.tup xs))
def zB (t : TA) : TE := fun σ H Q => t σ H fun xs H1 => xs.length ≤ sizeLine ∧ ∀ p, H1 p = none → Q (.ref p) (upd H1 p (.lst xs))
theorem gj {x1} (h : PA X es t) : PE X (.Tuple es x1 pos) (CG t) := by
 intro pins s σ H Q I hq
 refine wpAny_Tuple_spliced (thn (h pos pins s σ H _ I hq) fun us s1 ⟨xs, H1, I1, r, z, q⟩ => ⟨by rw [← r.length]; exact z, ?_⟩)
 have hf : H1 s1.heap.objs.size = none := I1.hok.fresh (Nat.le_refl _)
 refine ⟨.ref s1.heap.objs.size, upd H1 s1.heap.objs.size (.tup xs), I1.laid (t' := s1.toks) (fun b u e => Heap.get?_push_of_some _ e) (Nat.le_refl _) ?_, rfl, q _ hf⟩
 exact ⟨z, us, r, ⟨_, Heap.get?_push_size _ rfl, rfl, _, rfl⟩⟩
theorem aY (h : PA X es t) : PE X (.List es pos) (zB t) := by
 intro pins s σ H Q I hq
 refine wpAny_List_spliced (thn (h pos pins s σ H _ I hq) fun us s1 ⟨xs, H1, I1, r, z, q⟩ => ⟨by rw [← r.length]; exact z, ?_⟩)
 have hf : H1 s1.heap.objs.size = none := I1.hok.fresh (Nat.le_refl _)
 refine ⟨.ref s1.heap.objs.size, upd H1 s1.heap.objs.size (.lst xs), I1.laid (t' := s1.toks) (fun b u e => Heap.get?_push_of_some _ e) (Nat.le_refl _) ?_, rfl, q _ hf⟩
 exact ⟨z, us, 0, r, Heap.get?_push_size _ rfl⟩
end
abbrev Sp := List V → Hp → VK → XK → Prop
abbrev CXT := List Env → Hp → Shared → XK → Value → Shared → Prop
structure rT (P : Program) (w : World) (K : PySem.W.Frag) (mg : Str → Option Value) (base : Heap) (A : Around) (outer : List Env) (s : Shared) (H : Hp) : Prop where
 frames : A.frames = some outer
 mod : Mod K mg base
 bs : ∀ b o, base.get? b = some o → s.heap.get? b = some o ∧ H b = none
 bsz : base.objs.size ≤ s.heap.objs.size
 funs : s.heap.FunFrames base outer
 frf : ∀ b ∈ frs outer, H b = none
 hok : HOk P w H s.heap
 bare : AllBare s.gens
def CE (outer : List Env) (P : Program) (w : World) (H : Hp) (s : Shared) (Q : VK) (u : Value) (s' : Shared) : Prop :=
 ∃ v H', s'.os = s.os ∧ AllBare s'.gens ∧ Un (frs outer) [] H H' s.heap s'.heap ∧ HOk P w H' s'.heap ∧ RelV v u ∧ Q v H'
def CR (CX : CXT) (outer : List Env) (P : Program) (w : World) (H : Hp) (s : Shared) (Q : VK) (E : XK) (r : Result) (s' : Shared) : Prop :=
 match r with
 | .ok (.ret u) => CE outer P w H s Q u s'
 | .ok _ => False
 | .error e => CX outer H s E e s'
structure bh (P : Program) (w : World) (K : PySem.W.Frag) (mg : Str → Option Value) (base : Heap) (CX : CXT) (k : Nat) (f : Addr) (fd : FuncData) (ps : List Str) (sp : Sp) : Prop where
 len : ∀ vs H Q E, sp vs H Q E → vs.length = ps.length
 run : ∀ (A : Around) (outer : List Env) (s : Shared) (H : Hp) (args : Args) (us : List Value) (vs : List V) (Q : VK) (E : XK), cL k A → rT P w K mg base A outer s H → BindsTo s fd args (ps.zip us) → Vals vs us → sp vs H Q E →
  codeAny (model P w) A (.call (.ref f) args) (CR CX outer P w H s Q E) s
theorem bh.mono {P : Program} {w : World} {K : PySem.W.Frag} {mg : Str → Option Value} {base : Heap} {CX : CXT} {j k : Nat} {f : Addr} {fd : FuncData} {ps : List Str} {sp : Sp} (F : bh P w K mg base CX j f fd ps sp) (h : j ≤ k) :
  bh P w K mg base CX k f fd ps sp := ⟨F.len, fun A outer s H args us vs Q E hr => F.run A outer s H args us vs Q E (hr.mono h)⟩
section
variable {X : Cx} {pins : List (Addr × Obj)} {σ : St} {H : Hp} {s s' : Shared}
theorem Inv.env0 (I : Inv X pins σ H s) : rT X.prog X.w X.K X.mg X.base X.A X.stack s H :=
 ⟨I.ok.frames, I.ok.mod, I.bs, Nat.le_trans I.ok.bsz I.sz, I.stack, I.stkFree, I.hok, I.bare⟩
theorem Inv.after {Q : VK} {u : Value} (I : Inv X pins σ H s) (h : CE X.stack X.prog X.w H s Q u s') : EP X pins σ Q u s' := by
 obtain ⟨v, H', os, bare, un, hok, r, q⟩ := h
 obtain ⟨hh, g, d, t, os'⟩ := s'
 obtain rfl : os' = s.os := os
 exact ⟨v, H', I.call (h' := hh) (g' := g) (d' := d) (t' := t) (ch := []) un hok bare (fun b z => absurd z (by simp)), r, q⟩
end
def vV (sp : Sp) (dvs : List V) (E : XK) (t : TA) : TE := fun σ H Q => t σ H fun vs H1 => sp (vs ++ dvs) H1 Q E
def Binds (K : PySem.W.Frag) (fd : FuncData) (ps : List Str) (ds : List Value) : Prop :=
 ∀ (s : Shared) (us : List Value), K.In s.heap → (us ++ ds).length = ps.length → BindsTo s fd ⟨us, []⟩ (ps.zip (us ++ ds))
theorem Binds.all {K : PySem.W.Frag} {fd : FuncData} {ps : List Str} (h : ∀ us : List Value, us.length = ps.length → bindArgs fd ⟨us, []⟩ = pure (ps.zip us)) : Binds K fd ps [] := fun s us _ hl => by
 rw [List.append_nil] at hl ⊢
 exact .of_eq (h us hl)
def il (CX : CXT) (X : Cx) (E : XK) : Prop := ∀ (pins : List (Addr × Obj)) (σ : St) (H : Hp) (s : Shared) (e : Value) (s' : Shared), Inv X pins σ H s → CX X.stack H s E e s' → X.xe e s'
section
variable {X : Cx} {CX : CXT} {k : Nat} {f C : Addr} {fd : FuncData} {ps : List Str} {sp : Sp} {dvs : List V} {ds : List Value} {E : XK} {x m : Str} {p pos apos : Pos} {e o : Expr} {es : List Expr} {ta : TE} {t : TA}
theorem yc {pins : List (Addr × Obj)} {σ : St} {H : Hp} {s : Shared} {Q : VK} {us : List Value} {vs : List V} (F : bh X.prog X.w X.K X.mg X.base CX k f fd ps sp) (hr : cL k X.A) (hb : Binds X.K fd ps ds) (hd : Vals dvs ds) (hx : il CX X E)
  (I : Inv X pins σ H s) (r : Vals vs us) (h : sp (vs ++ dvs) H Q E) : wpAny (model X.prog X.w) X.A (call (.ref f) us) (EP X pins σ Q) X.xe s := by
 have r2 : Vals (vs ++ dvs) (us ++ ds) := r.append hd
 have hl : (us ++ ds).length = ps.length := by rw [← r2.length]; exact F.len _ _ _ _ h
 refine wpAny_call (codeAny_mono (F.run X.A X.stack s H ⟨us, []⟩ (us ++ ds) (vs ++ dvs) Q E hr I.env0 (hb s us I.kIn hl) r2 h) fun r s' hq => ?_)
 cases r with
 | error e => exact hx pins σ H s e s' I hq
 | ok fl =>
  cases fl with
  | ret u => exact I.after hq
  | next => exact False.elim hq
  | brk => exact False.elim hq
  | cont => exact False.elim hq
theorem zz (F : bh X.prog X.w X.K X.mg X.base CX k f fd ps sp) (hr : cL k X.A) (hg : Gl X x) (hm : X.mg x = some (.ref f)) (hk : PySem.W.keepIn X.K (.ref f) = true) (hb : Binds X.K fd ps ds) (hd : Vals dvs ds) (hx : il CX X E)
  (ha : PA X (e :: es) t) (hdb : (x == ("__debug__" : Str)) = false := by decide) (he : starEach (e :: es) X.env = (false, eval e X.env) :: starEach es X.env := by rfl) (hpl : (backTo pos (starEach es X.env)).any (·.1) = false := by rfl) :
  PE X (.Call (.Name x p) (e :: es) [] pos) (vV sp dvs E t) := by
 intro pins s σ H Q I h
 refine wpAny_Call_Name_kw (gW I hg hm ?_ hdb)
 refine PySem.W.callWith_K (h₀ := X.base) I.ok.mod.kin hk (thn (ha pos pins s σ H _ I h) fun us s1 ⟨vs, H1, I1, r, q⟩ => ⟨I1.kIn, ?_⟩) he hpl
 exact yc F hr hb hd hx I1 r q
theorem xY (F : bh X.prog X.w X.K X.mg X.base CX k f fd ps sp) (hr : cL k X.A) (hg : Gl X x) (hm : X.mg x = some (.ref f)) (hk : PySem.W.keepIn X.K (.ref f) = true) (hb : Binds X.K fd ps ds) (hd : Vals dvs ds) (hx : il CX X E)
  (hdb : (x == ("__debug__" : Str)) = false := by decide) : PE X (.Call (.Name x p) [] [] pos) (vV sp dvs E yf) := by
 intro pins s σ H Q I h
 refine wpAny_Call_Name_kw (gW I hg hm ?_ hdb)
 exact PySem.W.callWith_K0 I.kIn hk (yc (us := []) F hr hb hd hx I .nil h)
end
section
variable {X : Cx} {CX : CXT} {k : Nat} {f C : Addr} {fd : FuncData} {ps ks : List Str} {sp : Sp} {E : XK} {x m : Str} {p pos apos kpos : Pos} {e o : Expr} {es : List Expr} {kws : List Keyword} {te ta : TE} {t tk : TA} {nm : Option Str}
variable {g : List Value → List Value → List Value} {gV : List V → List V → List V}
end
structure aD (N P : List Str) (sc : Scope) : Prop where
 kind : sc.kind = .function
 co : sc.isCoroutine = false
 gen : sc.isGenerator = false
 nd : N.Nodup
 pre : N.take P.length = P
 par : ∀ x ∈ P, sc.names.lookup x = some .local ∨ sc.names.lookup x = some .cell
 nofree : ∀ y ∈ sc.names, y.2 ≠ .free
theorem qH {kindOf : Str → Option NameKind} {x : Str} : ∀ {binds : List (Str × Value)} {m : Str → Option Value}, (∀ v, (x, v) ∉ binds) → bindL kindOf binds m x = m x
 | [], _, _ => rfl
 | (n, v) :: r, m, h => by
  unfold bindL
  rw [qH fun w hw => h w (List.mem_cons_of_mem _ hw)]
  split
  ·have : x ≠ n := by rintro rfl; exact h v List.mem_cons_self
   simp [this]
  ·rfl
theorem qK {kindOf : Str → Option NameKind} {x : Str} : ∀ {binds : List (Str × Value)} {m : Str → Option Value}, (∀ v, (x, v) ∉ binds) → bindC kindOf binds m x = m x
 | [], _, _ => rfl
 | (n, v) :: r, m, h => by
  unfold bindC
  rw [qK fun w hw => h w (List.mem_cons_of_mem _ hw)]
  split
  ·rfl
  ·have : x ≠ n := by rintro rfl; exact h v List.mem_cons_self
   simp [this]
theorem lX {kindOf : Str → Option NameKind} {x : Str} {v : Value} : ∀ {P : List Str} {vs : List Value} {i : Nat} {m : Str → Option Value}, P.Nodup → P[i]? = some x → vs[i]? = some v → kindOf x = some .local →
  bindL kindOf (P.zip vs) m x = some v
 | [], _, _, _, _, h, _, _ => by simp at h
 | _ :: _, [], _, _, _, _, h, _ => by simp at h
 | p :: P, w :: vs, 0, m, nd, h1, h2, hk => by
  simp at h1 h2; subst h1; subst h2
  show bindL kindOf ((p, w) :: P.zip vs) m p = _
  unfold bindL
  rw [qH fun v hv => (List.nodup_cons.mp nd).1 (List.of_mem_zip hv).1, if_pos hk]
  simp
 | p :: P, w :: vs, i + 1, m, nd, h1, h2, hk => by
  show bindL kindOf ((p, w) :: P.zip vs) m x = _
  unfold bindL
  exact lX (i := i) (List.nodup_cons.mp nd).2 (by simpa using h1) (by simpa using h2) hk
theorem lL {kindOf : Str → Option NameKind} {x : Str} {v : Value} : ∀ {P : List Str} {vs : List Value} {i : Nat} {m : Str → Option Value}, P.Nodup → P[i]? = some x → vs[i]? = some v → kindOf x ≠ some .local →
  bindC kindOf (P.zip vs) m x = some v
 | [], _, _, _, _, h, _, _ => by simp at h
 | _ :: _, [], _, _, _, _, h, _ => by simp at h
 | p :: P, w :: vs, 0, m, nd, h1, h2, hk => by
  simp at h1 h2; subst h1; subst h2
  show bindC kindOf ((p, w) :: P.zip vs) m p = _
  unfold bindC
  rw [qK fun v hv => (List.nodup_cons.mp nd).1 (List.of_mem_zip hv).1, if_neg hk]
  simp
 | p :: P, w :: vs, i + 1, m, nd, h1, h2, hk => by
  show bindC kindOf ((p, w) :: P.zip vs) m x = _
  unfold bindC
  exact lL (i := i) (List.nodup_cons.mp nd).2 (by simpa using h1) (by simpa using h2) hk
def start (N : List Str) (vs : List V) : St := vs.map some ++ List.replicate (N.length - vs.length) none
def fM (CX : CXT) (P : Program) (w : World) (K : PySem.W.Frag) (mg : Str → Option Value) (base : Heap) (N : List Str) (qual : Str) (scope : Scope) (f : Addr) (cd : Value) (A : Around) (outer : List Env) (s : Shared) (H : Hp) (E : XK) : Cx where
 prog := P
 w := w
 K := K
 mg := mg
 base := base
 A := A.deeper (envOfC qual scope s.heap.objs.size f cd)
 N := N
 s₀ := s
 H₀ := H
 env := envOfC qual scope s.heap.objs.size f cd
 outer := outer
 stack := envOfC qual scope s.heap.objs.size f cd :: outer
 ex := []
 calm := true
 fn := fun _ => true
 pn := []
 xe := fun e s' => wpAny (model P w) (A.deeper (envOfC qual scope s.heap.objs.size f cd)) (leaving (envOfC qual scope s.heap.objs.size f cd) e) (fun _ s'' => CX outer H s E e s'') (fun e' s'' => CX outer H s E e' s'') s'
theorem lr {sc : Scope} {n : Nat} {x : Str} (h : sc.names.lookup x = some .cell) : ∃ c, (cellsFrom n sc.names []).lookup x = some c := by
 have q := PySem.W.cellsFrom_some sc.names n [] (.inl h)
 exact Option.isSome_iff_exists.mp q
theorem qp {CX : CXT} {P : Program} {w : World} {K : PySem.W.Frag} {mg : Str → Option Value} {base : Heap} {N ps : List Str} {qual : Str} {scope : Scope} {f : Addr} {cd : Value} {A : Around} {outer : List Env} {s s1 : Shared} {H : Hp} {E : XK} {us : List Value} {vs : List V}
  (S : aD N ps scope) (hd : A.handled = none) (e0 : rT P w K mg base A outer s H) (hl : vs.length = ps.length) (r : Vals vs us)
  (x : InCallC s s.heap.objs.size (bindL (envOfC qual scope s.heap.objs.size f cd).kindOf (ps.zip us) fun _ => none) (cellsFrom (s.heap.objs.size + 1) scope.names []) (bindC (envOfC qual scope s.heap.objs.size f cd).kindOf (ps.zip us) fun _ => none) s1) :
  Inv (fM CX P w K mg base N qual scope f cd A outer s H E) [] (start N vs) H s1 := by
 have hpl : ps.length ≤ N.length := by have := congrArg List.length S.pre; rw [List.length_take] at this; omega
 obtain ⟨h1, tk, rfl, hk⟩ := x.done
 have noA : ∀ b : Addr, b ∉ (fM CX P w K mg base N qual scope f cd A outer s H E).ex := fun b z => absurd (show b ∈ ([] : List Addr) from z) (by simp)
 refine ⟨⟨e0.mod, S.kind, rfl, rfl, Nat.le_refl _, fun y z c h1 h2 => ?_, fun y hy => ?_, fun y c _ h => ?_, fun _ => hd, Around.frames_deeper e0.frames, .inr ⟨rfl, rfl⟩, fun b z => absurd z (noA b), e0.bs, e0.bsz, fun b _ _ => noA b, fun b z => absurd z (noA b), e0.funs, e0.frf⟩,
  rfl, e0.bare, Un.kept hk, ⟨_, x.toInCall.ns, fun i y v h1 h2 h3 => ?_⟩, fun y c h => ⟨_, x.cell y c h⟩, e0.hok.fresh (Nat.le_refl _), fun y c h => ?_, fun p hp => absurd (show p ∈ ([] : List (Addr × Obj)) from hp) (by simp), e0.hok.kept hk, ?_⟩
 ·exact name_of_addr x.apart (PySem.mem_of_lookup h1) (PySem.mem_of_lookup h2)
 ·have hy : scope.names.lookup y = some .cell ∨ scope.names.lookup y = some .free := hy
  rcases hy with hy | hy
  ·exact lr hy
  ·exact absurd rfl (S.nofree _ (PySem.mem_of_lookup hy))
 ·exact Nat.le_of_lt (x.above y c (PySem.mem_of_lookup h))
 ·have hi : i < vs.length := by
   unfold start at h2
   by_cases hi : i < vs.length
   ·exact hi
   ·rw [List.getElem?_append_right (by simpa using hi)] at h2
    rw [List.getElem?_replicate] at h2
    split at h2 <;> cases h2
  have ha : vs[i]? = some v := by
   unfold start at h2
   rw [List.getElem?_append_left (by simpa using hi), List.getElem?_map] at h2
   cases e : vs[i]? with
   | none => rw [e] at h2; cases h2
   | some a => rw [e] at h2; cases h2; rfl
  obtain ⟨u, hu, rv⟩ := r.get ha
  have hp : ps[i]? = some y := by
   rw [← S.pre, List.getElem?_take_of_lt (by omega)]; exact h1
  have ndP : ps.Nodup := by rw [← S.pre]; exact S.nd.sublist (List.take_sublist _ _)
  refine ⟨u, rv, ?_⟩
  rcases S.par y (List.mem_of_getElem? hp) with k | k
  ·exact .inl ⟨k, lX ndP hp hu k⟩
  ·obtain ⟨c, e⟩ := lr (n := s.heap.objs.size + 1) k
   refine .inr ⟨.inl k, c, e, ?_⟩
   have q := x.cell y c e
   rw [lL ndP hp hu (by show scope.names.lookup y ≠ _; rw [k]; decide)] at q
   exact q
 ·exact e0.hok.fresh (Nat.le_of_lt (x.above y c (PySem.mem_of_lookup h)))
 ·unfold start
  show _ = N.length
  rw [List.length_append, List.length_map, List.length_replicate]
  omega
theorem zY {CX : CXT} {P : Program} {w : World} {K : PySem.W.Frag} {mg : Str → Option Value} {base : Heap} {k : Nat} {f : Addr} {name qual : Str} {params : Arguments} {body : List Stmt} {scope : Scope} {dV kV doc pm cdv ct oc : Value} {an od : Option Addr}
  {osl : Array (Option Value)} {N ps : List Str} {sp : Sp} (lk : K.lookup f = some ⟨oc, od, .func (PySem.W.fnOf name qual params body scope dV kV doc pm an cdv ct), osl⟩) (hcd : PySem.W.codeIn K cdv qual = true) (S : aD N ps scope)
  (len : ∀ vs H Q E, sp vs H Q E → vs.length = ps.length)
  (hbody : ∀ (A : Around) (outer : List Env) (s : Shared) (H : Hp) (vs : List V) (Q : VK) (E : XK), cL k (A.deeper (envOfC qual scope s.heap.objs.size f cdv)) → sp vs H Q E →
   ∃ t, PSs (fM CX P w K mg base N qual scope f cdv A outer s H E) body t ∧ t { nx := fun _ H' => Q .non H', rt := Q } (start N vs) H) :
  bh P w K mg base CX (k + 1) f (PySem.W.fnOf name qual params body scope dV kV doc pm an cdv ct) ps sp := by
 refine ⟨len, fun A outer s H args us vs Q E hr e0 hb r hsp => ?_⟩
 have hl := len _ _ _ _ hsp
 have KX : K.In s.heap := e0.mod.kin.keeps fun b o e => (e0.bs b o e).1
 have lim : s.heap.NoLimit := e0.mod.nolimit.keeps fun b o e => (e0.bs b o e).1
 have hkind : ∀ y ∈ ps.zip us, scope.names.lookup y.1 = some .local ∨ (scope.names.lookup y.1 = some .cell ∧ ((cellsFrom (s.heap.objs.size + 1) scope.names []).lookup y.1).isSome = true) := fun ⟨n, v⟩ hy => by
  rcases S.par n (List.of_mem_zip hy).1 with q | q
  ·exact .inl q
  ·exact .inr ⟨q, PySem.W.cellsFrom_some _ _ _ (.inl q)⟩
 refine codeAny_call_function hr.depth (KX _ _ lk) rfl S.co S.gen rfl (PySem.W.codeRec_of KX hcd) (hb _ _ _ _ ?_)
 refine wpAny_newFunctionEnv_cells S.kind hkind fun env he s1 x => ?_
 subst he
 refine ⟨lim.keeps x.toInCall.keep, codeAny_func ?_⟩
 obtain ⟨t, ht, hq⟩ := hbody A outer s H vs Q E (hr.deeper _) hsp
 have I : Inv (fM CX P w K mg base N qual scope f cdv A outer s H E) [] (start N vs) H s1 := qp S hr.hd e0 hl r x
 refine wpAny_mono (ht [] s1 (start N vs) H _ I hq) (fun fl s' hs => ?_) fun e s' hs => hs
 have fin : ∀ {σ' : St} {H' : Hp} {v : V} {u : Value}, Inv (fM CX P w K mg base N qual scope f cdv A outer s H E) [] σ' H' s' → RelV v u → Q v H' → CE outer P w H s Q u s' :=
  fun {σ' H' v u} J rv q => ⟨v, H', J.os, J.bare, J.base, J.hok, rv, q⟩
 cases fl with
 | ret u =>
  obtain ⟨v, σ', H', J, rv, q⟩ := hs
  exact fin J rv q
 | next =>
  obtain ⟨σ', H', J, q⟩ := hs
  exact fin (v := V.non) (u := Value.none) J rfl q
 | brk =>
  obtain ⟨_, _, _, q⟩ := hs
  exact False.elim q
 | cont =>
  obtain ⟨_, _, _, q⟩ := hs
  exact False.elim q
end L2
namespace L2
open PySem PySem.Spec PyProof.Rows
section
variable {X : Cx} {x : Str} {p pos : Pos} {e : Expr} {es : List Expr} {t : TA} {id T : String} {r : List V → Hp → VK → Prop}
def tCB (r : List V → Hp → VK → Prop) (t : TA) : TE := fun σ H Q => t σ H fun vs H1 => r vs H1 Q
theorem aW (hc : dq X (.builtin id) r) (hg : Gl X x) (hm : X.mg x = none) (hv : bootBuiltins x = some (.builtin id)) (ha : PA X (e :: es) t) (hn : x ≠ "__name__" := by decide) (hdb : (x == ("__debug__" : Str)) = false := by decide)
  (he : starEach (e :: es) X.env = (false, eval e X.env) :: starEach es X.env := by rfl) (hpl : (backTo pos (starEach es X.env)).any (·.1) = false := by rfl) : PE X (.Call (.Name x p) (e :: es) [] pos) (tCB r t) := by
 intro pins s σ H Q I h
 refine wpAny_Call_Name_kw (dG I hg hm hv ?_ hn hdb)
 exact PyProof.Rows.callWith_builtin1 (thn (ha pos pins s σ H _ I h) fun us s1 ⟨vs, H1, I1, r1, q1⟩ => hc pins s1 σ H1 vs us Q I1 r1 q1) he hpl
theorem dz (hc : dq X (.type T) r) (hg : Gl X x) (hm : X.mg x = none) (hv : bootBuiltins x = some (.type T)) (ha : PA X (e :: es) t) (hn : x ≠ "__name__" := by decide) (hdb : (x == ("__debug__" : Str)) = false := by decide)
  (he : starEach (e :: es) X.env = (false, eval e X.env) :: starEach es X.env := by rfl) (hpl : (backTo pos (starEach es X.env)).any (·.1) = false := by rfl) : PE X (.Call (.Name x p) (e :: es) [] pos) (tCB r t) := by
 intro pins s σ H Q I h
 refine wpAny_Call_Name_kw (dG I hg hm hv ?_ hn hdb)
 exact PyProof.Rows.callWith_type1 (thn (ha pos pins s σ H _ I h) fun us s1 ⟨vs, H1, I1, r1, q1⟩ => hc pins s1 σ H1 vs us Q I1 r1 q1) he hpl
end
end L2
namespace HT
open PySem PyProof.Rows
section
open PySem.SeqAt
open PySem.AutoSeq1 (wpAny_loadPart')
open PySem.MeetsSeq PySem.MeetsSeq2 PySem.MeetsSeq3
end
section
variable {prog : Program} {w : World} {A : Around} {E : Value → Shared → Prop} {s : Shared}
def sIx (n d : Nat) : Option Int → Nat
 | none => d
 | some v => if v < 0 then (v + (n : Int)).toNat else min v.toNat n
theorem tV (n d : Nat) : sIx n d none = d := rfl
theorem nU (n d k : Nat) : sIx n d (some (k : Int)) = min k n := by
 show (if (k : Int) < 0 then ((k : Int) + (n : Int)).toNat else min (k : Int).toNat n) = min k n
 rw [if_neg (by omega), Int.toNat_natCast]
end
end HT
namespace L2
open PySem PySem.Spec PyProof.Rows
abbrev TO := St → Hp → (Option Int → Hp → Prop) → Prop
def PO (X : Cx) (e : Option Expr) (t : TO) : Prop :=
 ∀ (pins : List (Addr × Obj)) (s : Shared) (σ : St) (H : Hp) (Q : Option Int → Hp → Prop), Inv X pins σ H s → t σ H Q →
  wpAny (model X.prog X.w) X.A (evalPart e X.env) (fun u s' => ∃ o H', Inv X pins σ H' s' ∧ IsPart u o ∧ Q o H') X.xe s
def zO : TO := fun _ H Q => Q none H
def Cj (t : TE) : TO := fun σ H Q => t σ H fun x H1 => ∃ i, x = .int i ∧ Q (some i) H1
theorem intsAre_of {ns : List Int} : ∀ {us : List Value}, Vals (ns.map V.int) us → IntsAre us ns := by
 induction ns with
 | nil => intro us r; rw [List.map_nil] at r; cases r; exact .nil
 | cons n ns ih =>
  intro us r
  rw [List.map_cons] at r
  cases r with
  | cons r1 r2 =>
   obtain ⟨t, e⟩ := r1
   subst e
   exact .cons n t (ih r2)
section
variable {X : Cx} {e : Expr} {te : TE} {lo hi : Option Expr} {tl th : TO} {pos p2 : Pos}
theorem nR : PO X none zO := by
 intro pins s σ H Q I h
 rw [evalPart_none]
 exact wpAny_pure ⟨none, H, I, .none, h⟩
theorem jr (h : PE X e te) : PO X (some e) (Cj te) := by
 intro pins s σ H Q I hw
 rw [evalPart_some]
 refine thn (h pins s σ H _ I hw) fun u s1 ⟨x, H1, I1, r1, q1⟩ => ?_
 obtain ⟨i, rfl, q⟩ := q1
 obtain ⟨t, rfl⟩ := r1
 exact ⟨some i, H1, I1, .int i t, q⟩
def SlR (X : Cx) (r : V → Option Int → Option Int → Hp → VK → Prop) : Prop :=
 ∀ (pins : List (Addr × Obj)) (s : Shared) (σ : St) (H : Hp) (x : V) (v vl vu : Value) (lo hi : Option Int) (sl : Addr) (Q : VK), Inv X pins σ H s → RelV x v → s.heap.IsSliceOf sl vl vu .none → IsPart vl lo → IsPart vu hi → r x lo hi H Q →
  ∃ T id, typeLookup (.type T) "__getitem__" = pure (some (.builtin id)) ∧ s.TypeIs v T ∧ wpAny (model X.prog X.w) X.A (getItem v (.ref sl)) (EP X pins σ Q) X.xe s
def tSl (r : V → Option Int → Option Int → Hp → VK → Prop) (te : TE) (tl th : TO) : TE := fun σ H Q => te σ H fun x H1 => tl σ H1 fun l H2 => th σ H2 fun u H3 => r x l u H3 Q
theorem iZ {r : V → Option Int → Option Int → Hp → VK → Prop} (hr : SlR X r) (he : PE X e te) (hl : PO X lo tl) (hu : PO X hi th) : PE X (.Subscript e (.Slice lo hi none p2) pos) (tSl r te tl th) := by
 intro pins s σ H Q I h
 refine Subscript_ (thn (he pins s σ H _ I h) fun v s1 ⟨x, H1, I1, r1, q1⟩ => ?_)
 refine wpAny_Slice (thn (hl pins s1 σ H1 _ I1 q1) fun vl s2 ⟨l, H2, I2, pl, q2⟩ => thn (hu pins s2 σ H2 _ I2 q2) fun vu s3 ⟨u, H3, I3, pu, q3⟩ => ?_)
 rw [evalPart_none]
 refine wpAny_pure ?_
 have I4 : Inv X pins σ H3 { s3 with heap := s3.heap.push { cls := .type "slice", data := .fields #[vl, vu, .none] } } := I3.kept (t' := s3.toks) fun b ob q => Heap.get?_push_of_some _ q
 obtain ⟨T, id, hT, ht, hg⟩ := hr pins { s3 with heap := s3.heap.push { cls := .type "slice", data := .fields #[vl, vu, .none] } } σ H3 x v vl vu l u s3.heap.objs.size Q I4 r1 (Heap.IsSliceOf.new ..) pl pu q3
 show wpAny (model X.prog X.w) X.A (subscriptTail e (.Slice lo hi none p2) v (.ref s3.heap.objs.size)) (EP X pins σ Q) X.xe { s3 with heap := s3.heap.push { cls := .type "slice", data := .fields #[vl, vu, .none] } }
 exact tail_any (ops := [.ref s3.heap.objs.size, v]) ht hT hg (by with_unfolding_all rfl)
def j7 (xs : List V) (lo hi : Option Int) : List V := (xs.drop (HT.sIx xs.length 0 lo)).take (HT.sIx xs.length xs.length hi - HT.sIx xs.length 0 lo)
theorem tQ (xs : List V) (lo hi : Option Int) : (j7 xs lo hi).length ≤ xs.length := by
 unfold j7
 rw [List.length_take, List.length_drop]
 omega
end
end L2
namespace L2
open PySem PySem.Spec PyProof.Rows
def ixN (n : Nat) (i : Int) : Option Nat := if 0 ≤ i then (if i < n then some i.toNat else none) else if -(n : Int) ≤ i then some (i + n).toNat else none
def atI {α : Type} (xs : List α) (i : Int) : Option α := (ixN xs.length i).bind fun j => xs[j]?
theorem vH {n : Nat} {i : Int} {j : Nat} (h : ixN n i = some j) : seqIndex? i n = some j ∧ j < n ∧ -(n : Int) ≤ i ∧ i < n := by
 unfold ixN at h
 by_cases h0 : 0 ≤ i
 ·rw [if_pos h0] at h
  by_cases h1 : i < n
  ·rw [if_pos h1] at h
   have e : i.toNat = j := Option.some.inj h
   exact ⟨by rw [seqIndex_of h0 h1, e], by omega, by omega, h1⟩
  ·rw [if_neg h1] at h; cases h
 ·rw [if_neg h0] at h
  by_cases h1 : -(n : Int) ≤ i
  ·rw [if_pos h1] at h
   have e : (i + n).toNat = j := Option.some.inj h
   exact ⟨by rw [seqIndex_neg (by omega) h1, e], by omega, h1, by omega⟩
  ·rw [if_neg h1] at h; cases h
theorem vZ {α : Type} {xs : List α} {i : Int} {v : α} (h : atI xs i = some v) : ∃ j, seqIndex? i xs.length = some j ∧ xs[j]? = some v ∧ j < xs.length ∧ -(xs.length : Int) ≤ i ∧ i < xs.length := by
 unfold atI at h
 cases e : ixN xs.length i with
 | none => rw [e] at h; cases h
 | some j =>
  rw [e] at h
  obtain ⟨h1, h2, h3, h4⟩ := vH e
  exact ⟨j, h1, h, h2, h3, h4⟩
theorem v7 {α : Type} {xs : List α} {j : Nat} {v : α} (h : xs[j]? = some v) : atI xs (j : Int) = some v := by
 have hj : j < xs.length := (List.getElem?_eq_some_iff.mp h).1
 have e : ixN xs.length (j : Int) = some j := by
  unfold ixN
  rw [if_pos (by omega), if_pos (by omega)]; simp
 unfold atI; rw [e]; exact h
theorem yQ {α : Type} (xs : List α) (v : α) : atI (xs ++ [v]) (-1) = some v := by
 have hl : (xs ++ [v]).length = xs.length + 1 := by simp
 have e : ixN (xs ++ [v]).length (-1) = some xs.length := by
  unfold ixN
  rw [hl, if_neg (by decide), if_pos (by omega)]
  congr 1
  omega
 unfold atI
 rw [e]
 show (xs ++ [v])[xs.length]? = some v
 simp
def zE (b : Expr) : Prop := ∀ o i, subscripted b false o i = operate [o, i] (getItem o i)
def IxR (X : Cx) (r : R2) : Prop :=
 ∀ (value slice : Expr) (pins : List (Addr × Obj)) (s : Shared) (σ : St) (H : Hp) (x y : V) (v u : Value) (Q : VK), Inv X pins σ H s → RelV x v → RelV y u → r x y H Q →
  subscripted slice false v u = operate [v, u] (getItem v u) → wpAny (model X.prog X.w) X.A (subscriptTail value slice v u) (EP X pins σ Q) X.xe s
def MtR (X : Cx) (id : String) (r : V → List V → Hp → VK → Prop) : Prop :=
 ∀ (pins : List (Addr × Obj)) (s : Shared) (σ : St) (H : Hp) (x : V) (xs : List V) (v : Value) (us : List Value) (Q : VK), Inv X pins σ H s → RelV x v → Vals xs us → r x xs H Q →
  wpAny (model X.prog X.w) X.A (call (.builtin id) (v :: us)) (EP X pins σ Q) X.xe s
section
variable {X : Cx} {a b : Expr} {ta tb : TE} {pos : Pos}
theorem bH {r : R2} (hr : IxR X r) (ha : PE X a ta) (hb : PE X b tb) (hs : zE b) : PE X (.Subscript a b pos) (tOp r ta tb) := by
 intro pins s σ H Q I h
 exact Subscript_ (Bf ha hb I h fun v u s2 x y H2 I2 rx ry q => hr a b pins s2 σ H2 x y v u Q I2 rx ry q (hs _ _))
def CK (K : PySem.W.Frag) : R2 := fun x y H Q => ∃ p xs i v, x = .ref p ∧ y = .int i ∧ SqL K H p xs ∧ atI xs i = some v ∧ Q v H
def CV (K : PySem.W.Frag) : R2 := fun x y H Q => ∃ p xs i v, x = .ref p ∧ y = .int i ∧ SqT K H p xs ∧ atI xs i = some v ∧ Q v H
theorem cR : IxR X (CK X.K) := by
 intro value slice pins s σ H x y v u Q I rx ry h hs
 obtain ⟨p, xs, i, z, rfl, rfl, hq, he, q⟩ := h
 cases rx
 obtain ⟨t, rfl⟩ := ry
 obtain ⟨its, r, pl, hz⟩ := I.list hq
 obtain ⟨j, h1, h2, h3, h4, h5⟩ := vZ he
 obtain ⟨w, ew, rw'⟩ := r.get h2
 have hl := r.length
 have hn := rn
 have fin : EP X pins σ Q w s := ⟨z, H, I, rw', q⟩
 by_cases h0 : 0 ≤ i
 ·have hj : i.toNat = j := by
   rw [seqIndex_of h0 h5] at h1
   exact Option.some.inj h1
  exact item_listR pl.isList h0 (by omega) (by rw [hj]; simpa using ew) fin hs
 ·have hj : (i + (its.toArray.size : Int)).toNat = j := by
   rw [seqIndex_neg (by omega) h4] at h1
   rw [List.size_toArray, ← hl]
   exact Option.some.inj h1
  exact subscriptTail_builtinR (x := w) pl.isList.typeIs slot_list_getitem.lookup
   (wpAny_getItem_list_neg (Q := fun r s' => r = w ∧ EP X pins σ Q r s') pl.isList (by omega) (by rw [List.size_toArray] <;> omega) (by omega) (by rw [hj]; simpa using ew) ⟨rfl, fin⟩) hs
theorem bW : IxR X (CV X.K) := by
 intro value slice pins s σ H x y v u Q I rx ry h hs
 obtain ⟨p, xs, i, z, rfl, rfl, hq, he, q⟩ := h
 cases rx
 obtain ⟨t, rfl⟩ := ry
 obtain ⟨its, r, pl, hz⟩ := I.tuple hq
 obtain ⟨j, h1, h2, h3, h4, h5⟩ := vZ he
 obtain ⟨w, ew, rw'⟩ := r.get h2
 have hl := r.length
 have hn := rn
 have fin : EP X pins σ Q w s := ⟨z, H, I, rw', q⟩
 exact subscriptTail_builtinR (x := w) pl.typeIs slot_tuple_getitem.lookup
  (getItem_tuple (j := j) (Q := fun r s' => r = w ∧ EP X pins σ Q r s') pl (by omega) (by omega) (by rw [List.size_toArray, ← hl]; exact h1) (by simpa using ew) ⟨rfl, fin⟩) hs
theorem ut (its : List Value) (n j : Nat) (u : Value) : Obj.mapSeq (·.setIfInBounds j u) { cls := .type "list", data := .seq its.toArray n } = { cls := .type "list", data := .seq (its.set j u).toArray n } := by
 simp [Obj.mapSeq]
theorem Inv.lst {pins : List (Addr × Obj)} {σ : St} {H : Hp} {s : Shared} {p : Addr} {xs : List V} (I : Inv X pins σ H s) (h : H p = some (.lst xs)) :
  ∃ (its : List Value) (n : Nat), Vals xs its ∧ s.heap.get? p = some { cls := .type "list", data := .seq its.toArray n } ∧ xs.length ≤ sizeLine := by
 obtain ⟨z, its, n, r, e⟩ := I.hok p _ h
 exact ⟨its, n, r, e, z⟩
theorem Inv.lstUpd {pins : List (Addr × Obj)} {σ : St} {H : Hp} {s : Shared} {p : Addr} {xs ys : List V} {its its' : List Value} {n n' : Nat} {f : Obj → Obj} (I : Inv X pins σ H s) (h : H p = some (.lst xs))
  (ho : s.heap.get? p = some { cls := .type "list", data := .seq its.toArray n }) (hf : f { cls := .type "list", data := .seq its.toArray n } = { cls := .type "list", data := .seq its'.toArray n' }) (r : Vals ys its') (hz : ys.length ≤ sizeLine) (t : Nat) :
  Inv X pins σ (upd H p (.lst ys)) { s with heap := s.heap.update p f, toks := t } := by
 have e : (s.heap.update p f).get? p = some { cls := .type "list", data := .seq its'.toArray n' } := by
  rw [Heap.get?_update_self f ho (by rw [hf] <;> rfl), hf]
 refine I.write (x := p) (e := p) (by rw [h]; trivial) (.inl rfl) (fun b u hb q => (Heap.get?_update_other _ _ (Ne.symm hb)).trans q) ⟨_, e⟩ ?_
 exact ⟨hz, its', n', r, e⟩
def BV : V → V → V → Hp → (Hp → Prop) → Prop := fun o i v H Q => ∃ p xs k j, o = .ref p ∧ i = .int k ∧ H p = some (.lst xs) ∧ ixN xs.length k = some j ∧ Q (upd H p (.lst (xs.set j v)))
theorem set_list : BL X BV := by
 intro pins s σ H o i v ov iv u Q I ro ri rv h
 obtain ⟨p, xs, k, j, rfl, rfl, hp, hj, q⟩ := h
 cases ro
 obtain ⟨t, rfl⟩ := ri
 obtain ⟨its, n, r, ho, hz⟩ := I.lst hp
 obtain ⟨h1, h2, h3, h4⟩ := vH hj
 have hl := r.length
 have hn := rn
 have I' : Inv X pins σ (upd H p (.lst (xs.set j v))) { s with heap := s.heap.update p (Obj.mapSeq (·.setIfInBounds j u)) } :=
  I.lstUpd hp ho (ut its n j u) (r.set rv j) (by rw [List.length_set]; exact hz) s.toks
 by_cases h0 : 0 ≤ k
 ·have hk : k.toNat = j := by
   rw [seqIndex_of h0 h4] at h1
   exact Option.some.inj h1
  exact PySem.W.ki_setAt ho h0 (by omega) (by rw [List.size_toArray, ← hl]; exact h4) (by rw [hk]; exact ⟨_, I', q⟩)
 ·have hk : (k + (its.toArray.size : Int)).toNat = j := by
   rw [seqIndex_neg (by omega) h3] at h1
   rw [List.size_toArray, ← hl]
   exact Option.some.inj h1
  exact PySem.W.ki_setBack ho (by omega) (by rw [List.size_toArray, ← hl]; exact h3) (by omega) (by rw [hk]; exact ⟨_, I', q⟩)
theorem rH (lo hi : Option Int) (n : Nat) : (sliceBounds lo hi none n).1 = ((HT.sIx n 0 lo : Nat) : Int) ∧ (sliceBounds lo hi none n).2.1 = ((HT.sIx n n hi : Nat) : Int) ∧ (sliceBounds lo hi none n).2.2 = 1 := by
 refine ⟨?_, ?_, rfl⟩
 ·cases lo with
  | none => simp [sliceBounds, HT.sIx]
  | some i =>
   simp only [sliceBounds, HT.sIx, Option.getD_none, show (1 : Int) > 0 by decide, if_true]
   by_cases h : i < 0
   ·simp only [h, if_true] <;> omega
   ·simp only [h, if_false] <;> omega
 ·cases hi with
  | none => simp [sliceBounds, HT.sIx]
  | some i =>
   simp only [sliceBounds, HT.sIx, Option.getD_none, show (1 : Int) > 0 by decide, if_true]
   by_cases h : i < 0
   ·simp only [h, if_true] <;> omega
   ·simp only [h, if_false] <;> omega
theorem p8 (its : List Value) (lo hi : Option Int) : slicePick its.toArray lo hi none = ((its.drop (HT.sIx its.length 0 lo)).take (HT.sIx its.length its.length hi - HT.sIx its.length 0 lo)).toArray := by
 obtain ⟨h1, h2, h3⟩ := rH lo hi its.toArray.size
 unfold slicePick
 rw [h1, h2, h3]
 simp only [sliceRange_one, pick_run, List.size_toArray] <;> rfl
def BX (K : PySem.W.Frag) : V → Option Int → Option Int → Hp → VK → Prop := fun x lo hi H Q => ∃ a xs, x = .ref a ∧ SqL K H a xs ∧ ∀ p, H p = none → Q (.ref p) (upd H p (.lst (j7 xs lo hi)))
theorem lq : SlR X (BX X.K) := by
 intro pins s σ H x v vl vu lo hi sl Q I rx hs pl pu h
 obtain ⟨a, xs, rfl, hx, q⟩ := h
 cases rx
 obtain ⟨its, r, ht, hz⟩ := I.list hx
 have hlen := r.length
 refine ⟨"list", _, slot_list_getitem.lookup, ht.isList.typeIs, ?_⟩
 refine wpAny_getItem_list_slice ht.isList hs pl pu .none (by simp) ?_ (by rw [List.size_toArray] <;> omega)
 rw [p8, ← hlen]
 refine ⟨.ref s.heap.objs.size, _, I.laid (t' := s.toks) (o := .lst (j7 xs lo hi)) (fun b ob q => Heap.get?_push_of_some _ q) (Nat.le_refl _) ?_, rfl, q _ (I.hok.fresh (Nat.le_refl _))⟩
 exact ⟨Nat.le_trans (tQ xs lo hi) hz, _, 0, (r.drop (HT.sIx xs.length 0 lo)).take (HT.sIx xs.length xs.length hi - HT.sIx xs.length 0 lo), Heap.get?_push_size _ rfl⟩
theorem aZ : dq X (.builtin "len") (fun xs H Q => ∃ p ys, xs = [.ref p] ∧ (SqL X.K H p ys ∨ SqT X.K H p ys) ∧ Q (.int ys.length) H) := by
 intro pins s σ H xs us Q I r h
 obtain ⟨p, ys, rfl, hq, q⟩ := h
 obtain ⟨u, rfl, rx⟩ := vals1 r
 cases rx
 have hn := rn
 rcases hq with hq | hq
 ·obtain ⟨its, r', pl, hz⟩ := I.list hq
  have hlen := r'.length
  exact Calls.call_len_list pl.isList (by simp only [List.size_toArray] <;> omega) ⟨.int ys.length, H, I.tok _, ⟨s.toks + 1, by rw [List.size_toArray, hlen]⟩, q⟩
 ·obtain ⟨its, r', pl, hz⟩ := I.tuple hq
  have hlen := r'.length
  exact len_tuple pl (by simp only [List.size_toArray] <;> omega) ⟨.int ys.length, H, I.tok _, ⟨s.toks + 1, by rw [List.size_toArray, hlen]⟩, q⟩
theorem du : dq X (.type "list") (fun xs H Q => ∃ p ys, xs = [.ref p] ∧ (SqL X.K H p ys ∨ SqT X.K H p ys) ∧ ∀ l, H l = none → Q (.ref l) (upd H l (.lst ys))) := by
 intro pins s σ H xs us Q I r h
 obtain ⟨p, ys, rfl, hq, q⟩ := h
 obtain ⟨u, rfl, rx⟩ := vals1 r
 cases rx
 have fin : ∀ (its : List Value), Vals ys its → ys.length ≤ sizeLine → ∀ (h' : Heap) (c' : Nat), (∀ b o', s.heap.get? b = some o' → h'.get? b = some o') →
   h'.get? s.heap.objs.size = some { cls := .type "list", dict := none, data := .seq its.toArray c', slots := #[] } → EP X pins σ Q (.ref s.heap.objs.size) { s with heap := h' } := fun its r' hz h' c' kp e =>
  ⟨.ref s.heap.objs.size, _, I.laid (t' := s.toks) kp (Nat.le_refl _) (show cU X.prog X.w _ h' _ (.lst ys) from ⟨hz, its, c', r', e⟩), rfl, q _ (I.hok.fresh (Nat.le_refl _))⟩
 rcases hq with hq | hq
 ·obtain ⟨its, r', pl, hz⟩ := I.list hq
  have hlen := r'.length
  obtain ⟨o, ho, hc, n, hd⟩ := pl.isList
  exact call_list_seq p (.inl rfl) ho hc hd (fun h' c' kp e => fin its r' hz h' c' kp e) (by simp only [List.size_toArray] <;> omega)
 ·obtain ⟨its, r', pl, hz⟩ := I.tuple hq
  have hlen := r'.length
  obtain ⟨o, ho, hc, n, hd⟩ := pl
  exact call_list_seq p (.inr rfl) ho hc hd (fun h' c' kp e => fin its r' hz h' c' kp e) (by simp only [List.size_toArray] <;> omega)
theorem jw : dq X (.type "tuple") (fun xs H Q => ∃ p ys, xs = [.ref p] ∧ ((SqL X.K H p ys ∧ ∀ l, H l = none → Q (.ref l) (upd H l (.tup ys))) ∨ (SqT X.K H p ys ∧ Q (.ref p) H))) := by
 intro pins s σ H xs us Q I r h
 obtain ⟨p, ys, rfl, h⟩ := h
 obtain ⟨u, rfl, rx⟩ := vals1 r
 cases rx
 rcases h with ⟨hq, q⟩ | ⟨hq, q⟩
 ·obtain ⟨its, r', pl, hz⟩ := I.list hq
  have hlen := r'.length
  refine call_tuple_list pl.isList (fun h' kp => ?_) (by simp only [List.size_toArray] <;> omega)
  have I1 : Inv X pins σ H { s with heap := h' } := I.kept (t' := s.toks) kp
  have I2 : Inv X pins σ (upd H h'.objs.size (.tup ys)) { s with heap := h'.push { cls := .type "tuple", data := .seq its.toArray } } :=
   I1.laid (t' := s.toks) (fun b o e => Heap.get?_push_of_some _ e) (Nat.le_refl _) (show cU X.prog X.w _ _ _ (.tup ys) from ⟨hz, its, r', IsTup.new _ _⟩)
  exact ⟨.ref h'.objs.size, _, I2, rfl, q _ (I1.hok.fresh (Nat.le_refl _))⟩
 ·obtain ⟨its, r', pl, hz⟩ := I.tuple hq
  exact call_tuple_same pl ⟨.ref p, H, I, rfl, q⟩
def tyV (K : PySem.W.Frag) (T : String) (x : V) (H : Hp) : Prop := match x with
 | .str _ => T = "str"
 | .int _ => T = "int"
 | .ref p => (T = "list" ∧ ∃ xs, SqL K H p xs) ∨ (T = "tuple" ∧ ∃ o, K.lookup p = some o ∧ o.cls = .type "tuple" ∧ o.dict = none) ∨
   (T = "dict" ∧ ((∃ kvs, H p = some (.dK kvs)) ∨ ∃ kvs, H p = some (.dT kvs))) ∨ (T = "set" ∧ ∃ S n, H p = some (.set S n))
 | _ => False
theorem Ba {pins : List (Addr × Obj)} {σ : St} {H : Hp} {s : Shared} {T : String} {x : V} {v : Value} (I : Inv X pins σ H s) (r : RelV x v) (ty : tyV X.K T x H) :
  s.TypeIs v T ∧ ∀ a, v = .ref a → ∃ ob, s.heap.get? a = some ob ∧ ob.dict = none := by
 cases x with
 | str z =>
  obtain ⟨t, rfl⟩ := r
  cases (show T = "str" from ty)
  exact ⟨typeIs_str s z t, fun _ e => nomatch e⟩
 | int i =>
  obtain ⟨t, rfl⟩ := r
  cases (show T = "int" from ty)
  exact ⟨typeIs_int s i t, fun _ e => nomatch e⟩
 | ref p =>
  cases r
  rcases ty with ⟨rfl, xs, hq⟩ | ⟨rfl, o, hk, hc, hd⟩ | ⟨rfl, hk⟩ | ⟨rfl, S, n, hk⟩
  ·obtain ⟨its, _, pl, _⟩ := I.list hq
   refine ⟨pl.isList.typeIs, fun a e => ?_⟩
   cases e
   obtain ⟨o, n, e, c, hd, _⟩ := pl
   exact ⟨o, e, hd⟩
  ·refine ⟨⟨o, I.kIn p o hk, hc⟩, fun a e => ?_⟩
   cases e
   exact ⟨o, I.kIn _ o hk, hd⟩
  ·have z : ∃ o, s.heap.get? p = some o ∧ o.ExactDict := by
    rcases hk with ⟨kvs, hk⟩ | ⟨kvs, hk⟩
    ·obtain ⟨_, _, _, _, o, _, _, e, ex, _⟩ := I.hok p _ hk
     exact ⟨o, e, ex⟩
    ·obtain ⟨_, _, _, _, o, _, _, e, ex, _⟩ := I.hok p _ hk
     exact ⟨o, e, ex⟩
   obtain ⟨o, e, ex⟩ := z
   refine ⟨⟨o, e, ex.1⟩, fun a e2 => ?_⟩
   cases e2
   exact ⟨o, e, ex.2.1⟩
  ·obtain ⟨o, _, _, _, e, ex, _⟩ := I.hok p _ hk
   refine ⟨⟨o, e, ex.1⟩, fun a e2 => ?_⟩
   cases e2
   exact ⟨o, e, ex.2.1⟩
 | _ => exact False.elim ty
def tBM (K : PySem.W.Frag) (T : String) (r : V → List V → Hp → VK → Prop) (to : TE) (t : TA) : TE := fun σ H Q => to σ H fun x H1 => tyV K T x H1 ∧ t σ H1 fun xs H2 => r x xs H2 Q
variable {o e : Expr} {es : List Expr} {to : TE} {t : TA} {name : Str} {apos cpos : Pos} {T id : String} {r : V → List V → Hp → VK → Prop}
theorem o7 (pa : PlainAttrs T) (slot : Slot T name id) (hty : typeOf (.builtin id) = pure (.type "method_descriptor")) (hm : MtR X id r) (ho : PE X o to) (ha : PA X (e :: es) t)
  (hbase : attributeBase o name X.env (eval o X.env) = eval o X.env := by rfl)
  (hfew : ((backTo cpos (starEach (e :: es) X.env)).all (fun x => !x.1) && (backToKw cpos (keywordEach [] X.env)).all (fun x => x.1.isSome)
   && decide ((e :: es).length + ([] : List Keyword).length + (if ([] : List Keyword).isEmpty then 0 else 1) < 30)) = true := by rfl)
  (hline : (apos.endLine == cpos.line) = true := by rfl) (hs : starEach (e :: es) X.env = (false, eval e X.env) :: starEach es X.env := by rfl) (hplain : (backTo cpos (starEach es X.env)).any (·.1) = false := by rfl) :
  PE X (.Call (.Attribute o name apos) (e :: es) [] cpos) (tBM X.K T r to t) := by
 intro pins s σ H Q I h
 refine wpAny_Call_method_late hbase hfew hline rfl (thn (ho pins s σ H _ I h) fun v s1 ⟨x, H1, I1, r1, ty, q1⟩ => ?_)
 obtain ⟨h1, h2⟩ := Ba I1 r1 ty
 refine ⟨T, id, pa, slot, hty, h1, h2, ?_⟩
 have hA := ha cpos pins s1 σ H1 _ I1 q1
 rw [hs] at hA ⊢
 refine Calls.callWith_builtin (by show (false || (backTo cpos (starEach es X.env)).any (·.1)) = false; rw [hplain] <;> rfl) (Calls.evalArgs_plain ?_)
 exact thn hA fun us s2 ⟨vs, H2, I2, r2, q2⟩ => hm pins s2 σ H2 x vs v us Q I2 r1 r2 q2
/- xs.append(e), list.index on a module's tuple .. are MtR facts of 06m -/
end
end L2
namespace L2
open PySem PySem.Spec PyProof.Rows
def MtM (X : Cx) (id : String) (r : V → List V → Hp → VK → Prop) : Prop :=
 ∀ (pins : List (Addr × Obj)) (s : Shared) (σ : St) (H : Hp) (x : V) (xs : List V) (v : Value) (us : List Value) (Q : VK), Inv X pins σ H s → RelV x v → Vals xs us → r x xs H Q →
  wpAny (model X.prog X.w) X.A (call (.builtin id) (v :: us)) (EP X pins σ Q) X.xe s
theorem Vals.one : ∀ {x : V} {us : List Value}, Vals [x] us → ∃ u, us = [u] ∧ RelV x u
 | _, _, .cons r .nil => ⟨_, rfl, r⟩
theorem Vals.reverse {xs : List V} {us : List Value} (h : Vals xs us) : Vals xs.reverse us.reverse := by
 induction h with
 | nil => exact .nil
 | cons r t ih => rw [List.reverse_cons, List.reverse_cons]; exact Vals.append ih (.cons r .nil)
theorem Vals.rep {xs : List V} {us : List Value} (h : Vals xs us) : ∀ k : Nat, Vals (List.replicate k xs).flatten (List.replicate k us).flatten
 | 0 => .nil
 | k + 1 => by
  rw [List.replicate_succ, List.replicate_succ, List.flatten_cons, List.flatten_cons]
  exact Vals.append h (Vals.rep h k)
theorem foldl_rep (its : List Value) : ∀ (k : Nat) (acc : List Value),
  List.foldl (fun x1 x2 => x1 ++ x2) acc.toArray (List.replicate k its.toArray) = (acc ++ (List.replicate k its).flatten).toArray
 | 0, acc => by simp
 | k + 1, acc => by
  have e : acc.toArray ++ its.toArray = (acc ++ its).toArray := by simp
  have e2 : (acc ++ its) ++ (List.replicate k its).flatten = acc ++ (List.replicate (k + 1) its).flatten := by
   rw [List.replicate_succ, List.flatten_cons, List.append_assoc]
  rw [← e2, ← foldl_rep its k (acc ++ its), ← e, List.replicate_succ, List.foldl_cons]
section
variable {X : Cx} {pins : List (Addr × Obj)} {σ : St} {H : Hp} {s : Shared} {l b : Addr} {xs ys zs : List V}
theorem Inv.lset {its its' : List Value} {n : Nat} {f : Array Value → Array Value} {t' : Nat} (I : Inv X pins σ H s) (hH : H l = some (.lst xs))
  (e : s.heap.get? l = some { cls := .type "list", data := .seq its.toArray n }) (hf : f its.toArray = its'.toArray) (hv : Vals ys its') (hz : ys.length ≤ sizeLine) :
  Inv X pins σ (upd H l (.lst ys)) { s with heap := s.heap.update l (Obj.mapSeq f), toks := t' } := by
 have q := PySem.IsL.update e f
 rw [hf] at q
 refine I.write (x := l) (e := l) (by rw [hH]; exact trivial) (.inl rfl) (fun b' u hb hu => (Heap.get?_update_other s.heap (Obj.mapSeq f) (Ne.symm hb)).trans hu) ⟨_, q⟩ ?_
 exact ⟨hz, its', _, hv, q⟩
theorem Inv.lnew {its : List Value} {t' : Nat} (I : Inv X pins σ H s) (hv : Vals ys its) (hz : ys.length ≤ sizeLine) :
  Inv X pins σ (upd H s.heap.objs.size (.lst ys)) { s with heap := s.heap.push { cls := .type "list", data := .seq its.toArray }, toks := t' } :=
 I.laid (fun _ _ q => Heap.get?_push_of_some _ q) (Nat.le_refl _) ⟨hz, its, 0, hv, Heap.get?_push_size _ rfl⟩
theorem Inv.fresh (I : Inv X pins σ H s) : H s.heap.objs.size = none := I.hok.fresh (Nat.le_refl _)
theorem Inv.lstM (I : Inv X pins σ H s) (hH : H l = some (.lst xs)) : xs.length ≤ sizeLine ∧ ∃ (its : List Value) (n : Nat), Vals xs its ∧ xs.length = its.length ∧ s.heap.get? l = some { cls := .type "list", data := .seq its.toArray n } := by
 obtain ⟨z, its, n, r, e⟩ := I.hok l _ hH
 exact ⟨z, its, n, r, r.length, e⟩
theorem sZ {n : Nat} (h : n ≤ sizeLine) : Builtin.List.listTooLong n = false := by
 unfold Builtin.List.listTooLong
 exact decide_eq_false (by omega)
end
section
variable {X : Cx}
def zN : V → List V → Hp → VK → Prop := fun x vs H Q => ∃ l xs y, x = .ref l ∧ vs = [y] ∧ H l = some (.lst xs) ∧ xs.length < sizeLine ∧ Q .non (upd H l (.lst (xs ++ [y])))
theorem cV : MtM X "list.append" zN := by
 intro pins s σ H x vs v us Q I rx rv h
 obtain ⟨l, xs, y, rfl, rfl, hH, hz, q⟩ := h
 cases rx
 obtain ⟨u, rfl, ru⟩ := rv.one
 obtain ⟨z, its, n, r, hl, e⟩ := I.lstM hH
 refine call_meets F.slot_list_append ⟨_, e, rfl⟩ F.entry_list_append (F.args_list_append_2 _ _) (PySem.list_append l its.toArray n u (by rw [List.size_toArray]; omega)) ⟨e, ?_⟩
 refine ⟨.non, _, I.lset (its' := its ++ [u]) hH e (by simp) (r.append (.cons ru .nil)) ?_, rfl, q⟩
 rw [List.length_append, List.length_singleton]
 omega
def zm : V → List V → Hp → VK → Prop := fun x vs H Q => ∃ l b xs zs, x = .ref l ∧ vs = [.ref b] ∧ H l = some (.lst xs) ∧ H b = some (.lst zs) ∧ xs.length + zs.length ≤ sizeLine ∧ Q .non (upd H l (.lst (xs ++ zs)))
theorem wX : MtM X "list.extend" zm := by
 intro pins s σ H x vs v us Q I rx rv h
 obtain ⟨l, b, xs, zs, rfl, rfl, hH, hB, hz, q⟩ := h
 cases rx
 obtain ⟨u, rfl, ru⟩ := rv.one
 cases ru
 obtain ⟨z, its, n, r, hl, e⟩ := I.lstM hH
 obtain ⟨z2, its2, n2, r2, hl2, e2⟩ := I.lstM hB
 have hsz : its.toArray.size + its2.toArray.size ≤ sizeLine := by rw [List.size_toArray, List.size_toArray]; omega
 have hlong : ¬ (!its.toArray.isEmpty && Builtin.List.listTooLong (its.toArray.size + its2.toArray.size)) = true := by
  rw [sZ hsz, Bool.and_false]
  exact Bool.false_ne_true
 refine call_meets F.slot_list_extend ⟨_, e, rfl⟩ F.entry_list_extend (F.args_list_extend_2 _ _)
  (AutoSeq1.list_extend_list_list_0 l its.toArray n b its2.toArray n2 hlong (by rw [List.size_toArray]; omega) (by omega)) ⟨e, e2, ?_⟩
 refine ⟨.non, _, I.lset (its' := its ++ its2) hH e (by simp) (r.append r2) ?_, rfl, q⟩
 rw [List.length_append]
 omega
def Bv : R2 := fun x y H Q => ∃ l b xs zs, x = .ref l ∧ y = .ref b ∧ H l = some (.lst xs) ∧ H b = some (.lst zs) ∧ xs.length + zs.length ≤ sizeLine ∧ ∀ p, H p = none → Q (.ref p) (upd H p (.lst (xs ++ zs)))
theorem c7 : OpR X (binaryOp .Add) Bv := by
 intro pins s σ H x y v u Q I rx ry h
 obtain ⟨l, b, xs, zs, rfl, rfl, hH, hB, hz, q⟩ := h
 cases rx
 cases ry
 obtain ⟨z, its, n, r, hl, e⟩ := I.lstM hH
 obtain ⟨z2, its2, n2, r2, hl2, e2⟩ := I.lstM hB
 refine PySem.P.add_list e e2 ?_ (by rw [List.size_toArray, List.size_toArray]; omega)
 have ea : its.toArray ++ its2.toArray = (its ++ its2).toArray := by simp
 rw [ea]
 exact ⟨.ref _, _, I.lnew (t' := s.toks) (r.append r2) (by rw [List.length_append]; omega), rfl, q _ I.fresh⟩
def zf : R2 := fun x y H Q => ∃ l k xs, x = .ref l ∧ y = .int k ∧ H l = some (.lst xs) ∧ -(2 ^ 63) ≤ k ∧ k < 2 ^ 63 ∧ xs.length * k.toNat ≤ sizeLine ∧
 ∀ p, H p = none → Q (.ref p) (upd H p (.lst (List.replicate k.toNat xs).flatten))
theorem len_rep {α : Type} (xs : List α) (k : Nat) : (List.replicate k xs).flatten.length = k * xs.length := by
 induction k with
 | zero => simp
 | succ k ih => rw [List.replicate_succ, List.flatten_cons, List.length_append, ih, Nat.succ_mul, Nat.add_comm]
theorem fB : OpR X (binaryOp .Mult) zf := by
 intro pins s σ H x y v u Q I rx ry h
 obtain ⟨l, k, xs, rfl, rfl, hH, h1, h2, hz, q⟩ := h
 cases rx
 obtain ⟨t, rfl⟩ := ry
 obtain ⟨z, its, n, r, hl, e⟩ := I.lstM hH
 have hlen : its.toArray.size * k.toNat ≤ sizeLine := by rw [List.size_toArray, ← hl]; exact hz
 have hcap : ¬ its.toArray.size * k.toNat > (2 ^ 63 - 1) / 8 := by
  have : (sizeLine : Nat) ≤ (2 ^ 63 - 1) / 8 := by decide
  omega
 have hfit : ¬ (!Builtin.List.listFitsIndex k) = true := by
  rw [fitsIndex_both h1 h2]
  exact Bool.false_ne_true
 have hlong : ¬ Builtin.List.listTooLong (its.toArray.size * k.toNat) = true := by
  rw [sZ hlen]
  exact Bool.false_ne_true
 have hnew : List.foldl (fun x1 x2 => x1 ++ x2) #[] (List.replicate (if its.toArray.isEmpty = true then 0 else k.toNat) its.toArray) = (List.replicate k.toNat its).flatten.toArray := by
  have f0 : ∀ m : Nat, List.foldl (fun x1 x2 => x1 ++ x2) #[] (List.replicate m its.toArray) = (List.replicate m its).flatten.toArray := fun m => by
   have := foldl_rep its m []
   rw [List.nil_append] at this
   exact this
  rw [f0]
  cases its with
  | nil => simp
  | cons a r' => rw [if_neg (by simp)]
 refine wpAny_binaryOp_repeat_ref (T := "list") (U := "int") (by decide) ⟨_, e, rfl⟩ (fun s' => typeIs_int s' k t) noFill_list_mul F.fills_int_mul F.slot_int_rmul repeat_list F.slot_int_index.lookup
  (call_meets F.slot_int_rmul (typeIs_int s k t) F.entry_int_rmul (F.args_int_rmul_2 _ _) (int___rmul___int_list k t l its.toArray n)
   ⟨e, rfl, ⟨_, e, rfl⟩, call_meets F.slot_list_mul ⟨_, e, rfl⟩ F.entry_list_mul (F.args_list_mul_2 _ _) (AutoListH.list___mul___list_int_3 l its.toArray n k t hfit hcap hlong) ⟨e, ?_⟩⟩)
 rw [hnew]
 exact ⟨.ref _, _, I.lnew (t' := s.toks) (r.rep k.toNat) (by rw [len_rep, Nat.mul_comm]; exact hz), rfl, q _ I.fresh⟩
end
section
variable {prog : Program} {w : World} {A : Around} {E : Value → Shared → Prop} {s : Shared}
end
section
variable {X : Cx}
end
end L2
namespace Att
open PySem PySem.W PySem.Calls PyProof.Rows
theorem nG {P : Params} {h : Heap} : ∀ (ns : List Int) (vs : List Value), WellAll P h vs (ns.map WData.int) → IntsAre vs ns := by
 intro ns
 induction ns with
 | nil =>
  intro vs w
  rw [List.map_nil] at w
  cases w
  exact .nil
 | cons n ns ih =>
  intro vs w
  rw [List.map_cons] at w
  cases w with
  | cons a b =>
   cases a
   exact .cons _ _ (ih _ b)
theorem xR {l : OpenLaw} {n : Nat} (hn : l.most = some n) {P : Params} {h : Heap} {args : List WData} {vals : List Value}
  (hpre : l.row.toRowW.claim.pre args = true) (hwl : WellAll P h vals args) :
  ∃ a vs ns, vals = [Value.ref a] ∧ args = [WData.list (ns.map WData.int)] ∧ h.get? a = some { cls := .type "list", data := .seq vs.toArray } ∧ IntsAre vs ns ∧ ns.length ≤ n := by
 have hsh : WShape.hasAll [] args [.list .int] = true := (pre_splitW hpre).1
 have hc : l.pre.holds [] { args := args } = true := (pre_splitW hpre).2
 obtain ⟨d, r, rfl, h1, h2⟩ := hasAllW_cons hsh
 obtain rfl := hasAllW_nil h2
 obtain ⟨xs, rfl, h3⟩ := hasW_list h1
 obtain ⟨ns, rfl⟩ := items_int h3
 have hlen : ns.length ≤ n := by
  unfold OpenLaw.pre at hc
  have h4 : (WTm.not (.lt (.lit (.int (n : Int))) (.len (.arg 0)))).holds [] { args := [.list (ns.map .int)] } = true := by
   have h4 := (holds_andW hc).1
   rw [hn] at h4
   exact h4
  have h5 := condW_of h4 (w_not (w_lt w_lit (w_len_list (w_arg rfl))))
  rw [List.length_map] at h5
  refine Nat.le_of_not_lt fun q => ?_
  have q' : (n : Int) < ((ns.length : Nat) : Int) := by omega
  first
   | (rw [decide_eq_true q'] at h5; exact absurd h5 (by decide))
   | (simp at h5; omega)
 cases hwl with
 | cons w1 w2 =>
  cases w2
  cases w1 with
  | list ho hall => exact ⟨_, _, ns, rfl, rfl, ho, nG ns _ hall, hlen⟩
theorem wO (l : OpenLaw) (args : List WData) : l.row.toRowW.claim.post args (.bool true) args = true :=
 postW_of (r := l.row.toRowW) (X := (true == true))
  (show WShape.has [] (.bool true) .bool = true by first | rfl | decide | simp [WShape.has, WShape.arms, WShape.armsAll])
  (show (WTm.eq .res (.lit (.bool true))).value [] { args := args, res := some (.bool true), after := args } = some (.bool (true == true)) from w_eq_bool (w_res rfl) w_lit) rfl
theorem attach_call {l : OpenLaw} {n : Nat} {q : Program} {loose : List Str} {XP : (Str → Option Value) → Heap → Prop} {YP : World → Heap → Prop} {d : DefRec}
  (hn : l.most = some n) (hdf : d.params.defaults = [])
  (call : ∀ (w : World) (s₀ s₁ : Shared) (mg mb : Str → Option Value) (fa : Addr) (o : Obj) (pm cd doc : Value) (a : Addr) (vs : List Value) (ns : List Int),
   Ground q loose [] XP w s₀ mg mb s₁.heap → YP w s₁.heap →
   s₁.heap.get? fa = some o → o.data = .func (docDef d.name d.params d.body d.scope pm cd doc) → s₁.heap.CodeRec cd d.name → mg d.name = some (.ref fa) →
   s₁.heap.get? a = some { cls := .type "list", data := .seq vs.toArray } → IntsAre vs ns → ns.length ≤ n → s₁.gens = #[] →
   codeAny (model l.prog w) callerA (.call (.ref fa) ⟨[.ref a], []⟩) (fun r s' => r = .ok (.ret (.bool true)) ∧ OldK s₁.heap s'.heap ∧ s'.os = s₁.os ∧ AllBare s'.gens) s₁) :
  WalkO q loose XP YP l.row.toRowW d [] (fun f vs => PySem.call f vs) := by
 intro w s₀ s₁ mg mb G Y fa o pm cd doc dV kV ho hd hcd hD hmg hg args vals as hpre hlay hrd hwl hlo
 obtain rfl : dV = .none := Dflts.none hD hdf
 obtain rfl : kV = .none := Dflts.noKw hD
 obtain ⟨a, vs, ns, rfl, rfl, hobj, hints, hlen⟩ := xR hn hpre hwl
 refine enter_call (codeAny_mono (call w s₀ s₁ mg mb fa o pm cd doc a vs ns G Y ho (fd_plain hd) hcd hmg hobj hints hlen hg) fun r s' hq => ?_)
 obtain ⟨rfl, h2, h3, h4⟩ := hq
 exact ⟨.inl ⟨.bool true, .bool true, [], rfl, fun _ => rfl, .bool true, wO l _, fun _ => ⟨List.Pairwise.nil, fun _ hm => (nomatch hm)⟩⟩, h2, h3, h4⟩
section
variable {prog : Program} {w : World} {A : Around} {E : Value → Shared → Prop} {s : Shared} {K : Frag}
end
end Att
namespace L2
open PySem PySem.Spec PyProof.Rows
theorem qD : ∀ {vs : List Value} {ns : List Int}, IntsAre vs ns → Vals (ns.map V.int) vs
 | _, _, .nil => .nil
 | _, _, .cons n t h => .cons ⟨t, rfl⟩ (qD h)
end L2
namespace L2
open PySem PySem.Spec PyProof.Rows
end L2
/- THE LAST THEOREM (shape; LID, My.* are yours):
   My.Adr: a structure of the addresses that your layer names (classes, functions); My.Txt K t: a structure (Prop) of the equations over K;
   My.txt_mk : {K} {implicit addresses ..} (e1 : nsIn K mainGlobals "law" = some (some (.ref f))) (e2 : K.lookup f = some ⟨oc, od, .func (fnOf "law" "law" params body scope dV kV doc pm an cdv ct), sl⟩) (e3 : codeIn K cdv "law" = true) .. : ∃ t, My.Txt K t
set_option maxRecDepth 100000 in
set_option maxHeartbeats 0 in
theorem PySem.Challenge.cw_LID_holds : PySem.Challenge.rw_LID.Holds := by
 w_on; o_law; k_head; (case hw => w_witness2)
 k_fill
 refine L2.walk_of (l := PySem.Challenge.rw_LID) (n := 63) (k := 40) (x := "script") (CX := fun w => ..) (sp := fun _ => My.sp_law) rfl (by decide) rfl ⟨rfl, by decide, by decide⟩ (fun w h Y => PySem.W.kIn_of Y) ?F ?S ?C
 case F =>
  intro w mg fa h KX G hmg
  have T : ∃ t, My.Txt (L2.KOf KX) t := by
   dsimp only [L2.KOf]                          -- K must stand as «<heap const> w.params» for k_is
   refine' My.txt_mk ?e1 ?e2 ?e3 ..
   (case e1 => PySem.W.k_is)                    -- in the order: a name -> its address -> its object -> its parts
   (case e2 => PySem.W.k_is)
   ..
  obtain ⟨t, T⟩ := T
  have e0 := hmg.symm.trans (PySem.W.mg_of KX G T.law)
  cases e0                                       -- fa is the law's own address
  exact ⟨_, fun s u => .of_eq rfl, fun base kb nb => My.law_fn T kb nb⟩     -- if «.of_eq rfl» comes too early: refine' ⟨_, ?b, fun base kb nb => My.law_fn T kb nb⟩; exact fun s u => .of_eq rfl
 case S => exact fun w H a ns hl hO hS => ..
 case C => exact ..
(the tactic k_is has no namespace: write k_is) -/
namespace L2
open PySem PySem.Spec PyProof.Rows
def defArgs (s : Stmt) : Arguments := match s with
 | .FunctionDef _ a _ _ _ _ _ _ _ _ => a
 | _ => { posonlyargs := [], args := [], vararg := none, kwonlyargs := [], kw_defaults := [], kwarg := none, defaults := [] }
def defBody (s : Stmt) : List Stmt := match s with
 | .FunctionDef _ _ b _ _ _ _ _ _ _ => b
 | _ => []
def defScope (s : Stmt) : Scope := match s with
 | .FunctionDef _ _ _ _ _ _ sc _ _ _ => sc
 | _ => { kind := .function, names := [], isGenerator := false, isCoroutine := false }
abbrev CX0 : CXT := fun _ _ _ _ _ _ => False
abbrev E0 : XK := fun _ _ _ => False
theorem aL {X : Cx} : il CX0 X E0 := fun _ _ _ _ _ _ _ h => h.elim
structure Fun (K : PySem.W.Frag) (x qual : Str) (st : Stmt) (f : Addr) (fd : FuncData) : Prop where
 ex : ∃ (oc : Value) (od : Option Addr) (kV doc pm : Value) (an : Option Addr) (cdv ct : Value) (osl : Array (Option Value)),
  fd = PySem.W.fnOf x qual (defArgs st) (defBody st) (defScope st) .none kV doc pm an cdv ct ∧ K.lookup f = some ⟨oc, od, .func fd, osl⟩ ∧ PySem.W.codeIn K cdv qual = true
 kp : PySem.W.keepIn K (.ref f) = true
section
variable {P : Program} {w : World} {K : PySem.W.Frag} {mg : Str → Option Value} {base : Heap}
theorem Fun.ok {x qual : Str} {st : Stmt} {f : Addr} {fd : FuncData} {N ps : List Str} {k : Nat} {sp : Sp} (F : Fun K x qual st f fd) (S : aD N ps (defScope st)) (len : ∀ vs H Q E, sp vs H Q E → vs.length = ps.length)
  (hbody : ∀ (cdv : Value) (A : Around) (outer : List Env) (s : Shared) (H : Hp) (vs : List V) (Q : VK) (E : XK), cL k (A.deeper (envOfC qual (defScope st) s.heap.objs.size f cdv)) → sp vs H Q E →
   ∃ t, PSs (fM CX0 P w K mg base N qual (defScope st) f cdv A outer s H E).nox (defBody st) t ∧ t { nx := fun _ H' => Q .non H', rt := Q } (start N vs) H) : bh P w K mg base CX0 (k + 1) f fd ps sp := by
 obtain ⟨oc, od, kV, doc, pm, an, cdv, ct, osl, rfl, lk, hcd⟩ := F.ex
 refine zY lk hcd S len fun A outer s H vs Q E hr hsp => ?_
 obtain ⟨t, h, q⟩ := hbody cdv A outer s H vs Q E hr hsp
 exact ⟨t, h.nox, q⟩
theorem Fun.binds {x qual : Str} {st : Stmt} {f : Addr} {fd : FuncData} {ps : List Str} (F : Fun K x qual st f fd)
  (h : ∀ (kV doc pm : Value) (an : Option Addr) (cdv ct : Value) (us : List Value), us.length = ps.length → bindArgs (PySem.W.fnOf x qual (defArgs st) (defBody st) (defScope st) .none kV doc pm an cdv ct) ⟨us, []⟩ = pure (ps.zip us)) : Binds K fd ps [] := by
 obtain ⟨oc, od, kV, doc, pm, an, cdv, ct, osl, rfl, lk, hcd⟩ := F.ex
 exact .all (h kV doc pm an cdv ct)
theorem vy {x qual : Str} {st : Stmt} {f : Addr} {oc : Value} {od an : Option Addr} {osl : Array (Option Value)} {kV doc pm cdv ct : Value} (l : K.lookup f = some ⟨oc, od, .func (PySem.W.fnOf x qual (defArgs st) (defBody st) (defScope st) .none kV doc pm an cdv ct), osl⟩)
  (c : PySem.W.codeIn K cdv qual = true) (k : PySem.W.keepIn K (.ref f) = true) : Fun K x qual st f (PySem.W.fnOf x qual (defArgs st) (defBody st) (defScope st) .none kV doc pm an cdv ct) := ⟨⟨oc, od, kV, doc, pm, an, cdv, ct, osl, rfl, l, c⟩, k⟩
end
section
variable {X : Cx}
theorem pv (i : Nat) {x : Str} {pos : Pos} (hN : X.N[i]? = some x := by rfl) (hv : Vis X.env.scope x := by first | exact Or.inl rfl | exact Or.inr (Or.inl rfl) | exact Or.inr (Or.inr rfl)) (hd : (x == ("__debug__" : Str)) = false := by decide)
  (hcd : (x == ("__classdict__" : Str)) = false := by decide) : PE X (.Name x pos) (Be i) := uU hN hv hd hcd
end
theorem cW {A B : Prop} (h : B) : if false = true then A else B := by
 rw [if_neg Bool.false_ne_true]
 exact h
theorem ir {A B : Prop} (h : A) : if true = true then A else B := by
 rw [if_pos rfl]
 exact h
theorem aV {c A B : Prop} [Decidable c] (h1 : c → A) (h2 : ¬ c → B) : if c then A else B := by
 by_cases h : c
 ·rw [if_pos h]
  exact h1 h
 ·rw [if_neg h]
  exact h2 h
theorem lu {c A B : Prop} [Decidable c] (hc : c) (h : B) : if (!decide c) = true then A else B := by
 rw [decide_eq_true hc]
 exact cW h
def aR (H H' : Hp) : Prop := ∀ b o, H b = some o → H' b = some o
theorem aR.refl (H : Hp) : aR H H := fun _ _ h => h
theorem aR.trans {H H1 H2 : Hp} (a : aR H H1) (b : aR H1 H2) : aR H H2 := fun c o h => b c o (a c o h)
theorem aR.free {H H' : Hp} (e : aR H H') {l : Addr} (h : H' l = Option.none) : H l = Option.none := by
 cases q : H l with
 | none => rfl
 | some o =>
  rw [e l o q] at h
  cases h
theorem aR.seq {K : PySem.W.Frag} {H H' : Hp} {a : Addr} {xs : List V} (e : aR H H') (h : SqL K H a xs) : SqL K H' a xs := by
 rcases h with (h | ⟨o, h⟩) | h
 ·exact .inl (.inl (e _ _ h))
 ·exact .inl (.inr ⟨o, e _ _ h⟩)
 ·exact .inr h
end L2
set_option maxHeartbeats 4000000
set_option Elab.async false
set_option linter.all false
set_option maxRecDepth 100000
set_option maxHeartbeats 4000000
namespace Tw
open PySem L2
theorem au {H : Hp} {p : Addr} (h : H p = none) (o : HO) : aR H (upd H p o) := fun b u q => by rw [aG (aO q h)]; exact q
theorem cO {H H' : Hp} {p : Addr} (s : aR H H') (h : H p = none) (o : HO) : aR H (upd H' p o) := fun b u q => by rw [aG (aO q h)]; exact s b u q
theorem small {n : Nat} (h : n ≤ 4097) : n < sizeLine := Nat.lt_of_le_of_lt h (by decide)
theorem dg : bootBuiltins "len" = some (.builtin "len") := by decide +kernel
theorem Ak : bootBuiltins "sum" = some (.builtin "sum") := by decide +kernel
theorem bJ : bootBuiltins "isinstance" = some (.builtin "isinstance") := by decide +kernel
theorem jG : bootBuiltins "min" = some (.builtin "min") := by decide +kernel
theorem z9 : bootBuiltins "max" = some (.builtin "max") := by decide +kernel
theorem jn : bootBuiltins "list" = some (.type "list") := by decide +kernel
theorem um : bootBuiltins "tuple" = some (.type "tuple") := by decide +kernel
theorem jh : bootBuiltins "reversed" = some (.type "reversed") := by decide +kernel
theorem zA (ns : List Int) (i j : Nat) : j7 (ns.map V.int) (some (i : Int)) (some (j : Int)) = ((ns.drop i).take (j - i)).map V.int := by
 unfold j7
 rw [HT.nU, HT.nU, List.map_take, List.map_drop, List.length_map]
 rcases Nat.lt_or_ge ns.length i with h | h
 ·rw [Nat.min_eq_right (Nat.le_of_lt h), List.drop_of_length_le (by simp), List.drop_of_length_le (by simp; omega)]
  simp
 ·rw [Nat.min_eq_left h]
  rcases Nat.lt_or_ge ns.length j with q | q
  ·rw [Nat.min_eq_right (Nat.le_of_lt q), List.take_of_length_le (by simp), List.take_of_length_le (by simp; omega)]
  ·rw [Nat.min_eq_left q]
theorem uY (ns : List Int) (j : Nat) : j7 (ns.map V.int) none (some (j : Int)) = (ns.take j).map V.int := by
 unfold j7
 rw [HT.nU, HT.tV, List.map_take, List.length_map, List.drop_zero, Nat.sub_zero]
 rcases Nat.lt_or_ge ns.length j with q | q
 ·rw [Nat.min_eq_right (Nat.le_of_lt q), List.take_of_length_le (by simp), List.take_of_length_le (by simp; omega)]
 ·rw [Nat.min_eq_left q]
theorem yE (ns : List Int) (i : Nat) : j7 (ns.map V.int) (some (i : Int)) none = (ns.drop i).map V.int := by
 unfold j7
 rw [HT.nU, HT.tV, List.map_drop, List.length_map]
 rcases Nat.lt_or_ge ns.length i with h | h
 ·rw [Nat.min_eq_right (Nat.le_of_lt h), List.drop_of_length_le (by simp), List.drop_of_length_le (by simp; omega)]
  simp
 ·rw [Nat.min_eq_left h, List.take_of_length_le (by simp)]
theorem int_at {ns : List Int} {i : Nat} {x : V} (h : (ns.map V.int)[i]? = some x) : ∃ c, ns[i]? = some c ∧ x = .int c := by
 rw [List.getElem?_map] at h
 cases e : ns[i]? with
 | none => rw [e] at h; cases h
 | some c => rw [e] at h; exact ⟨c, rfl, (Option.some.inj h).symm⟩
theorem j8 {ns : List Int} {i : Nat} {c : Int} (h : ns[i]? = some c) : atI (ns.map V.int) (i : Int) = some (.int c) := v7 (by rw [List.getElem?_map, h]; rfl)
structure Df (K : PySem.W.Frag) (mg : Str → Option Value) (x : Str) (st : Stmt) (ps : List Str) (f : Addr) (fd : FuncData) : Prop where
 F : Fun K x x st f fd
 b : Binds K fd ps []
 m : mg x = some (.ref f)
end Tw
set_option Elab.async false
set_option linter.all false
set_option maxRecDepth 100000
set_option maxHeartbeats 4000000
namespace Tw
def bit (b : Int) (k : Nat) : Int := b / 2 ^ k % 2
def bits (b : Int) (n : Nat) : List Int := (List.range n).map (bit b)
def ones (b : Int) (n : Nat) : Int := (bits b n).sum
theorem iK (b : Int) (n : Nat) : (bits b n).length = n := by simp [bits]
theorem wV (b : Int) (n : Nat) : bits b (n + 1) = bits b n ++ [bit b n] := by simp [bits, List.range_succ]
theorem qL (b : Int) : ones b 0 = 0 := rfl
theorem qI (b : Int) (n : Nat) : ones b (n + 1) = ones b n + bit b n := by
 unfold ones; rw [wV]; simp
theorem uq {b : Int} {n k : Nat} (h : k < n) : (bits b n)[k]? = some (bit b k) := by simp [bits, h]
theorem xN (b : Int) (k : Nat) : bit b k = 0 ∨ bit b k = 1 := by
 unfold bit
 omega
end Tw
set_option Elab.async false
set_option linter.all false
set_option maxRecDepth 100000
set_option maxHeartbeats 4000000
namespace Tw
def aK (ns : List Int) : Prop := ∀ b ∈ ns, b = 0 ∨ b = 1
theorem aK.tail {b : Int} {ns : List Int} (h : aK (b :: ns)) : aK ns := fun x hx => h x (.tail _ hx)
theorem aK.head {b : Int} {ns : List Int} (h : aK (b :: ns)) : b = 0 ∨ b = 1 := h b (.head _)
theorem aK.take {ns : List Int} (h : aK ns) (k : Nat) : aK (ns.take k) := fun x hx => h x (List.mem_of_mem_take hx)
theorem aK.drop {ns : List Int} (h : aK ns) (k : Nat) : aK (ns.drop k) := fun x hx => h x (List.mem_of_mem_drop hx)
theorem jy {a b : List Int} (ha : aK a) (hb : aK b) : aK (a ++ b) := fun x hx => by
 rcases List.mem_append.mp hx with h | h
 ·exact ha x h
 ·exact hb x h
def blk : List Int → Int
 | [] => 0
 | b :: r => 2 * blk r + b
theorem uf (b : Int) : bit b 0 = b % 2 := by simp [bit]
theorem qx (b : Int) (k : Nat) : bit b (k + 1) = bit (b / 2) k := by
 unfold bit
 rw [Int.ediv_ediv_of_nonneg (by decide), ← Int.pow_succ']
theorem nY : ∀ {ns : List Int}, aK ns → ∀ k : Nat, bit (blk ns) k = (ns[k]?).getD 0
 | [], _, k => by simp [blk, bit]
 | b :: r, h, 0 => by
  have := h.head
  rw [uf]
  simp only [blk, List.getElem?_cons_zero, Option.getD_some]
  omega
 | b :: r, h, k + 1 => by
  have hb := h.head
  rw [qx, List.getElem?_cons_succ]
  have e : blk (b :: r) / 2 = blk r := by simp only [blk]; omega
  rw [e]
  exact nY h.tail k
theorem iQ {ns : List Int} (h : aK ns) : ∀ k : Nat, ones (blk ns) k = (ns.take k).sum
 | 0 => by simp [qL]
 | k + 1 => by
  rw [qI, iQ h k, nY h]
  by_cases hk : k < ns.length
  ·rw [List.take_add_one, List.getElem?_eq_getElem hk]
   simp only [Option.toList_some, List.sum_append, List.sum_cons, List.sum_nil, Option.getD_some]
   omega
  ·rw [List.take_of_length_le (by omega), List.take_of_length_le (by omega), List.getElem?_eq_none (by omega)]
   simp
def many (n : Nat) : Nat := (n + 31) / 32
def bM (ns : List Int) (j : Nat) : Int := blk ((ns.drop (32 * j)).take 32)
def cZ (ns : List Int) : List Int := (List.range (many ns.length)).map (bM ns)
theorem iB (ns : List Int) : (cZ ns).length = many ns.length := by simp [cZ]
theorem lO {ns : List Int} {j : Nat} (h : j < many ns.length) : (cZ ns)[j]? = some (bM ns j) := by simp [cZ, h]
theorem o5 {ns : List Int} (h : aK ns) (j : Nat) : aK ((ns.drop (32 * j)).take 32) := (h.drop _).take _
theorem bit_at {ns : List Int} (h : aK ns) (j k : Nat) (hk : k < 32) : bit (bM ns j) k = (ns[32 * j + k]?).getD 0 := by
 unfold bM
 rw [nY (o5 h j), List.getElem?_take_of_lt hk, List.getElem?_drop]
def net (b : Int) (k : Nat) : Int := 2 * ones b k - k
theorem yG (b : Int) : net b 0 = 0 := by simp [net, qL]
theorem ud (b : Int) (k : Nat) : net b (k + 1) = net b k + 2 * bit b k - 1 := by
 unfold net
 rw [qI]
 omega
def nets (b : Int) (n : Nat) : List Int := (List.range n).map fun k => net b (k + 1)
theorem b7 (b : Int) (n : Nat) : (nets b n).length = n := by simp [nets]
theorem wY (b : Int) (n : Nat) : nets b (n + 1) = nets b n ++ [net b (n + 1)] := by simp [nets, List.range_succ]
theorem kO {b : Int} {n k : Nat} (h : k < n) : (nets b n)[k]? = some (net b (k + 1)) := by simp [nets, h]
theorem uc {b : Int} {n : Nat} {x : Int} : x ∈ nets b n ↔ ∃ k, 1 ≤ k ∧ k ≤ n ∧ x = net b k := by
 unfold nets
 rw [List.mem_map]
 constructor
 ·rintro ⟨k, hk, rfl⟩
  exact ⟨k + 1, by omega, by have := List.mem_range.mp hk; omega, rfl⟩
 ·rintro ⟨k, h1, h2, rfl⟩
  refine ⟨k - 1, List.mem_range.mpr (by omega), ?_⟩
  have e : k - 1 + 1 = k := by omega
  rw [e]
def ht (ns : List Int) (k : Nat) : Int := 2 * (ns.take k).sum - k
theorem eX (ns : List Int) : ht ns 0 = 0 := by simp [ht]
theorem kj {ns : List Int} {k : Nat} {b : Int} (h : ns[k]? = some b) : ht ns (k + 1) = ht ns k + 2 * b - 1 := by
 unfold ht
 rw [List.take_add_one, h]
 simp only [Option.toList_some, List.sum_append, List.sum_cons, List.sum_nil]
 omega
theorem kW (ns : List Int) (a k : Nat) : (ns.take (a + k)).sum = (ns.take a).sum + ((ns.drop a).take k).sum := by
 rw [List.take_add, List.sum_append]
theorem gJ {ns : List Int} (h : aK ns) (j k : Nat) (hk : k ≤ 32) : ht ns (32 * j + k) = ht ns (32 * j) + net (bM ns j) k := by
 unfold ht net bM
 rw [iQ (o5 h j), kW, List.take_take, Nat.min_eq_left hk]
 omega
theorem uR {ns : List Int} (h : aK ns) (j k : Nat) (hk : k ≤ 32) : ones (bM ns j) k = ((ns.drop (32 * j)).take k).sum := by
 unfold bM
 rw [iQ (o5 h j), List.take_take, Nat.min_eq_left hk]
theorem qF {ns : List Int} (h : aK ns) (j k : Nat) (hk : k ≤ 32) : (ns.take (32 * j)).sum + ones (bM ns j) k = (ns.take (32 * j + k)).sum := by
 rw [uR h j k hk, kW]
def Due (b : Int) (st sp : Nat) (g : Int) (k : Nat) : Prop := st < k ∧ k ≤ sp ∧ net b k ≤ g
theorem xJ (b : Int) (n : Nat) : bits b (n + 1) = b % 2 :: bits (b / 2) n := by
 unfold bits
 rw [List.range_succ_eq_map, List.map_cons, uf, List.map_map]
 congr 1
 refine List.map_congr_left fun k _ => ?_
 exact qx b k
theorem sJ : ∀ (n : Nat) (b : Int), 0 ≤ b → b < 2 ^ n → blk (bits b n) = b
 | 0, b, h0, h1 => by
  have : b = 0 := by simp at h1; omega
  subst this
  rfl
 | n + 1, b, h0, h1 => by
  rw [Int.pow_succ] at h1
  rw [xJ, blk, sJ n (b / 2) (by omega) (by omega)]
  omega
theorem ug (b : Int) (n : Nat) : aK (bits b n) := fun x hx => by
 obtain ⟨k, _, rfl⟩ := List.mem_map.mp hx
 exact xN b k
end Tw
set_option Elab.async false
set_option linter.all false
set_option maxRecDepth 100000
set_option maxHeartbeats 4000000
namespace L2
open PySem PySem.Spec PyProof.Rows
section
variable {X : Cx} {pins : List (Addr × Obj)} {σ : St} {H : Hp} {s : Shared} {h' : Heap}
theorem Inv.turn2 {e it p : Addr} {o : HO} {t' : Nat} (I : Inv X pins σ H s) (fe : jb X pins H e) (fi : jb X pins H it)
  (k : ∀ b u, b ≠ e → b ≠ it → s.heap.get? b = some u → h'.get? b = some u) (hp : s.heap.objs.size ≤ p)
  (new : cU X.prog X.w (upd H p o) h' p o) : Inv X pins σ (upd H p o) { s with heap := h', toks := t' } := by
 have hn := I.hok.fresh hp
 have ne : ∀ b u, H b = some u → b ≠ e := fun b u q z => by rw [z, fe.1] at q; cases q
 have ni : ∀ b u, H b = some u → b ≠ it := fun b u q z => by rw [z, fi.1] at q; cases q
 have up : ∀ b u, H b = some u → upd H p o b = some u := fun b u q => by rw [aG (aO q hn)]; exact q
 have k' : ∀ b u, b ∉ [e, it] → s.heap.get? b = some u → h'.get? b = some u := fun b u hb q => k b u (fun z => hb (by simp [z])) (fun z => hb (by simp [z])) q
 refine I.step (g' := s.gens) (d' := s.drawn) (ch := [e, it]) (fun b hb => ?_) (fun b u _ _ hx q _ => k' b u hx q) (fun b u _ _ hx q _ => ⟨u.slots, k' b u hx q⟩)
  (fun b u _ q n => by rw [aG (Nat.ne_of_lt (Nat.lt_of_lt_of_le (Heap.lt_size q) hp))]; exact n) (fun b u hx q => ⟨u, k' b u hx q⟩)
  (fun b xs q => up _ _ q) (fun b ob u q => up _ _ q) (fun b ps q => ⟨#[], by rw [up _ _ q]; simp⟩) (fun m hm => ?_) (fun b u q => ?_) I.bare
 ·rcases List.mem_cons.mp hb with rfl | hb
  ·exact ⟨fe.2.2.2.1, fe.2.1, fe.2.2.2.2.1, fe.2.2.2.2.2⟩
  ·rw [List.mem_singleton.mp hb]
   exact ⟨fi.2.2.2.1, fi.2.1, fi.2.2.2.2.1, fi.2.2.2.2.2⟩
 ·obtain ⟨ob, es, ep, ho, r⟩ := hm
  exact ⟨ob, es, ep, k _ ob (Ne.symm fe.2.1) (Ne.symm fi.2.1) ho, r⟩
 ·by_cases hb : b = p
  ·subst hb
   rw [ak] at q
   cases q
   exact new
  ·rw [aG hb] at q
   refine (I.hok b u q).stay (fun c v hc r => k c v ?_ ?_ r) (fun c r => up _ _ r) fun c xs r => up _ _ r
   ·rcases hc with rfl | z
    ·exact ne _ _ q
    ·exact ne _ _ z
   ·rcases hc with rfl | z
    ·exact ni _ _ q
    ·exact ni _ _ z
end
def Ite (K : PySem.W.Frag) (a : Addr) : It :=
  ⟨fun i H => ∃ xs x, SqL K H a xs ∧ xs[i]? = some x, fun i H x H' => ∃ p y, H p = none ∧ x = .ref p ∧ H' = upd H p (.tup [.int (i : Int), y]) ∧ ∀ xs, SqL K H a xs → xs[i]? = some y,
   fun i H => ∃ xs, SqL K H a xs ∧ xs.length ≤ i⟩
theorem wF {P : Program} {w : World} {K : PySem.W.Frag} {elts : List Expr} {x1 : Nat} {tpos : Pos} (a e it : Addr) (hne : e ≠ it) :
  Turn P w K (.Tuple elts x1 tpos) (Ite K a) [e, it] e (fun i h => (∃ old, IsEnum h e it (i : Nat) old) ∧ h.IsListIter it a i) where
 mem := by simp
 obj := fun i h st b hb => by
  obtain ⟨⟨old, he⟩, o, ho, hc, hd⟩ := st
  rcases List.mem_cons.mp hb with rfl | hb
  ·exact ⟨_, he, fun v z => by cases z⟩
  ·rw [List.mem_singleton.mp hb]
   exact ⟨o, ho, fun v z => by rw [hd] at z; cases z⟩
 keep := fun i h h' st k => by
  obtain ⟨⟨old, he⟩, st⟩ := st
  exact ⟨⟨old, k e (by simp) _ he⟩, st.at fun o q => k it (by simp) o q⟩
 item := by
  intro X hP hw hK hc i pins s σ H E I hf st hg
  subst hP hw hK
  obtain ⟨xs, x, hq, hx⟩ := hg
  obtain ⟨its, rv, p, hz⟩ := I.list hq
  obtain ⟨u, hu, ru⟩ := rv.get hx
  obtain ⟨⟨old, he⟩, st⟩ := st
  refine wpAny_pyNext_enum_item he st p.isList (x := u) (by simpa using hu) hne fun h1 heo hit1 ht1 hz1 hk1 => ?_
  refine ⟨_, rfl, wpAny_letOwnedTupleGo_enum heo fun h2 he2 hs2 => ?_⟩
  have ee : e < s.heap.objs.size := Heap.lt_size he
  have g2 : h2.get? s.heap.objs.size = some { cls := .type "tuple", data := .seq #[.int (i : Int) s.toks, u] } := (hs2.2 _ (Nat.ne_of_gt ee)).trans ht1
  have kk : ∀ b o, b ≠ e → b ≠ it → s.heap.get? b = some o → h2.get? b = some o := fun b o h3 h4 q => (hs2.2 b h3).trans (hk1 b o h3 h4 q)
  have new : cU X.prog X.w (upd H s.heap.objs.size (.tup [.int (i : Int), x])) h2 s.heap.objs.size (.tup [.int (i : Int), x]) :=
   ⟨(by show 2 ≤ sizeLine; decide), [.int (i : Int) s.toks, u], .cons ⟨_, rfl⟩ (.cons ru .nil), _, g2, rfl, _, rfl⟩
  have I2 := I.turn2 (h' := h2) (t' := s.toks + 1) (hf e (by simp)) (hf it (by simp)) kk (Nat.le_refl _) new
  have hn : H s.heap.objs.size = none := I.hok.fresh (Nat.le_refl _)
  refine ⟨.ref s.heap.objs.size, _, I2, rfl, ⟨_, x, hn, rfl, rfl, fun ys hy => by rw [I.list_inj hy hq]; exact hx⟩, ⟨⟨u, by simpa using he2⟩, hit1.extBut hs2.extBut (Ne.symm hne)⟩, fun b hb => ?_⟩
  have hbn := (hf b hb).1
  have hbs : b ≠ s.heap.objs.size := by
   obtain ⟨o, hio, _⟩ := st
   rcases List.mem_cons.mp hb with rfl | hb
   ·exact Nat.ne_of_lt ee
   ·rw [List.mem_singleton.mp hb]
    exact Nat.ne_of_lt (Heap.lt_size hio)
  rw [aG hbs]
  exact hbn
 done := by
  intro X hP hw hK hc i pins s σ H E I hf st hg
  subst hP hw hK
  obtain ⟨xs, hq, hx⟩ := hg
  obtain ⟨its, rv, p, hz⟩ := I.list hq
  obtain ⟨f0, f1, f2, f3, f4, f5⟩ := hf it (by simp)
  obtain ⟨⟨old, he⟩, st⟩ := st
  have hl := rv.length
  exact wpAny_pyNext_enum_end (I.ok.hd hc) he st p.isList (by simp; omega) fun h' eb => ⟨rfl, I.turned (t' := s.toks) (fun b o hb q => eb b o hb q) f0 f1 f3 f4 f5⟩
 self := fun _ _ _ _ _ st h => by
  obtain ⟨⟨old, he⟩, _⟩ := st
  exact wpAny_pyIter_enum he h
section
variable {X : Cx}
def Cg (K : PySem.W.Frag) (ta : TA) : TI := fun σ H R => ta σ H fun vs H1 => ∃ a xs, vs = [.ref a] ∧ SqL K H1 a xs ∧ R (Ite K a) H1
theorem vY {a : Expr} {ta : TA} {p pos : Pos} {elts : List Expr} {x1 : Nat} {tpos : Pos} (hg : Gl X "enumerate") (hm : X.mg "enumerate" = none) (ha : PA X [a] ta) (hs : starEach [a] X.env = [(false, eval a X.env)] := by rfl) :
  PI X (.Tuple elts x1 tpos) (.Call (.Name "enumerate" p) [a] [] pos) (Cg X.K ta) := by
 intro pins s σ H R I h
 refine Call_ (dG I hg hm boot_enumerate (PyProof.Rows.callWith_type1 (thn (ha pos pins s σ H _ I h) fun us s1 ⟨vs, H1, I1, r1, q1⟩ => ?_) hs rfl))
 obtain ⟨b, xs, e, hq, q⟩ := q1
 subst e
 obtain ⟨u, rfl, rx⟩ := vals1 r1
 cases rx
 obtain ⟨its, rv, pl, hz⟩ := I1.list hq
 refine call_enumerate_list pl.isList fun h' he hit hsz hk => ?_
 refine wpAny_pyIter_enum he ?_
 have I2 : Inv X pins σ H1 { s1 with heap := h' } := I1.kept (t' := s1.toks) hk
 have ne : s1.heap.objs.size + 1 ≠ s1.heap.objs.size := by omega
 refine ⟨s1.heap.objs.size + 1, [s1.heap.objs.size + 1, s1.heap.objs.size], _, Ite X.K b, H1, rfl, I2, wF b _ _ ne, ⟨⟨_, he⟩, hit⟩, fun c hc => ?_, q⟩
 have hle : s1.heap.objs.size ≤ c := by
  rcases List.mem_cons.mp hc with rfl | hc
  ·omega
  ·rw [List.mem_singleton.mp hc]
   omega
 exact I1.fpOk hle (I1.hok.fresh hle)
end
theorem yK {K : PySem.W.Frag} {a : Addr} {xs : List V} {g : TG} {tb : TS} {D : Ends} {σ : St} {H : Hp} (Pv : Nat → St → Hp → Prop) (h0 : Pv 0 σ H) (hl : ∀ i σ H, i ≤ xs.length → Pv i σ H → SqL K H a xs)
  (hs : ∀ i x σ H p, xs[i]? = some x → Pv i σ H → H p = none → g (.ref p) σ (upd H p (.tup [.int (i : Int), x])) fun σ2 H2 => tb { D with nx := Pv (i + 1), ct := Pv (i + 1), bk := D.nx } σ2 H2) (hd : ∀ σ H, Pv xs.length σ H → D.nx σ H) :
  ∃ W : Nat → Nat → St → Hp → Prop, (∃ m, W 0 m σ H) ∧ ∀ i m σ H, W i m σ H →
   ((Ite K a).stop i H ∧ D.nx σ H) ∨ ((Ite K a).go i H ∧ ∃ N : St → Hp → Prop, (∀ σ' H', N σ' H' → ∃ m', m' < m ∧ W (i + 1) m' σ' H') ∧ ∀ x H', (Ite K a).yld i H x H' → g x σ H' fun σ2 H2 => tb { D with nx := N, ct := N, bk := D.nx } σ2 H2) := by
 refine ⟨fun i m σ H => m = xs.length - i ∧ i ≤ xs.length ∧ Pv i σ H, ⟨xs.length, by simp, Nat.zero_le _, h0⟩, ?_⟩
 rintro i m σ H ⟨rfl, hi, p⟩
 have q := hl i σ H hi p
 by_cases hlt : i < xs.length
 ·refine .inr ⟨⟨xs, xs[i], q, by simp [hlt]⟩, Pv (i + 1), fun σ' H' p' => ⟨xs.length - (i + 1), by omega, rfl, hlt, p'⟩, fun x H' y => ?_⟩
  obtain ⟨c, y, hn, e1, e2, hy⟩ := y
  subst e1 e2
  exact hs i y σ H c (hy xs q) p hn
 ·have e : i = xs.length := by omega
  subst e
  exact .inl ⟨⟨xs, q, Nat.le_refl _⟩, hd σ H p⟩
section
variable {X : Cx}
theorem yF (hc : X.calm = true) : dq X (.builtin "sum") (fun xs H Q => ∃ (p : Addr) (ns : List Int), xs = [.ref p] ∧ SqL X.K H p (ns.map V.int) ∧ Q (.int ns.sum) H) := by
 intro pins s σ H xs us Q I r h
 obtain ⟨p, ns, rfl, hq, q⟩ := h
 obtain ⟨u, rfl, rx⟩ := vals1 r
 cases rx
 obtain ⟨its, r', pl, hz⟩ := I.list hq
 have hi := intsAre_of r'
 obtain ⟨zs, e⟩ := hi.allInts.items
 refine sum_intListG (xs := zs) (I.ok.hd hc) (by rw [← e]; exact pl.isList) fun h' tk t' hk => ⟨.int ns.sum, H, I.kept (t' := tk) hk, ⟨t', ?_⟩, q⟩
 have e2 : numsOf (intItems zs).toList = ns := by rw [← e]; exact hi.numsOf
 rw [nums_intItems] at e2
 rw [← e2, preSum_eq, List.take_of_length_le (by simp)]
end
end L2
set_option Elab.async false
set_option linter.all false
set_option maxRecDepth 100000
set_option maxHeartbeats 4000000
namespace L2
open PySem PySem.Spec PyProof.Rows
def bB (X : Cx) (N : List Str) (scope : Scope) (cl : List (Str × Addr)) (C : Addr) (s : Shared) (H : Hp) (fp : List Addr) : Cx :=
 { X with N := N, s₀ := s, H₀ := H, env := compEnvC scope cl C X.env, outer := X.stack, ex := fp, fn := fun _ => false, pn := [], xe := fun _ _ => False }
structure eQ (X : Cx) (x : Str) (caps : List (Str × Nat)) (scope : Scope) (cl : List (Str × Addr)) : Prop where
 kind : scope.kind = .function
 nocell : ∀ y ∈ scope.names, y.2 ≠ .cell
 names : ∀ y ∈ scope.names, y.2 = .local → scope.names.lookup y.1 = some .local
 hx : scope.names.lookup x = some .local
 clos : closureFor scope X.env = pure cl
 cls : ∀ y c, cl.lookup y = some c → X.env.cells.lookup y = some c
 has : ∀ y, ((relabel scope X.env).names.lookup y = some .cell ∨ (relabel scope X.env).names.lookup y = some .free) → ∃ c, cl.lookup y = some c
 nd : (x :: caps.map (·.1)).Nodup
 cap : ∀ y j, (y, j) ∈ caps → X.N[j]? = some y ∧ (X.env.scope.names.lookup y = some .cell ∨ X.env.scope.names.lookup y = some .free) ∧
  ((relabel scope X.env).names.lookup y = some .cell ∨ (relabel scope X.env).names.lookup y = some .free)
def eV (caps : List (Str × Nat)) (σ : St) : St := caps.map fun p => (σ[p.2]?).getD none
section
variable {X : Cx} {pins : List (Addr × Obj)} {σ : St} {H : Hp} {s : Shared}
theorem m6 (caps : List (Str × Nat)) (σ : St) : (eV caps σ).length = caps.length := by simp [eV]
theorem Inv.comp {x : Str} {caps : List (Str × Nat)} {scope : Scope} {cl : List (Str × Addr)} {fp : List Addr} {h' : Heap} {tk : Nat} {m : Str → Option Value} {D C : Addr} (I : Inv X pins σ H s) (K0 : eQ X x caps scope cl) (hf : ∀ b ∈ fp, jb X pins H b)
  (hfs : ∀ b ∈ fp, b < s.heap.objs.size) (hD : s.heap.objs.size ≤ D) (hC : s.heap.objs.size ≤ C) (hDC : D ≠ C) (hk : ∀ b o, s.heap.get? b = some o → h'.get? b = some o) (hn : h'.Ns C m) (hL : h'.get? D = some { cls := .type "list", data := .seq #[] }) :
  Inv (bB X (x :: caps.map (·.1)) scope cl C s H fp) [] (none :: eV caps σ) (upd H D (.lst [])) { s with heap := h', toks := tk } := by
 have hnD := I.hok.fresh hD
 have hnC := I.hok.fresh hC
 have lkc : ∀ y c, (bB X (x :: caps.map (·.1)) scope cl C s H fp).env.cells.lookup y = some c → X.env.cells.lookup y = some c := fun y c e => K0.cls y c e
 have clt : ∀ y c, X.env.cells.lookup y = some c → c < s.heap.objs.size := fun y c e => by
  obtain ⟨v, q⟩ := I.cell y c e
  exact q.lt
 have up : ∀ b u, H b = some u → upd H D (.lst []) b = some u := fun b u q => by rw [aG (aO q hnD)]; exact q
 have ok : (bB X (x :: caps.map (·.1)) scope cl C s H fp).Ok := by
  refine ⟨I.ok.mod, K0.kind, I.ok.glob, I.ok.blt, hC, fun y z c h1 h2 => I.ok.inj y z c (lkc y c h1) (lkc z c h2), fun y hy => K0.has y hy, fun y c h => absurd (show false = true from h) Bool.false_ne_true, I.ok.hd, I.ok.frames, .inl rfl, fun b hb => ?_, I.bs, Nat.le_trans I.ok.bsz I.sz, fun b o e hb => ?_, fun b hb hz => ?_, I.stack, I.stkFree⟩
  ·obtain ⟨f0, f1, f2, f3, f4, f5⟩ := hf b hb
   exact ⟨Nat.ne_of_lt (Nat.lt_of_lt_of_le (hfs b hb) hC), fun y c e => f4 y c (lkc y c e)⟩
  ·obtain ⟨f0, f1, f2, f3, f4, f5⟩ := hf b hb
   rcases f3 with z | z
   ·exact I.ok.noex b o e z
   ·exact absurd (Nat.lt_of_lt_of_le (Nat.lt_of_lt_of_le (Heap.lt_size e) I.ok.bsz) z) (Nat.lt_irrefl _)
  ·obtain ⟨f0, f1, f2, f3, f4, f5⟩ := hf b hb
   rcases List.mem_cons.mp (I.stkSub b hz) with z | z
   ·exact f1 z
   ·exact f2 z
 refine ⟨ok, rfl, I.bare, ?_, ⟨m, hn, fun i y v e1 e2 e3 => ?_⟩, fun y c e => ?_, ?_, fun y c e => ?_, fun p hp => absurd (show p ∈ ([] : List (Addr × Obj)) from hp) (by simp), ?_, ?_⟩
 ·exact Un.laid hk hD hnD
 ·cases i with
  | zero => cases e2
  | succ i =>
   have e1' : (caps.map (·.1))[i]? = some y := e1
   have e2' : (eV caps σ)[i]? = some (some v) := e2
   rw [List.getElem?_map] at e1'
   unfold eV at e2'
   rw [List.getElem?_map] at e2'
   cases ec : caps[i]? with
   | none => rw [ec] at e1'; cases e1'
   | some p =>
    rw [ec] at e1' e2'
    obtain ⟨y', j⟩ := p
    have ey : y' = y := Option.some.inj e1'
    subst ey
    have ev : (σ[j]?).getD none = some v := Option.some.inj e2'
    have ev' : σ[j]? = some (some v) := by
     cases q : σ[j]? with
     | none => rw [q] at ev; cases ev
     | some w => rw [q] at ev; exact congrArg some ev
    obtain ⟨c1, c2, c3⟩ := K0.cap y' j (List.mem_of_getElem? ec)
    obtain ⟨m0, hn0, hl⟩ := I.loc
    obtain ⟨u, r, l⟩ := hl j y' v c1 ev' (by rcases c2 with z | z; exact .inr (.inl z); exact .inr (.inr z))
    refine ⟨u, r, .inr ⟨c3, ?_⟩⟩
    rcases l with ⟨k, _⟩ | ⟨k, c, ec, z⟩
    ·have k' : X.env.scope.names.lookup y' = some .local := k
     rcases c2 with z | z
     ·rw [z] at k'; cases k'
     ·rw [z] at k'; cases k'
    ·obtain ⟨c', hc'⟩ := K0.has y' c3
     have e4 := K0.cls y' c' hc'
     rw [ec] at e4
     cases e4
     obtain ⟨o, ho, hd⟩ := z
     exact ⟨c, hc', o, hk _ _ ho, hd⟩
 ·obtain ⟨v, o, ho, hd⟩ := I.cell y c (lkc y c e)
  exact ⟨v, o, hk _ _ ho, hd⟩
 ·show upd H D (.lst []) C = none
  rw [aG (Ne.symm hDC)]
  exact hnC
 ·have hlt := clt y c (lkc y c e)
  rw [aG (Nat.ne_of_lt (Nat.lt_of_lt_of_le hlt hD))]
  exact I.freeC y c (lkc y c e)
 ·exact I.hok.laid hk hD ⟨Nat.zero_le _, [], _, .nil, hL⟩
 ·show (none :: eV caps σ).length = (x :: caps.map (·.1)).length
  simp [m6]
theorem Inv.comped {N : List Str} {scope : Scope} {cl : List (Str × Addr)} {fp : List Addr} {C : Addr} {s' : Shared} {σ' : St} {H' : Hp} (I : Inv X pins σ H s) (hf : ∀ b ∈ fp, jb X pins H b)
  (J : Inv (bB X N scope cl C s H fp) [] σ' H' s') : Inv X pins σ H' s' := by
 refine I.call' (ch := fp) (J.os.trans rfl) J.base J.hok J.bare fun b hb => ?_
 obtain ⟨f0, f1, f2, f3, f4, f5⟩ := hf b hb
 exact ⟨f3, f1, f4, f5⟩
def o4 (J : It) (cap : St) (tt : TT) (te : TE) (Qf : Addr → Hp → Prop) (H : Hp) : Prop :=
 ∀ D, H D = none → ∃ W : Nat → Nat → List V → Hp → Prop, (∃ m, W 0 m [] (upd H D (.lst []))) ∧ ∀ i m ys H1, W i m ys H1 →
  (J.stop i H1 ∧ Qf D H1) ∨ (J.go i H1 ∧ ∀ v H2, J.yld i H1 v H2 → tt (some v :: cap) H2 fun b H3 => if b = true then
   te (some v :: cap) H3 fun y H4 => H4 D = some (.lst ys) ∧ ys.length < sizeLine ∧ ∃ m', m' < m ∧ W (i + 1) m' (ys ++ [y]) (upd H4 D (.lst (ys ++ [y]))) else ∃ m', m' < m ∧ W (i + 1) m' ys H3)
def PTs (X : Cx) (ifs : List Expr) (tt : TT) : Prop :=
 ∀ (pins : List (Addr × Obj)) (s : Shared) (σ : St) (H : Hp) (Q : Bool → Hp → Prop), Inv X pins σ H s → tt σ H Q →
  wpAny (model X.prog X.w) X.A (forIn ifs true fun c r => if r = true then do let ok ← isTrue c X.env (eval c X.env); pure (ForInStep.yield ok) else pure (ForInStep.yield r)) (TP X pins σ Q) X.xe s
def zV : TT := fun _ H Q => Q true H
theorem jX : PTs X [] zV := fun _ _ _ H _ I h => wpAny_tests_nil ⟨H, I, h⟩
theorem xO {x : Str} {px pos : Pos} {caps : List (Str × Nat)} {scope : Scope} {cl : List (Str × Addr)} {elt iter : Expr} {ifs : List Expr} {J : It} {fp : List Addr} {it : Addr} {tn : Nat → Heap → Prop} {tt : TT} {te : TE} {Qf : Addr → Hp → Prop}
  {RR : Value → Addr → Result → Shared → Prop} {E : Value → Shared → Prop} (I : Inv X pins σ H s) (hc : X.calm = true) (K0 : eQ X x caps scope cl) (T : Turn X.prog X.w X.K (.Name x px) J fp it tn) (st : tn 0 s.heap) (hf : ∀ b ∈ fp, jb X pins H b)
  (ht : ∀ C s1 H1 fp1, PTs (bB X (x :: caps.map (·.1)) scope cl C s1 H1 fp1) ifs tt) (he : ∀ C s1 H1 fp1, PE (bB X (x :: caps.map (·.1)) scope cl C s1 H1 fp1) elt te) (rd : o4 J (eV caps σ) tt te Qf H)
  (hRR : ∀ D C s' H' m, Inv X pins σ H' s' → s'.heap.Ns C m → jb X pins H' C → Qf D H' → RR (.ref D) C (.ok .next) s') :
  wpAny (model X.prog X.w) X.A (newList []) (fun acc s3 => wpAny (model X.prog X.w) X.A (newFunctionEnv scope X.env.globals cl [] X.env.qual none .none (some X.env)) (fun cenv s4 =>
   codeAny (model X.prog X.w) X.A (.compStart (.ListComp elt [⟨.Name x px, iter, ifs, 0⟩] scope pos) 0 (.ref it) acc { cenv with scope := relabel scope X.env }) (RR acc cenv.locals) s4) E s3) E s := by
 have hfs : ∀ b ∈ fp, b < s.heap.objs.size := fun b hb => by
  obtain ⟨o, e, _⟩ := T.obj _ _ st b hb
  exact Heap.lt_size e
 refine wpAny_newObj_type (wpAny_newFunctionEnv K0.nocell (by intro y hy; simp at hy) (fun h1 hn1 hb1 => ?_) K0.kind)
 dsimp only at hn1 hb1 ⊢
 obtain ⟨D, eD⟩ : ∃ D : Nat, D = s.heap.objs.size := ⟨_, rfl⟩
 obtain ⟨H2, eH2⟩ : ∃ g, g = s.heap.push { cls := .type "list", dict := none, data := .seq ([] : List Value).toArray } := ⟨_, rfl⟩
 rw [← eH2] at hn1 hb1 ⊢
 rw [← eD]
 have hC : H2.objs.size = D + 1 := by rw [eH2, Heap.size_push, eD]
 have hle : s.heap.objs.size ≤ H2.objs.size := by rw [hC, eD]; exact Nat.le_succ _
 have hDC : D ≠ H2.objs.size := by rw [hC]; exact Nat.ne_of_lt (Nat.lt_succ_self _)
 have hk : ∀ b o, s.heap.get? b = some o → h1.get? b = some o := fun b o e => by
  refine hb1.extBut b o (Nat.ne_of_lt (Nat.lt_of_lt_of_le (Heap.lt_size e) hle)) (Heap.get?_push_of_some _ ?_)
  rw [eH2]
  exact Heap.get?_push_of_some _ e
 have hL : h1.get? D = some { cls := .type "list", data := .seq #[] } := by
  refine hb1.extBut D _ (by omega) (Heap.get?_push_of_some _ ?_)
  rw [eH2, eD]
  exact Heap.get?_push_size _ rfl
 have st1 : tn 0 h1 := T.keep _ _ _ st fun b _ o e => hk b o e
 obtain ⟨W, ⟨m0, w0⟩, turn⟩ := rd D (I.hok.fresh (by omega))
 have loop : codeAny (model X.prog X.w) X.A (.compLoop (.ListComp elt [⟨.Name x px, iter, ifs, 0⟩] scope pos) 0 (.ref it) (.ref D) (compEnvC scope cl H2.objs.size X.env)) (RR (.ref D) H2.objs.size) { s with heap := h1, toks := s.toks + ([] : List (Str × Value)).length } := by
  refine codeAny_compLoop_tests (fun n s' => ∃ i ys sl H', Inv (bB X (x :: caps.map (·.1)) scope cl H2.objs.size s H fp) [] (sl :: eV caps σ) H' s' ∧ tn i s'.heap ∧ (∀ b ∈ fp, H' b = none) ∧ W i n ys H') ?_ m0
   ⟨0, [], none, _, I.comp K0 hf hfs (by omega) (by omega) hDC hk hn1 hL, st1, fun b hb => ?_, w0⟩
  ·rintro n s3 ⟨i, ys, sl, H3, I3, st3, fr3, w3⟩
   have fpc : ∀ {H' : Hp} {pi : List (Addr × Obj)}, (∀ b ∈ fp, H' b = none) → (∀ p ∈ pi, p.1 ∉ fp) → ∀ b ∈ fp, jb (bB X (x :: caps.map (·.1)) scope cl H2.objs.size s H fp) pi H' b := fun {H' pi} hn hp b hb => by
    obtain ⟨f0, f1, f2, f3, f4, f5⟩ := hf b hb
    refine ⟨hn b hb, ?_, fun z => ?_, .inl hb, fun y c e => f4 y c (K0.cls y c e), fun p hpp z => ?_⟩
    ·exact Nat.ne_of_lt (Nat.lt_of_lt_of_le (hfs b hb) hle)
    ·rcases List.mem_cons.mp (I.stkSub b z) with q | q
     ·exact f1 q
     ·exact f2 q
    ·exact hp p (by simpa [bB] using hpp) (by rw [z]; exact hb)
   have clear : ∀ {α : Type} {t : Sem α} {Q : α → Shared → Prop} {E' : Value → Shared → Prop} {s : Shared}, wpAny (model X.prog X.w) X.A t Q (fun _ _ => False) s → wpAny (model X.prog X.w) X.A t Q E' s := fun h => wpAny_mono h (fun _ _ z => z) fun _ _ z => z.elim
   rcases turn i n ys H3 w3 with ⟨stop, qf⟩ | ⟨go, step⟩
   ·refine thn (T.done (bB X (x :: caps.map (·.1)) scope cl H2.objs.size s H fp) rfl rfl rfl hc i [] s3 _ H3 _ I3 (fpc fr3 (by simp)) st3 stop) fun r s4 ⟨hr, I4⟩ => ?_
    subst hr
    obtain ⟨m4, hn4, _⟩ := id I4.loc
    refine hRR D _ s4 H3 m4 (I.comped hf I4) hn4 ?_ qf
    have gC : s.heap.objs.size ≤ H2.objs.size := by omega
    exact I.fpOk gC I4.free
   ·refine clear (thn (T.item (bB X (x :: caps.map (·.1)) scope cl H2.objs.size s H fp) rfl rfl rfl hc i [] s3 _ H3 (fun _ _ => False) I3 (fpc fr3 (by simp)) st3 go) fun r s4 ⟨u, hr, h4⟩ => ?_)
    subst hr
    refine clear (show wpAny (model X.prog X.w) X.A (pure () >>= fun _ => assign (.Name x px) (compEnvC scope cl H2.objs.size X.env) u) _ _ s4 from wpAny_bind (thn (h4 : wpAny (model X.prog X.w) X.A (pure ()) _ _ s4) fun _ s5 ⟨v, H5, I5, r5, y5, st5, fr5⟩ => ?_))
    have I5' := I5.pinned (fpc fr5 (by simp)) (T.obj _ _ st5)
    have hg : PG (bB X (x :: caps.map (·.1)) scope cl H2.objs.size s H fp) (.Name x px) (qg 0) := bc (i := 0) K0.nd rfl (Or.inl (lookup_relabel_local K0.hx)) (Or.inr (lookup_relabel_local K0.hx))
    refine thn (hg _ s5 (sl :: eV caps σ) H5 v u (fun σ2 H2 => σ2 = some v :: eV caps σ ∧ H2 = H5) I5' r5 (show _ ∧ _ from ⟨rfl, rfl⟩)) fun _ s6 ⟨σ6, H6, I6, e6, e7⟩ => ?_
    subst e6 e7
    have q6 := step v _ y5
    have again : ∀ {H7 : Hp} {s7 : Shared} {sl : Option V} {zs : List V} {m' : Nat}, Inv (bB X (x :: caps.map (·.1)) scope cl H2.objs.size s H fp) ([] ++ mK fp s5.heap) (sl :: eV caps σ) H7 s7 → m' < n → W (i + 1) m' zs H7 →
      ∃ m, m < n ∧ ∃ i ys sl H', Inv (bB X (x :: caps.map (·.1)) scope cl H2.objs.size s H fp) [] (sl :: eV caps σ) H' s7 ∧ tn i s7.heap ∧ (∀ b ∈ fp, H' b = none) ∧ W i m ys H' := fun {H7 s7 sl zs m'} I7 hm w7 => by
     refine ⟨m', hm, i + 1, zs, sl, H7, I7.unpinned, T.keep _ _ _ st5 fun b hb o e => (I7.pin (b, o) (List.mem_append_right _ (List.mem_append_right _ (dB hb e)))).1, fun b hb => ?_, w7⟩
     obtain ⟨o, e, d⟩ := T.obj _ _ st5 b hb
     exact (I7.pin (b, o) (List.mem_append_right _ (List.mem_append_right _ (dB hb e)))).2.1
    refine clear (thn (ht H2.objs.size s H fp _ s6 _ H6 _ I6 q6) fun ok s7 ⟨H7, I7, q7⟩ => ?_)
    cases ok with
    | false =>
     obtain ⟨m', hm, w7⟩ := (show ∃ m', m' < n ∧ W (i + 1) m' ys H7 from q7)
     exact again I7 hm w7
    | true =>
     refine clear (thn (he H2.objs.size s H fp _ s7 _ H7 _ I7 q7) fun xv s8 ⟨y, H8, I8, r8, hD8, hz8, m', hm, w8⟩ => ?_)
     refine clear (thn (cV _ s8 _ H8 (.ref D) [y] (.ref D) [xv] (fun _ H9 => H9 = upd H8 D (.lst (ys ++ [y]))) I8 rfl (.cons r8 .nil) ⟨D, ys, y, rfl, rfl, hD8, hz8, rfl⟩) fun _ s9 ⟨_, H9, I9, _, e9⟩ => ?_)
     subst e9
     exact again I9 hm w8
  ·rw [aG (by rw [eD]; exact Nat.ne_of_lt (hfs b hb))]
   exact (hf b hb).1
 exact codeAny_compStart_list loop (T.self _ 0 _ _ _ st1 loop)
def BZ (wi : TI) (caps : List (Str × Nat)) (tt : TT) (te : TE) : TE := fun σ H Q => wi σ H fun J H1 => o4 J (eV caps σ) tt te (fun D H' => Q (.ref D) H') H1
theorem kh {x : Str} {px pos : Pos} {caps : List (Str × Nat)} {scope : Scope} {cl : List (Str × Addr)} {elt iter : Expr} {ifs : List Expr} {wi : TI} {tt : TT} {te : TE} (hc : X.calm = true) (K0 : eQ X x caps scope cl) (hi : PI X (.Name x px) iter wi)
  (ht : ∀ C s1 H1 fp1, PTs (bB X (x :: caps.map (·.1)) scope cl C s1 H1 fp1) ifs tt) (he : ∀ C s1 H1 fp1, PE (bB X (x :: caps.map (·.1)) scope cl C s1 H1 fp1) elt te) (hs : ∀ x, foldedSetIterable iter X.env x = pure x := by intro _; rfl) :
  PE X (.ListComp elt [⟨.Name x px, iter, ifs, 0⟩] scope pos) (BZ wi caps tt te) := by
 intro pins s σ H Q I h
 rw [eval_ListComp]
 refine wpAny_comprehension_free (use := none) rfl hs K0.clos K0.kind K0.names (thn (hi pins s σ H _ I h) fun v s1 h1 => thn h1 fun itv s2 h2 => ?_)
 obtain ⟨it, fp, tn, J, H2, e, I2, T, st2, f2, rd⟩ := h2
 subst e
 refine xO (RR := fun acc C => compPost (model X.prog X.w) X.A X.xe none (EP X pins σ Q) acc C) I2 hc K0 T st2 f2 ht he rd ?_
 intro D C s' H' m I' hn fC q
 exact ⟨m, hn, fun h'' hs'' => ⟨.ref D, H', I'.turned (h' := h'') (t' := s'.toks) (fun b o hb e => hs''.extBut b o hb e) fC.1 fC.2.1 fC.2.2.2.1 fC.2.2.2.2.1 fC.2.2.2.2.2, rfl, q⟩⟩
end
theorem qU {scope : Scope} {env : Env} {y : Str} {k : NameKind} (h : (relabel scope env).names.lookup y = some k) : ∃ k0, (y, k0) ∈ scope.names ∧ (k = k0 ∨ (k0 = .free ∧ k = .cell)) := by
 have h := PySem.mem_of_lookup h
 obtain ⟨⟨n, k0⟩, hm, e⟩ := List.mem_map.mp (show (y, k) ∈ scope.names.map _ from h)
 by_cases c : (k0 == NameKind.free && env.scope.kind == .function && env.kindOf n == some .cell) = true
 ·have e' : (n, NameKind.cell) = (y, k) := by rw [← e]; exact (if_pos c).symm
  have c1 : k0 = .free := by
   simp only [Bool.and_eq_true] at c
   exact eq_of_beq c.1.1
  cases e'
  exact ⟨_, hm, .inr ⟨c1, rfl⟩⟩
 ·have e' : (n, k0) = (y, k) := by rw [← e]; exact (if_neg c).symm
  cases e'
  exact ⟨_, hm, .inl rfl⟩
section
variable {X : Cx} {x : Str} {scope : Scope}
theorem eQ.one {y : Str} {j : Nat} {c : Addr} (hN : X.N[j]? = some y) (hX : X.env.scope.names.lookup y = some .cell ∨ X.env.scope.names.lookup y = some .free) (ec : X.env.cells.lookup y = some c) (clos : closureFor scope X.env = pure [(y, c)])
  (hr : (relabel scope X.env).names.lookup y = some .cell ∨ (relabel scope X.env).names.lookup y = some .free)
  (hfree : ∀ z ∈ scope.names, z.2 = .free → z.1 = y := by decide) (nocell : ∀ y ∈ scope.names, y.2 ≠ .cell := by decide) (kind : scope.kind = .function := by rfl) (names : ∀ y ∈ scope.names, y.2 = .local → scope.names.lookup y.1 = some .local := by decide)
  (hx : scope.names.lookup x = some .local := by rfl) (nd : [x, y].Nodup := by decide) : eQ X x [(y, j)] scope [(y, c)] := by
 have look : ([(y, c)] : List (Str × Addr)).lookup y = some c := by simp
 refine ⟨kind, nocell, names, hx, clos, fun z d e => ?_, fun z hz => ?_, nd, fun z i h => ?_⟩
 ·have := PySem.mem_of_lookup e
  cases List.mem_singleton.mp this
  exact ec
 ·have hz' : z = y := by
   rcases hz with hz | hz
   all_goals
    obtain ⟨k0, hm, e⟩ := qU hz
    rcases e with e | ⟨e, _⟩
    ·subst e
     first | exact absurd rfl (nocell _ hm) | exact hfree _ hm rfl
    ·subst e
     exact hfree _ hm rfl
  subst hz'
  exact ⟨c, look⟩
 ·cases List.mem_singleton.mp h
  exact ⟨hN, hX, hr⟩
end
end L2
set_option Elab.async false
set_option linter.all false
set_option maxRecDepth 100000
set_option maxHeartbeats 4000000
namespace L2
open PySem PySem.Spec PyProof.Rows
section
variable {prog : Program} {w : World} {A : Around} {R : Result → Shared → Prop} {I S : Addr} {fp wr : List Addr} {n : Nat} {P : Nat → Value → Prop} {St : Nat → Heap → Prop} {kw : List (Str × Value)}
theorem wC (W : Walks prog w A.in1 I fp wr n P St) (bt : Nat → Nat → Bool) (cmp : CmpOf prog w A.in1 .Lt P bt) (hSf : S ∉ fp) :
  ∀ (k j : Nat) (s : Shared) (x : Value) (c : Nat), j + 1 + k = n → St (j + 1) s.heap → P (argBest bt j) x → s.heap.get? S = some { cls := .type "list", data := .seq #[x, x] c } →
   (∀ v g t, P (argBest bt (n - 1)) v → (∀ b o, b ∉ wr → b ≠ S → s.heap.get? b = some o → g.get? b = some o) → R (.ok (.ret v)) { s with heap := g, toks := t }) →
   codeAny (model prog w) A (.builtin "min.loop" ⟨[.ref I, .none, .ref S], kw⟩) R s := by
 have hSw : S ∉ wr := fun z => hSf (W.sub _ z)
 have nm : (toString "min" ++ toString ".loop" : String) = "min.loop" := by decide
 intro k
 induction k with
 | zero =>
  intro j s x c hj st px hS fin
  have hn : j + 1 = n := hj
  refine codeAny_builtin PySem.F.entry_min_loop ?_
  rw [Around.under_plainId PySem.F.plain_min_loop _]
  show wpAny _ A.in1 (seqItems? (.ref S) >>= _) _ _ s
  refine wpAny_bind (wpAny_seqItems hS rfl ?_)
  show wpAny _ A.in1 (tryCatch (pyNext (.ref I)) _ >>= _) _ _ s
  refine wpAny_bind (wpAny_tryCatch (W.done s _ _ (hn ▸ st) fun g t kk => ?_))
  have hS1 := kk S _ hSw hS
  show wpAny _ A.in1 (updateSeq S (fun _ => #[]) >>= _) _ _ _
  refine wpAny_bind (wpAny_updateSeq hS1 rfl (wpAny_bind (wpAny_letGo (wpAny_pure ?_))))
  exact fin x _ t (by rw [← hn]; exact px) fun b o b1 b2 q => (Heap.get?_update_other _ _ (Ne.symm b2)).trans (kk b o b1 q)
 | succ k ih =>
  intro j s x c hj st px hS fin
  have lt : j + 1 < n := by omega
  refine codeAny_builtin PySem.F.entry_min_loop ?_
  rw [Around.under_plainId PySem.F.plain_min_loop _]
  show wpAny _ A.in1 (seqItems? (.ref S) >>= _) _ _ s
  refine wpAny_bind (wpAny_seqItems hS rfl ?_)
  show wpAny _ A.in1 (tryCatch (pyNext (.ref I)) _ >>= _) _ _ s
  refine wpAny_bind (wpAny_tryCatch (W.item (j + 1) s _ _ lt st fun v g t pv st1 kk => ?_))
  have hS1 := kk S _ hSw hS
  show wpAny _ A.in1 (tryCatch (holding [v, v] (richCompare .Lt v x >>= _)) _ >>= _) _ _ _
  refine wpAny_bind (wpAny_tryCatch (wpAny_holding (wpAny_bind (cmp (j + 1) (argBest bt j) v x _ _ _ pv px ?_))))
  refine wpAny_bind (wpAny_holding (wpAny_truthy_bool (wpAny_bind (wpAny_letGo (wpAny_pure ?_)))))
  cases hb : bt (j + 1) (argBest bt j) with
  | true =>
   simp only [if_true]
   refine wpAny_bind (wpAny_updateSeq hS1 rfl (wpAny_bind (wpAny_letGo ?_)))
   rw [nm]
   refine wpAny_pure ⟨plainId_quiet PySem.F.plain_min_loop _, ih (j + 1) _ v _ (by omega) (W.frame _ _ _ st1 fun b bf o q => ?_) (by simp only [argBest, hb, if_true]; exact pv) (Heap.get?_update_self _ hS1 rfl) fun y g2 t2 py k2 => ?_⟩
   ·exact (Heap.get?_update_other _ _ (fun z : S = b => hSf (by rw [z]; exact bf))).trans q
   ·exact fin y g2 t2 py fun b o b1 b2 q => k2 b o b1 b2 ((Heap.get?_update_other _ _ (Ne.symm b2)).trans (kk b o b1 q))
  | false =>
   simp only [Bool.false_eq_true, if_false]
   refine wpAny_bind (wpAny_letGo ?_)
   rw [nm]
   refine wpAny_pure ⟨plainId_quiet PySem.F.plain_min_loop _, ih (j + 1) _ x c (by omega) st1 (by simp only [argBest, hb, Bool.false_eq_true, if_false]; exact px) hS1 fun y g2 t2 py k2 => ?_⟩
   exact fin y g2 t2 py fun b o b1 b2 q => k2 b o b1 b2 (kk b o b1 q)
theorem uw (W : Walks prog w A.in1 I fp wr n P St) (bt : Nat → Nat → Bool) (cmp : CmpOf prog w A.in1 .Lt P bt) (hSf : S ∉ fp) (hn : 0 < n) {s : Shared} {c : Nat} (st : St 0 s.heap)
  (hS : s.heap.get? S = some { cls := .type "list", data := .seq #[] c })
  (fin : ∀ v g t, P (argBest bt (n - 1)) v → (∀ b o, b ∉ wr → b ≠ S → s.heap.get? b = some o → g.get? b = some o) → R (.ok (.ret v)) { s with heap := g, toks := t }) :
  codeAny (model prog w) A (.builtin "min.loop" ⟨[.ref I, .none, .ref S], kw⟩) R s := by
 have hSw : S ∉ wr := fun z => hSf (W.sub _ z)
 have nm : (toString "min" ++ toString ".loop" : String) = "min.loop" := by decide
 refine codeAny_builtin PySem.F.entry_min_loop ?_
 rw [Around.under_plainId PySem.F.plain_min_loop _]
 show wpAny _ A.in1 (seqItems? (.ref S) >>= _) _ _ s
 refine wpAny_bind (wpAny_seqItems hS rfl ?_)
 show wpAny _ A.in1 (tryCatch (pyNext (.ref I)) _ >>= _) _ _ s
 refine wpAny_bind (wpAny_tryCatch (W.item 0 s _ _ hn st fun v g t pv st1 kk => ?_))
 have hS1 := kk S _ hSw hS
 show wpAny _ A.in1 (updateSeq S (fun _ => #[v, v]) >>= _) _ _ _
 refine wpAny_bind (wpAny_updateSeq hS1 rfl ?_)
 rw [nm]
 refine wpAny_pure ⟨plainId_quiet PySem.F.plain_min_loop _, wC W bt cmp hSf (n - 1) 0 _ v _ (by omega) (W.frame _ _ _ st1 fun b bf o q => ?_) pv (Heap.get?_update_self _ hS1 rfl) fun y g2 t2 py k2 => ?_⟩
 ·exact (Heap.get?_update_other _ _ (fun z : S = b => hSf (by rw [z]; exact bf))).trans q
 ·exact fin y g2 t2 py fun b o b1 b2 q => k2 b o b1 b2 ((Heap.get?_update_other _ _ (Ne.symm b2)).trans (kk b o b1 q))
end
theorem qz (a v : Value) : argsOk "min" ⟨[a], [(Str.ofString "default", v)]⟩ := by unfold argsOk; kernel_rfl
section
variable {prog : Program} {w : World} {A : Around} {E : Value → Shared → Prop} {s : Shared} {l : Addr} {zs : Array (Int × Tok)}
theorem gP {d : Value} {Q : Value → Shared → Prop} (hh : A.handled = none) (hl : s.heap.IsList l (intItems zs)) (hne : 0 < zs.size)
  (h : ∀ v g t, (intItems zs)[argBest (fun i j => decide (numAt zs i < numAt zs j)) (zs.size - 1)]? = some v → (∀ b o, s.heap.get? b = some o → g.get? b = some o) → Q v { s with heap := g, toks := t }) :
  wpAny (model prog w) A (call (.builtin "min") [.ref l] [(Str.ofString "default", d)]) Q E s := by
 have nm : (toString "min" ++ toString ".loop" : String) = "min.loop" := by decide
 refine PyProof.Rows.kmk_tree PySem.F.kind_min PySem.F.plain_min PySem.F.entry_min (qz _ _) ?_
 refine wpAny_bind (wpAny_of_eq (show Builtin.Builtins.bindParams "min" ["key", "default"] 0 ⟨[], [(Str.ofString "default", d)]⟩ = pure [none, some d] from rfl) ?_)
 refine wpAny_bind (wpAny_pure (wpAny_bind (iter_intList hl fun s2 e st hfp hlI => ?_)))
 subst e
 refine wpAny_bind (wpAny_newObj_type ?_)
 rw [nm]
 have hz : (intItems zs).size = zs.size := by simp [intItems]
 refine wpAny_pure ⟨plainId_quiet PySem.F.plain_min_loop _, uw (Walks.list (A := A.in1) hh _ l hlI (intItems zs)) _ (CmpOf.ints_lt (numAt zs) (fun _ _ => intItems_at)) (fun z => Nat.lt_irrefl _ (hfp _ z)) (by rw [hz]; exact hne)
  ⟨⟨_, Heap.get?_push_of_some _ (Heap.get?_push_size _ rfl), rfl, rfl⟩, (hl.push _).push _⟩ (Heap.get?_push_size _ rfl) fun v g t hv k => ?_⟩
 refine h v g t (by rw [hz] at hv; exact hv) fun b o q => k b o ?_ ?_ (Heap.get?_push_of_some _ (Heap.get?_push_of_some _ q))
 ·exact fun z => absurd (Heap.lt_size q) (by rw [List.mem_singleton.mp z]; exact Nat.lt_irrefl _)
 ·refine Nat.ne_of_lt (Nat.lt_of_lt_of_le (Heap.lt_size q) ?_)
  rw [Heap.size_push]
  exact Nat.le_succ _
end
def oH (M : Int) (ns : List Int) : Prop := M ∈ ns ∧ ∀ a ∈ ns, M ≤ a
theorem oV {ns : List Int} {its : List Value} {zs : Array (Int × Tok)} (hi : IntsAre its ns) (e : its.toArray = intItems zs) (hne : 0 < ns.length) : 0 < zs.size ∧ oH (numAt zs (argBest (fun i j => decide (numAt zs i < numAt zs j)) (zs.size - 1))) ns := by
 have hns : ns = zs.toList.map (·.1) := by rw [← hi.numsOf, ← nums_intItems, ← e]
 have hsz : 0 < zs.size := by
  have h3 := hne
  rw [hns, List.length_map, Array.length_toList] at h3
  exact h3
 obtain ⟨h1, h2⟩ := argBest_lt (numAt zs) (zs.size - 1)
 refine ⟨hsz, ?_, fun a ha => ?_⟩
 ·rw [hns, numAt_eq]
  exact getD_mem (by rw [List.length_map, Array.length_toList]; omega)
 ·rw [hns] at ha
  obtain ⟨j, hj, rfl⟩ := mem_getD ha
  rw [List.length_map, Array.length_toList] at hj
  rw [← numAt_eq]
  exact h2 j (by omega)
section
variable {X : Cx}
theorem qb (hc : X.calm = true) : dq X (.builtin "min") (fun xs H Q => ∃ (p : Addr) (ns : List Int), xs = [.ref p] ∧ SqL X.K H p (ns.map V.int) ∧ 0 < ns.length ∧ ∀ M, oH M ns → Q (.int M) H) := by
 intro pins s σ H xs us Q I r h
 obtain ⟨p, ns, rfl, hq, hne, q⟩ := h
 obtain ⟨u, rfl, rx⟩ := vals1 r
 cases rx
 obtain ⟨its, r', pl, hz⟩ := I.list hq
 have hi := intsAre_of r'
 obtain ⟨zs, e⟩ := hi.allInts.items
 obtain ⟨hsz, hm⟩ := oV hi e hne
 refine min_intList (xs := zs) (I.ok.hd hc) (by rw [← e]; exact pl.isList) hsz fun v g t hv k => ?_
 obtain ⟨t', rfl⟩ := intItems_at hv
 exact ⟨.int _, H, I.kept (t' := t) k, ⟨t', rfl⟩, q _ hm⟩
def BK (K : PySem.W.Frag) (ta : TA) (td : TE) : TE := fun σ H Q => ta σ H fun vs H1 => td σ H1 fun _ H2 => ∃ (p : Addr) (ns : List Int), vs = [.ref p] ∧ SqL K H2 p (ns.map V.int) ∧ 0 < ns.length ∧ ∀ M, oH M ns → Q (.int M) H2
theorem zq {a d : Expr} {ta : TA} {td : TE} {p pos kpos : Pos} (hc : X.calm = true) (hg : Gl X "min") (hm : X.mg "min" = none) (ha : PA X [a] ta) (hd : PE X d td)
  (hv : bootBuiltins "min" = some (.builtin "min"))
  (he : backTo pos (starEach [a] X.env) = (false, eval a X.env) :: backTo pos (starEach [] X.env) := by rfl) (hpl : (backTo pos (starEach [a] X.env)).any (·.1) = false := by rfl)
  (hks : (backToKw pos (keywordEach [⟨some (Str.ofString "default"), d, kpos⟩] X.env)).filterMap (·.1) = [Str.ofString "default"] := by rfl)
  (hall : (backToKw pos (keywordEach [⟨some (Str.ofString "default"), d, kpos⟩] X.env)).all (·.1.isSome) = true := by rfl)
  (hkw : (backToKw pos (keywordEach [⟨some (Str.ofString "default"), d, kpos⟩] X.env)).any (·.1.isNone) = false := by rfl) :
  PE X (.Call (.Name "min" p) [a] [⟨some (Str.ofString "default"), d, kpos⟩] pos) (BK X.K ta td) := by
 intro pins s σ H Q I h
 refine wpAny_Call_Name_kw (dG I hg hm hv ?_)
 refine PyProof.Rows.callWith_kw (thn (ha pos pins s σ H _ I h) fun us s1 ⟨vs, H1, I1, r1, q1⟩ => ?_) he hpl hall hkw
 show wpAny _ _ (evalAll ((do let v ← eval d X.env; standAt pos; pure v) :: [])) _ _ s1
 refine wpAny_evalAll_cons (wpAny_bind (thn (hd pins s1 σ H1 _ I1 q1) fun dv s2 ⟨x, H2, I2, _, q2⟩ => wpAny_bind (wpAny_standAt (wpAny_pure (wpAny_evalAll_nil ?_)))))
 obtain ⟨b, ns, rfl, hq, hne, q⟩ := q2
 obtain ⟨u, rfl, rx⟩ := vals1 r1
 cases rx
 rw [hks]
 obtain ⟨its, r', pl, hz⟩ := I2.list hq
 have hi := intsAre_of r'
 obtain ⟨qs, e⟩ := hi.allInts.items
 obtain ⟨hsz, hmn⟩ := oV hi e hne
 refine gP (zs := qs) (I.ok.hd hc) (by rw [← e]; exact pl.isList) hsz fun v g t hv k => ?_
 obtain ⟨t', rfl⟩ := intItems_at hv
 exact ⟨.int _, H2, I2.kept (t' := t) k, ⟨t', rfl⟩, q _ hmn⟩
end
end L2
set_option Elab.async false
set_option linter.all false
set_option maxRecDepth 100000
set_option maxHeartbeats 4000000
namespace L2
open PySem PySem.Spec PyProof.Rows
def Its (lo st : Int) (n : Nat) : It := ⟨fun i _ => i < n, fun i H x H' => H' = H ∧ x = .int (lo + i * st), fun i _ => n ≤ i⟩
theorem qM {P : Program} {w : World} {K : PySem.W.Frag} {tg : Expr} (it : Addr) (lo st : Int) (n : Nat) : Turn P w K tg (Its lo st n) [it] it (fun i h => IsRangeIter h it (lo + (i : Nat) * st) ((n : Int) - (i : Nat)) st) where
 mem := by simp
 obj := fun i h q b hb => by
  have e : b = it := by simpa using hb
  subst e
  exact ⟨_, q, fun v z => by
   have z' : Data.fields _ = Data.cell v := z
   cases z'⟩
 keep := fun i h h' q k => k it (by simp) _ q
 item := by
  intro X hP hw hK hc i pins s σ H E I hf q hg
  subst hP hw hK
  obtain ⟨f0, f1, f2, f3, f4, f5⟩ := hf it (by simp)
  have W := Walks.range (prog := X.prog) (w := X.w) (I.ok.hd hc) it lo st n
  refine W.item i s _ _ hg q fun v h' tk hv q' kk => ?_
  obtain ⟨t, rfl⟩ := hv
  have I1 : Inv X pins σ H { s with heap := h', toks := tk } := I.turned (fun b o hb e => kk b o (by simpa using hb) e) f0 f1 f3 f4 f5
  exact ⟨_, rfl, vQ (s := { s with heap := h', toks := tk }) (n := "range_iterator") q' rfl rfl (by decide) ⟨.int (lo + i * st), H, I1, ⟨t, rfl⟩, ⟨rfl, rfl⟩, q', fun b hb => (hf b hb).1⟩⟩
 done := by
  intro X hP hw hK hc i pins s σ H E I hf q hg
  subst hP hw hK
  obtain ⟨f0, f1, f2, f3, f4, f5⟩ := hf it (by simp)
  exact wpAny_pyNext_range_end (I.ok.hd hc) q (by have : n ≤ i := hg; omega) fun h' eb => ⟨rfl, I.turned (t' := s.toks) (fun b o hb e => eb b o hb e) f0 f1 f3 f4 f5⟩
 self := fun _ _ _ _ _ q h => wpAny_pyIter_rangeiter q h
section
variable {X : Cx} {tg : Expr}
def BR (ta : TA) : TI := fun σ H R => ta σ H fun vs H1 => ∃ b : Nat, vs = [.int 0, .int (b : Int), .int 32] ∧ b < 536870912 ∧ R (Its 0 32 ((b + 31) / 32)) H1
theorem v8 (b : Nat) : Builtin.Range.rangeSize 0 b 32 = (((b + 31) / 32 : Nat) : Int) := by
 unfold Builtin.Range.rangeSize
 rw [if_pos (by decide)]
 split <;> omega
theorem jN {p q : Bool} (hp : p = true) (hq : q = true) : (p && q) = true := by rw [hp, hq]; rfl
theorem yZ {b : Nat} (h : b < 536870912) : Builtin.Range.small 0 b 32 = true := by
 unfold Builtin.Range.small Builtin.Range.rangeFitsLong
 rw [v8]
 generalize hn : (((b + 31) / 32 : Nat) : Int) = n
 have h1 : n ≤ 16777216 := by omega
 have h0 : 0 ≤ n := by omega
 have e : (2 : Int) ^ 63 = 9223372036854775808 := by decide
 rw [e, if_pos (by decide)]
 refine jN (jN (jN (jN (by decide) (jN (decide_eq_true ?_) (decide_eq_true ?_))) (by decide)) (jN (decide_eq_true ?_) (decide_eq_true ?_))) ?_
 ·omega
 ·omega
 ·omega
 ·omega
 ·rw [Bool.or_eq_true]
  exact .inr (jN (decide_eq_true (by omega)) (decide_eq_true (by omega)))
theorem wu {a b c : Expr} {ta : TA} {p pos : Pos} (hg : Gl X "range") (hm : X.mg "range" = none) (ha : PA X [a, b, c] ta) (hs : starEach [a, b, c] X.env = [(false, eval a X.env), (false, eval b X.env), (false, eval c X.env)] := by rfl)
  (hs2 : starEach [b, c] X.env = [(false, eval b X.env), (false, eval c X.env)] := by rfl) : PI X tg (.Call (.Name "range" p) [a, b, c] [] pos) (BR ta) := by
 intro pins s σ H R I h
 refine Call_ (dG I hg hm boot_range (PyProof.Rows.callWith_type1 (thn (ha pos pins s σ H _ I h) fun us s1 ⟨vs, H1, I1, r1, q1⟩ => ?_) (by rw [hs, hs2]) (by rw [hs2]; rfl)))
 obtain ⟨y, e, l1, q⟩ := q1
 subst e
 cases r1 with
 | cons r rr =>
  cases rr with
  | cons r' rr =>
   cases rr with
   | cons r'' rr =>
    cases rr
    obtain ⟨t, rfl⟩ := r
    obtain ⟨t', rfl⟩ := r'
    obtain ⟨t'', rfl⟩ := r''
    refine call_range_3 (by decide) ?_ (.inl (PyProof.noPylong_small (by omega)))
    refine wpAny_pyIter_range (IsRange.new ..) (yZ l1) ?_
    have I2 : Inv X pins σ H1 { s1 with heap := s1.heap.push { cls := .type "range", data := .fields #[.int 0 t, .int y t', .int 32 t''] }, toks := s1.toks } := I1.kept fun b o e => Heap.get?_push_of_some _ e
    refine ⟨(s1.heap.push { cls := .type "range", data := .fields #[.int 0 t, .int y t', .int 32 t''] }).objs.size, [(s1.heap.push { cls := .type "range", data := .fields #[.int 0 t, .int y t', .int 32 t''] }).objs.size], _, _, H1, rfl,
     I2.kept (t' := s1.toks) fun b o e => Heap.get?_push_of_some _ e, qM _ 0 32 ((y + 31) / 32), ?_, fun b hb => ?_, q⟩
    ·have e1 : (0 : Int) + ((0 : Nat) : Int) * 32 = 0 := by decide
     have e2 : (((y + 31) / 32 : Nat) : Int) - ((0 : Nat) : Int) = Builtin.Range.rangeSize 0 y 32 := by rw [v8]; simp
     show IsRangeIter _ _ ((0 : Int) + ((0 : Nat) : Int) * 32) ((((y + 31) / 32 : Nat) : Int) - ((0 : Nat) : Int)) 32
     rw [e1, e2]
     exact Heap.get?_push_size _ rfl
    ·have e : b = (s1.heap.push { cls := .type "range", data := .fields #[.int 0 t, .int y t', .int 32 t''] }).objs.size := by simpa using hb
     subst e
     exact I2.fpOk (Nat.le_refl _) (I2.hok.fresh (Nat.le_refl _))
end
theorem yJ {lo st : Int} {n : Nat} {g : TG} {tb : TS} {D : Ends} {σ : St} {H : Hp} (Pv : Nat → St → Hp → Prop) (h0 : Pv 0 σ H)
  (hs : ∀ (i : Nat) σ H, i < n → Pv i σ H → g (.int (lo + i * st)) σ H fun σ2 H2 => tb { D with nx := Pv (i + 1), ct := Pv (i + 1), bk := D.nx } σ2 H2) (hd : ∀ σ H, Pv n σ H → D.nx σ H) :
  ∃ W : Nat → Nat → St → Hp → Prop, (∃ m, W 0 m σ H) ∧ ∀ i m σ H, W i m σ H →
   ((Its lo st n).stop i H ∧ D.nx σ H) ∨ ((Its lo st n).go i H ∧ ∃ N : St → Hp → Prop, (∀ σ' H', N σ' H' → ∃ m', m' < m ∧ W (i + 1) m' σ' H') ∧ ∀ x H', (Its lo st n).yld i H x H' → g x σ H' fun σ2 H2 => tb { D with nx := N, ct := N, bk := D.nx } σ2 H2) := by
 refine ⟨fun i m σ H => m = n - i ∧ i ≤ n ∧ Pv i σ H, ⟨n, by simp, Nat.zero_le _, h0⟩, ?_⟩
 rintro i m σ H ⟨rfl, hi, p⟩
 by_cases hlt : i < n
 ·refine .inr ⟨hlt, Pv (i + 1), fun σ' H' p' => ⟨n - (i + 1), by omega, rfl, hlt, p'⟩, fun x H' y => ?_⟩
  obtain ⟨rfl, rfl⟩ := y
  exact hs i σ _ hlt p
 ·have e : i = n := by omega
  subst e
  exact .inl ⟨Nat.le_refl _, hd σ H p⟩
def Itv (K : PySem.W.Frag) (a : Addr) (xs : List V) : It :=
 ⟨fun i H => SqL K H a xs ∧ i < xs.length, fun i H x H' => H' = H ∧ xs[xs.length - 1 - i]? = some x, fun i _ => xs.length ≤ i⟩
theorem yS {P : Program} {w : World} {K : PySem.W.Frag} {tg : Expr} (a it : Addr) (xs : List V) : Turn P w K tg (Itv K a xs) [it] it (fun i h => i ≤ xs.length ∧ h.IsRevIter it a ((xs.length : Int) - 1 - (i : Nat))) where
 mem := by simp
 obj := fun i h st b hb => by
  have e : b = it := by simpa using hb
  subst e
  obtain ⟨_, o, e, c, d⟩ := st
  exact ⟨o, e, fun v z => by rw [d] at z; cases z⟩
 keep := fun i h h' st k => ⟨st.1, st.2.at fun o e => k it (by simp) o e⟩
 item := by
  intro X hP hw hK hc i pins s σ H E I hf st hg
  subst hP hw hK
  obtain ⟨hq, hi⟩ := hg
  obtain ⟨its, rv, p, hz⟩ := I.list hq
  obtain ⟨x, hx⟩ : ∃ x, xs[xs.length - 1 - i]? = some x := ⟨_, List.getElem?_eq_getElem (by omega)⟩
  obtain ⟨u, hu, ru⟩ := rv.get hx
  obtain ⟨f0, f1, f2, f3, f4, f5⟩ := hf it (by simp)
  obtain ⟨hle, st⟩ := st
  have e : (xs.length : Int) - 1 - (i : Nat) = ((xs.length - 1 - i : Nat) : Int) := by omega
  rw [e] at st
  refine wpAny_pyNext_rev_item st p.isList (x := u) (by simpa using hu) fun h' st' sb => ?_
  have I1 : Inv X pins σ H { s with heap := h' } := I.turned (t' := s.toks) (fun b o hb e => (sb.2 b hb).trans e) f0 f1 f3 f4 f5
  have e2 : ((xs.length - 1 - i : Nat) : Int) - 1 = (xs.length : Int) - 1 - ((i + 1 : Nat) : Int) := by omega
  rw [e2] at st'
  obtain ⟨o, e, c, d⟩ := id st'
  exact ⟨u, rfl, vQ (s := { s with heap := h' }) e c d (by decide) ⟨x, H, I1, ru, ⟨rfl, hx⟩, ⟨by omega, st'⟩, fun b hb => (hf b hb).1⟩⟩
 done := by
  intro X hP hw hK hc i pins s σ H E I hf st hg
  subst hP hw hK
  obtain ⟨f0, f1, f2, f3, f4, f5⟩ := hf it (by simp)
  obtain ⟨hle, st⟩ := st
  have e : (xs.length : Int) - 1 - (i : Nat) = -1 := by have : xs.length ≤ i := hg; omega
  rw [e] at st
  exact wpAny_pyNext_rev_end (I.ok.hd hc) st fun h' eb => ⟨rfl, I.turned (t' := s.toks) (fun b o hb e => eb b o hb e) f0 f1 f3 f4 f5⟩
 self := fun _ _ _ _ _ st h => wpAny_pyIter_revIter st.2 h
section
variable {X : Cx} {tg : Expr}
def CJ (K : PySem.W.Frag) (ta : TA) : TI := fun σ H R => ta σ H fun vs H1 => ∃ a xs, vs = [.ref a] ∧ SqL K H1 a xs ∧ R (Itv K a xs) H1
theorem yX {a : Expr} {ta : TA} {p pos : Pos} (hg : Gl X "reversed") (hm : X.mg "reversed" = none) (ha : PA X [a] ta) (hv : bootBuiltins "reversed" = some (.type "reversed")) (hs : starEach [a] X.env = [(false, eval a X.env)] := by rfl) :
  PI X tg (.Call (.Name "reversed" p) [a] [] pos) (CJ X.K ta) := by
 intro pins s σ H R I h
 refine Call_ (dG I hg hm hv (PyProof.Rows.callWith_type1 (thn (ha pos pins s σ H _ I h) fun us s1 ⟨vs, H1, I1, r1, q1⟩ => ?_) hs rfl))
 obtain ⟨b, xs, e, hq, q⟩ := q1
 subst e
 obtain ⟨u, rfl, rx⟩ := vals1 r1
 cases rx
 obtain ⟨its, rv, pl, hz⟩ := I1.list hq
 refine call_reversed_list pl.isList ?_
 have hl := rv.length
 have st : ({ s1 with heap := s1.heap.push (revObj b ((its.toArray.size : Int) - 1)) } : Shared).heap.IsRevIter s1.heap.objs.size b ((xs.length : Int) - 1 - ((0 : Nat) : Int)) := by
  refine ⟨_, Heap.get?_push_size _ rfl, rfl, ?_⟩
  show Data.fields #[.ref b, rawInt ((its.toArray.size : Int) - 1)] = _
  have e : (its.toArray.size : Int) - 1 = (xs.length : Int) - 1 - ((0 : Nat) : Int) := by simp; omega
  rw [e]
 refine wpAny_pyIter_revIter st ?_
 have I2 : Inv X pins σ H1 { s1 with heap := s1.heap.push (revObj b ((its.toArray.size : Int) - 1)) } := I1.kept (t' := s1.toks) fun c o e => Heap.get?_push_of_some _ e
 refine ⟨s1.heap.objs.size, [s1.heap.objs.size], _, Itv X.K b xs, H1, rfl, I2, yS b _ xs, ⟨Nat.zero_le _, st⟩, fun c hc => ?_, q⟩
 have e : c = s1.heap.objs.size := by simpa using hc
 subst e
 exact I1.fpOk (Nat.le_refl _) (I1.hok.fresh (Nat.le_refl _))
end
theorem vO {K : PySem.W.Frag} {a : Addr} {xs : List V} {g : TG} {tb : TS} {D : Ends} {σ : St} {H : Hp} (Pv : Nat → St → Hp → Prop) (h0 : Pv 0 σ H) (hl : ∀ i σ H, i ≤ xs.length → Pv i σ H → SqL K H a xs)
  (hs : ∀ i x σ H, i < xs.length → xs[xs.length - 1 - i]? = some x → Pv i σ H → g x σ H fun σ2 H2 => tb { D with nx := Pv (i + 1), ct := Pv (i + 1), bk := D.nx } σ2 H2) (hd : ∀ σ H, Pv xs.length σ H → D.nx σ H) :
  ∃ W : Nat → Nat → St → Hp → Prop, (∃ m, W 0 m σ H) ∧ ∀ i m σ H, W i m σ H →
   ((Itv K a xs).stop i H ∧ D.nx σ H) ∨ ((Itv K a xs).go i H ∧ ∃ N : St → Hp → Prop, (∀ σ' H', N σ' H' → ∃ m', m' < m ∧ W (i + 1) m' σ' H') ∧ ∀ x H', (Itv K a xs).yld i H x H' → g x σ H' fun σ2 H2 => tb { D with nx := N, ct := N, bk := D.nx } σ2 H2) := by
 refine ⟨fun i m σ H => m = xs.length - i ∧ i ≤ xs.length ∧ Pv i σ H, ⟨xs.length, by simp, Nat.zero_le _, h0⟩, ?_⟩
 rintro i m σ H ⟨rfl, hi, p⟩
 by_cases hlt : i < xs.length
 ·refine .inr ⟨⟨hl i σ H hi p, hlt⟩, Pv (i + 1), fun σ' H' p' => ⟨xs.length - (i + 1), by omega, rfl, hlt, p'⟩, fun x H' y => ?_⟩
  obtain ⟨rfl, hx⟩ := y
  exact hs i x σ _ hlt hx p
 ·have e : i = xs.length := by omega
  subst e
  exact .inl ⟨Nat.le_refl _, hd σ H p⟩
end L2
set_option Elab.async false
set_option linter.all false
set_option maxRecDepth 100000
set_option maxHeartbeats 4000000
namespace L2
open PySem PySem.Spec PyProof.Rows
section
variable {prog : Program} {w : World} {A : Around} {E : Value → Shared → Prop} {s : Shared}
theorem tH {T newId initId : String} {Bn Bi : Builtin} {args : List Value} {kw : List (Str × Value)} {S : _root_.PySem.Spec} {Q Q1 : Value → Shared → Prop} (ft : TypeCalled T newId initId)
  (hct : checkTypeCall T ⟨args, kw⟩ = pure ()) (hcn : checkBuiltinCall newId ⟨.type T :: args, kw⟩ = pure ()) (eN : entryFor table newId = some Bn) (eI : entryFor table initId = some Bi)
  (g : Meets (Bn ⟨.type T :: args, kw⟩) S) (h : S A.in1 (wants Q1 E) s)
  (go : ∀ obj s1, Q1 obj s1 → s1.TypeIs obj T ∧ argsOk initId ⟨obj :: args, kw⟩ ∧ ∃ Si, Meets (Bi ⟨obj :: args, kw⟩) Si ∧ Si A.in1 (wants (fun r s2 => r = .none ∧ Q obj s2) E) s1) :
  wpAny (model prog w) A (call (.type T) args kw) Q E s := by
 obtain ⟨c, tl, hmro⟩ := ft.mro
 have hmade := ft.made
 have hsub := ft.sub
 refine wpAny_call (codeAny_of_tree ?_)
 show wpAny _ _ (callAny (.type T) _) _ _ _
 refine wpAny_pure ⟨Code.quiet_builtin _ (by decide +kernel), codeAny_builtin PySem.F.entry_type_call ?_⟩
 rw [Around.under_plain (weight_type_call_type T args kw) (units_type_call_type T args kw)]
 have n1 := ft.notType
 have n2 := ft.canCreate
 repeat (any_goals (first | assumption | wp_step))
 refine codeAny_mono (codeAny_call_builtin ft.plain eN (wpAny_of_eq hcn (g prog w A.in1 _ s h))) fun r s1 hr => ?_
 cases r with
 | error e => exact hr
 | ok fl =>
  cases fl with
  | ret obj =>
   obtain ⟨hT, hok, Si, gi, hsi⟩ := go _ _ hr
   have hli := ft.init.lookup
   have hbi := ft.init.bind obj
   repeat (any_goals (first | assumption | wp_step))
   refine codeAny_mono (codeAny_call_builtin ft.init.plain eI (ft.init.check _ _ _ _ _ _ _ _ hT hok (gi prog w A.in1 _ s1 hsi))) fun r2 s2 hr2 => ?_
   cases r2 with
   | error e => exact hr2
   | ok fl2 =>
    cases fl2 with
    | ret r =>
     obtain ⟨rfl, hq⟩ := hr2
     repeat (any_goals (first | assumption | wp_step))
    | _ => exact hr2.elim
  | _ => exact hr.elim
theorem t7 {T newId : String} {self : Value} {rest : List Value} {kw : List (Str × Value)} (hl : typeLookup (.type T) "__init__" = pure (some (.builtin "object.__init__")))
  (hm : Bind.madeBy (.type T) = pure (some newId)) (hne : (some newId != some "object.__new__") = true) :
  Meets (Builtin.«object.__init__» ⟨self :: rest, kw⟩) (fun _ R s => s.TypeIs self T ∧ R (.ok (.ret .none)) s) := by
 refine Meets.of_wp fun prog w A R s hs => ?_
 obtain ⟨hT, hq⟩ := hs
 cases rest with
 | nil =>
  cases kw with
  | nil => exact wpAny_pure ⟨_, rfl, hq⟩
  | cons p kw =>
   repeat (any_goals (first | assumption | wp_step))
   exact ⟨_, rfl, hq⟩
 | cons a rest =>
  repeat (any_goals (first | assumption | wp_step))
  exact ⟨_, rfl, hq⟩
end
theorem uC (a v : Value) : checkTypeCall "enumerate" ⟨[a], [(Str.ofString "start", v)]⟩ = pure () := by kernel_rfl
theorem xF (a v : Value) : checkBuiltinCall "enumerate.__new__" ⟨[.type "enumerate", a], [(Str.ofString "start", v)]⟩ = pure () := by kernel_rfl
theorem uI (o a v : Value) : argsOk "object.__init__" ⟨[o, a], [(Str.ofString "start", v)]⟩ := by
 unfold argsOk
 rw [signature?_of (id := "object.__init__") (n := ['_', '_', 't', 'i', 'n', 'i', '_', '_']) (o := ['t', 'c', 'e', 'j', 'b', 'o']) (by kernel_rfl) PySem.F.owner_object]
 kernel_rfl
open AutoSeq1 (wpAny_loadPart') in
set_option maxHeartbeats 4000000 in
theorem tX (l : Addr) (items : Array Value) (n : Nat) (dct : Option Addr) (sl : Array (Option Value)) (t : Tok) :
  Meets (Builtin.«enumerate.__new__» ⟨[.type "enumerate", .ref l], [(Str.ofString "start", .int 1 t)]⟩) (fun _ R s => s.heap.get? l = some { cls := .type "list", dict := dct, data := .seq items n, slots := sl } ∧
   R (.ok (.ret (.ref (s.heap.push { cls := .type "list_iterator", data := .fields #[.ref l, .int 0 0] }).objs.size)))
    { s with heap := (s.heap.push { cls := .type "list_iterator", data := .fields #[.ref l, .int 0 0] }).push { cls := .type "enumerate", data := .fields #[.none, .bool false, .ref s.heap.objs.size, rawInt 1, .none, .none] } }) :=
 .of_wp fun prog w A R s h => by
  obtain ⟨hp, g, d, tk, os⟩ := s
  obtain ⟨hl, h⟩ := h
  have hsub := sub_enumerate
  have hL : Heap.IsList (Shared.heap ⟨hp, g, d, tk, os⟩) l items := ⟨_, hl, rfl, n, rfl⟩
  wp_walk using wpAny_loadPart' hl
  refine wpAny_stack_any fun st => wpAny_pure ?_
  split
  ·rename_i c _ _ _ _ _
   cases (c == Value.type "enumerate")
   ·wp_walk using wpAny_loadPart' hl, wpAny_pyIter_list hL
    exact ⟨_, rfl, h⟩
   ·wp_walk using wpAny_loadPart' hl, wpAny_pyIter_list hL
    exact ⟨_, rfl, h⟩
  ·wp_walk using wpAny_loadPart' hl, wpAny_pyIter_list hL
   exact ⟨_, rfl, h⟩
section
variable {prog : Program} {w : World} {A : Around} {E : Value → Shared → Prop} {s : Shared}
theorem uv {l : Addr} {items : Array Value} {t : Tok} {Q : Value → Shared → Prop} (hL : s.heap.IsList l items)
  (h : ∀ g, IsEnum g (s.heap.objs.size + 1) s.heap.objs.size 1 .none → g.IsListIter s.heap.objs.size l 0 → (∀ b o, s.heap.get? b = some o → g.get? b = some o) → Q (.ref (s.heap.objs.size + 1)) { s with heap := g }) :
  wpAny (model prog w) A (call (.type "enumerate") [.ref l] [(Str.ofString "start", .int 1 t)]) Q E s := by
 obtain ⟨⟨c, dct, dt, sl⟩, hl, hc, n, hd⟩ := hL
 replace hc : c = .type "list" := hc
 replace hd : dt = .seq items n := hd
 subst hc hd
 have hz : (s.heap.push { cls := .type "list_iterator", data := .fields #[.ref l, .int 0 0] }).objs.size = s.heap.objs.size + 1 := Heap.size_push ..
 refine tH (Q1 := fun obj s1 => s1.TypeIs obj "enumerate" ∧ Q obj s1) PySem.F.called_enumerate (uC _ _) (xF _ _) PySem.F.entry_enumerate_new PySem.F.entry_object_init (tX l items n dct sl t) ⟨hl, ?_⟩ fun obj s1 hq =>
  ⟨hq.1, uI _ _ _, _, t7 PySem.F.called_enumerate.init.lookup PySem.F.called_enumerate.made (by decide), hq.1, rfl, hq.2⟩
 show _ ∧ _
 rw [hz]
 have he : IsEnum ((s.heap.push { cls := .type "list_iterator", data := .fields #[.ref l, .int 0 0] }).push { cls := .type "enumerate", data := .fields #[.none, .bool false, .ref s.heap.objs.size, rawInt 1, .none, .none] }) (s.heap.objs.size + 1) s.heap.objs.size 1 .none := by
  have := Heap.get?_push_size (s.heap.push { cls := .type "list_iterator", data := .fields #[.ref l, .int 0 0] }) (o := { cls := .type "enumerate", data := .fields #[.none, .bool false, .ref s.heap.objs.size, rawInt 1, .none, .none] }) rfl
  rw [hz] at this
  exact this
 exact ⟨⟨_, he, rfl⟩, h _ he ⟨_, Heap.get?_push_of_some _ (Heap.get?_push_size _ rfl), rfl, rfl⟩ fun b o q => Heap.get?_push_of_some _ (Heap.get?_push_of_some _ q)⟩
end
theorem zu {prog : Program} {w : World} {A : Around} (hh : A.handled = none) (it l : Addr) (hne : l ≠ it) (items : Array Value) :
  Draws prog w A it [it, l] (items.size + 1) (fun i v => ∃ j, i = j + 1 ∧ items[j]? = some v) (fun i h => ∃ j, i = j + 1 ∧ h.IsListIter it l j ∧ h.IsList l items) where
 live := fun _ _ st => by
  obtain ⟨j, _, st⟩ := st
  exact (Draws.list (prog := prog) (w := w) hh it l hne items).live j _ st
 frame := fun _ _ _ st k => by
  obtain ⟨j, e, st⟩ := st
  exact ⟨j, e, (Draws.list (prog := prog) (w := w) hh it l hne items).frame j _ _ st k⟩
 item := fun i s Q E hi st hQ => by
  obtain ⟨j, rfl, st⟩ := st
  exact (Draws.list (prog := prog) (w := w) hh it l hne items).item j s Q E (by omega) st fun x g t p q r => hQ x g t ⟨j, rfl, p⟩ ⟨j + 1, rfl, q⟩ r
 done := fun s Q E st hE => by
  obtain ⟨j, e, st⟩ := st
  have : j = items.size := by omega
  subst this
  exact (Draws.list (prog := prog) (w := w) hh it l hne items).done s Q E st hE
def Itu (K : PySem.W.Frag) (a : Addr) : It :=
  ⟨fun i H => ∃ xs x, SqL K H a xs ∧ xs[i]? = some x, fun i H x H' => ∃ p y, H p = none ∧ x = .ref p ∧ H' = upd H p (.tup [.int ((i + 1 : Nat) : Int), y]) ∧ ∀ xs, SqL K H a xs → xs[i]? = some y,
   fun i H => ∃ xs, SqL K H a xs ∧ xs.length ≤ i⟩
theorem yl {prog : Program} {w : World} {A : Around} {E : Value → Shared → Prop} {s : Shared} {e it l : Addr} {i : Nat} {k : Int} {items : Array Value} {old : Value} {Q : Option Value → Shared → Prop} (hh : A.handled = none)
  (he : IsEnum s.heap e it k old) (hit : s.heap.IsListIter it l i) (hl : s.heap.IsList l items) (hx : items[i]? = none) (hQ : ∀ g, Heap.ExtBut it s.heap g → Q none { s with heap := g }) : wpAny (model prog w) A (pyNext (.ref e)) Q E s := by
 have hT : s.TypeIs (.ref e) "enumerate" := ⟨_, he, rfl⟩
 unfold pyNext
 refine wpAny_bind (wpAny_attempt (wpAny_callSpecial?_slot (name := Str.ofString "__next__") hT PySem.F.slot_enumerate_next
  (wpAny_call_entry PySem.F.slot_enumerate_next hT PySem.F.entry_enumerate_next ?_ (PySem.F.args_enumerate_next_1 _))))
 show wpAny _ _ (field (.ref e) 2 >>= _) _ _ _
 refine wpAny_bind (wpAny_field he rfl (x := .ref it) rfl ?_)
 refine wpAny_bind (wpAny_nextOf_list_end hh hit hl hx fun g x hg hx' => ?_)
 obtain ⟨o, ho, hc⟩ := hx'
 refine wpAny_bind (wpAny_isInstance (T := "StopIteration") (b := true) ⟨o, ho, hc⟩ isSubtype_stop ?_)
 exact wpAny_pure (hQ _ hg)
theorem lC {h : Heap} {a b : Addr} {o u : Obj} (ho : h.get? a = some o) (hu : h.get? b = some u) (hc : o.cls ≠ u.cls) : a ≠ b := by
 rintro rfl
 rw [ho] at hu
 cases hu
 exact hc rfl
theorem uM {P : Program} {w : World} {K : PySem.W.Frag} {elts : List Expr} {x1 : Nat} {tpos : Pos} (a e it : Addr) (hne : e ≠ it) :
  Turn P w K (.Tuple elts x1 tpos) (Itu K a) [e, it] e (fun i h => (∃ old, IsEnum h e it ((i + 1 : Nat) : Int) old) ∧ h.IsListIter it a i) where
 mem := by simp
 obj := fun i h st b hb => by
  obtain ⟨⟨old, he⟩, o, ho, hc, hd⟩ := st
  rcases List.mem_cons.mp hb with rfl | hb
  ·exact ⟨_, he, fun v z => by cases z⟩
  ·rw [List.mem_singleton.mp hb]
   exact ⟨o, ho, fun v z => by rw [hd] at z; cases z⟩
 keep := fun i h h' st k => by
  obtain ⟨⟨old, he⟩, st⟩ := st
  exact ⟨⟨old, k e (by simp) _ he⟩, st.at fun o q => k it (by simp) o q⟩
 item := by
  intro X hP hw hK hc i pins s σ H E I hf st hg
  subst hP hw hK
  obtain ⟨xs, x, hq, hx⟩ := hg
  obtain ⟨its, rv, p, hz⟩ := I.list hq
  obtain ⟨u, hu, ru⟩ := rv.get hx
  obtain ⟨⟨old, he⟩, st⟩ := st
  obtain ⟨oi, hoi, hci, _⟩ := id st
  obtain ⟨ol, hol, hcl, _⟩ := id p.isList
  have nai : a ≠ it := lC hol hoi (by rw [hcl, hci]; decide)
  have nae : e ≠ a := lC he hol (by rw [hcl]; show Value.type "enumerate" ≠ Value.type "list"; decide)
  have hlt : i < its.length := (List.getElem?_eq_some_iff.mp hu).1
  refine wpAny_pyNext_enum_itemD (zu (A := X.A.in1) (I.ok.hd hc) it a nai its.toArray) he ⟨i, rfl, st, p.isList⟩ (by simpa using hlt) hne (by simp [hne, nae]) fun u' h1 tk hP heo hit1 ht1 hz1 hk1 => ?_
  obtain ⟨j, hj, hu'⟩ := hP
  have ej : j = i := by omega
  subst ej
  have eu : u' = u := by
   have : its[j]? = some u' := by simpa using hu'
   rw [hu] at this
   exact (Option.some.inj this).symm
  subst eu
  obtain ⟨j', hj', hit1, _⟩ := hit1
  have ej' : j' = j + 1 := by omega
  subst ej'
  refine ⟨_, rfl, wpAny_letOwnedTupleGo_enum heo fun h2 he2 hs2 => ?_⟩
  have ee : e < s.heap.objs.size := Heap.lt_size he
  have g2 : h2.get? s.heap.objs.size = some { cls := .type "tuple", data := .seq #[.int ((j + 1 : Nat) : Int) tk, u'] } := (hs2.2 _ (Nat.ne_of_gt ee)).trans ht1
  have kk : ∀ b o, b ≠ e → b ≠ it → s.heap.get? b = some o → h2.get? b = some o := fun b o h3 h4 q => (hs2.2 b h3).trans (hk1 b o h3 h4 q)
  have new : cU X.prog X.w (upd H s.heap.objs.size (.tup [.int ((j + 1 : Nat) : Int), x])) h2 s.heap.objs.size (.tup [.int ((j + 1 : Nat) : Int), x]) :=
   ⟨(by show 2 ≤ sizeLine; decide), [.int ((j + 1 : Nat) : Int) tk, u'], .cons ⟨_, rfl⟩ (.cons ru .nil), _, g2, rfl, _, rfl⟩
  have I2 := I.turn2 (h' := h2) (t' := tk + 1) (hf e (by simp)) (hf it (by simp)) kk (Nat.le_refl _) new
  have hn : H s.heap.objs.size = none := I.hok.fresh (Nat.le_refl _)
  refine ⟨.ref s.heap.objs.size, _, I2, rfl, ⟨_, x, hn, rfl, rfl, fun ys hy => by rw [I.list_inj hy hq]; exact hx⟩, ⟨⟨u', by simpa using he2⟩, hit1.extBut hs2.extBut (Ne.symm hne)⟩, fun b hb => ?_⟩
  have hbn := (hf b hb).1
  have hbs : b ≠ s.heap.objs.size := by
   rcases List.mem_cons.mp hb with rfl | hb
   ·exact Nat.ne_of_lt ee
   ·rw [List.mem_singleton.mp hb]
    exact Nat.ne_of_lt (Heap.lt_size hoi)
  rw [aG hbs]
  exact hbn
 done := by
  intro X hP hw hK hc i pins s σ H E I hf st hg
  subst hP hw hK
  obtain ⟨xs, hq, hx⟩ := hg
  obtain ⟨its, rv, p, hz⟩ := I.list hq
  obtain ⟨f0, f1, f2, f3, f4, f5⟩ := hf it (by simp)
  obtain ⟨⟨old, he⟩, st⟩ := st
  have hl := rv.length
  obtain ⟨oi, hoi, hci, _⟩ := id st
  obtain ⟨ol, hol, hcl, _⟩ := id p.isList
  have nai : a ≠ it := lC hol hoi (by rw [hcl, hci]; decide)
  refine yl (I.ok.hd hc) he st p.isList (by simp; omega) fun h' eb => ⟨rfl, I.turned (t' := s.toks) (fun b o hb e => eb b o hb e) f0 f1 f3 f4 f5⟩
 self := fun _ _ _ _ _ st h => by
  obtain ⟨⟨old, he⟩, _⟩ := st
  exact wpAny_pyIter_enum he h
section
variable {M : Model} {A : Around} {E : Value → Shared → Prop} {s : Shared} {env : Env}
theorem oh {pos : Pos} {T : String} {e : Expr} {rest : List Expr} {kws : List Keyword} {Q : Value → Shared → Prop}
  (h : wpAny M A (spliced (backTo pos (starEach (e :: rest) env))) (fun vs s1 => wpAny M A (evalAll ((backToKw pos (keywordEach kws env)).map (·.2)))
   (fun ws s2 => wpAny M A (call (.type T) vs (((backToKw pos (keywordEach kws env)).filterMap (·.1)).zip ws)) Q E s2) E s1) E s)
  (he : backTo pos (starEach (e :: rest) env) = (false, eval e env) :: backTo pos (starEach rest env) := by rfl) (hp : (backTo pos (starEach (e :: rest) env)).any (·.1) = false := by rfl)
  (hall : (backToKw pos (keywordEach kws env)).all (·.1.isSome) = true := by rfl) (hkw : (backToKw pos (keywordEach kws env)).any (·.1.isNone) = false := by rfl) :
  wpAny M A (callWith pos (.type T) [] (backTo pos (starEach (e :: rest) env)) (backToKw pos (keywordEach kws env))) Q E s := by
 unfold callWith
 have h2 : wpAny M A (evalArgs (.type T) true (backTo pos (starEach (e :: rest) env)) (backToKw pos (keywordEach kws env))) (fun a s1 => wpAny M A (call (.type T) ([] ++ a.pos) a.kw) Q E s1) E s := by
  rw [he] at h ⊢
  exact PyProof.Rows.evalArgs_kwB hall h
 refine wpAny_bind (wpAny_holding (thn h2 fun a s1 h1 => wpAny_bind (wpAny_standAt ?_)))
 simp only [hp, hkw, Bool.or_false]
 refine wpAny_bind (wpAny_pure ?_)
 exact wpAny_bind (thn h1 fun r s2 hr => wpAny_bind (wpAny_holding (wpAny_point (wpAny_pure hr))))
end
section
variable {X : Cx}
def Aq (K : PySem.W.Frag) (ta : TA) (td : TE) : TI := fun σ H R => ta σ H fun vs H1 => td σ H1 fun d H2 => ∃ a xs, d = .int 1 ∧ vs = [.ref a] ∧ SqL K H2 a xs ∧ R (Itu K a) H2
theorem tU {a d : Expr} {ta : TA} {td : TE} {p pos kpos : Pos} {elts : List Expr} {x1 : Nat} {tpos : Pos} (hg : Gl X "enumerate") (hm : X.mg "enumerate" = none) (ha : PA X [a] ta) (hd : PE X d td)
  (he : backTo pos (starEach [a] X.env) = (false, eval a X.env) :: backTo pos (starEach [] X.env) := by rfl) (hpl : (backTo pos (starEach [a] X.env)).any (·.1) = false := by rfl)
  (hks : (backToKw pos (keywordEach [⟨some (Str.ofString "start"), d, kpos⟩] X.env)).filterMap (·.1) = [Str.ofString "start"] := by rfl)
  (hall : (backToKw pos (keywordEach [⟨some (Str.ofString "start"), d, kpos⟩] X.env)).all (·.1.isSome) = true := by rfl)
  (hkw : (backToKw pos (keywordEach [⟨some (Str.ofString "start"), d, kpos⟩] X.env)).any (·.1.isNone) = false := by rfl) :
  PI X (.Tuple elts x1 tpos) (.Call (.Name "enumerate" p) [a] [⟨some (Str.ofString "start"), d, kpos⟩] pos) (Aq X.K ta td) := by
 intro pins s σ H R I h
 refine wpAny_Call_Name_kw (dG I hg hm boot_enumerate ?_)
 refine oh (thn (ha pos pins s σ H _ I h) fun us s1 ⟨vs, H1, I1, r1, q1⟩ => ?_) he hpl hall hkw
 show wpAny _ _ (evalAll ((do let v ← eval d X.env; standAt pos; pure v) :: [])) _ _ s1
 refine wpAny_evalAll_cons (wpAny_bind (thn (hd pins s1 σ H1 _ I1 q1) fun dv s2 ⟨x, H2, I2, rd, q2⟩ => wpAny_bind (wpAny_standAt (wpAny_pure (wpAny_evalAll_nil ?_)))))
 obtain ⟨b, xs, rfl, rfl, hq, q⟩ := q2
 obtain ⟨u, rfl, rx⟩ := vals1 r1
 cases rx
 obtain ⟨td', rfl⟩ := rd
 rw [hks]
 obtain ⟨its, rv, pl, hz⟩ := I2.list hq
 refine uv pl.isList fun g he2 hit hk => ?_
 refine wpAny_pyIter_enum he2 ?_
 have I3 : Inv X pins σ H2 { s2 with heap := g } := I2.kept (t' := s2.toks) hk
 have ne : s2.heap.objs.size + 1 ≠ s2.heap.objs.size := by omega
 refine ⟨s2.heap.objs.size + 1, [s2.heap.objs.size + 1, s2.heap.objs.size], _, Itu X.K b, H2, rfl, I3, uM b _ _ ne, ⟨⟨_, he2⟩, hit⟩, fun c hc => ?_, q⟩
 have hle : s2.heap.objs.size ≤ c := by
  rcases List.mem_cons.mp hc with rfl | hc
  ·omega
  ·rw [List.mem_singleton.mp hc]
   omega
 exact I2.fpOk hle (I2.hok.fresh hle)
end
theorem qi {K : PySem.W.Frag} {a : Addr} {xs : List V} {g : TG} {tb : TS} {D : Ends} {σ : St} {H : Hp} (Pv : Nat → St → Hp → Prop) (h0 : Pv 0 σ H) (hl : ∀ i σ H, i ≤ xs.length → Pv i σ H → SqL K H a xs)
  (hs : ∀ i x σ H p, xs[i]? = some x → Pv i σ H → H p = none → g (.ref p) σ (upd H p (.tup [.int ((i + 1 : Nat) : Int), x])) fun σ2 H2 => tb { D with nx := Pv (i + 1), ct := Pv (i + 1), bk := D.nx } σ2 H2) (hd : ∀ σ H, Pv xs.length σ H → D.nx σ H) :
  ∃ W : Nat → Nat → St → Hp → Prop, (∃ m, W 0 m σ H) ∧ ∀ i m σ H, W i m σ H →
   ((Itu K a).stop i H ∧ D.nx σ H) ∨ ((Itu K a).go i H ∧ ∃ N : St → Hp → Prop, (∀ σ' H', N σ' H' → ∃ m', m' < m ∧ W (i + 1) m' σ' H') ∧ ∀ x H', (Itu K a).yld i H x H' → g x σ H' fun σ2 H2 => tb { D with nx := N, ct := N, bk := D.nx } σ2 H2) := by
 refine ⟨fun i m σ H => m = xs.length - i ∧ i ≤ xs.length ∧ Pv i σ H, ⟨xs.length, by simp, Nat.zero_le _, h0⟩, ?_⟩
 rintro i m σ H ⟨rfl, hi, p⟩
 have q := hl i σ H hi p
 by_cases hlt : i < xs.length
 ·refine .inr ⟨⟨xs, xs[i], q, by simp [hlt]⟩, Pv (i + 1), fun σ' H' p' => ⟨xs.length - (i + 1), by omega, rfl, hlt, p'⟩, fun x H' y => ?_⟩
  obtain ⟨c, y, hn, e1, e2, hy⟩ := y
  subst e1 e2
  exact hs i y σ H c (hy xs q) p hn
 ·have e : i = xs.length := by omega
  subst e
  exact .inl ⟨⟨xs, q, Nat.le_refl _⟩, hd σ H p⟩
end L2
set_option Elab.async false
set_option linter.all false
set_option maxRecDepth 100000
set_option maxHeartbeats 4000000
namespace L2
open PySem PySem.Spec PyProof.Rows
mutual
inductive nC (K : PySem.W.Frag) (H : Hp) : V → PyData → Prop where
 | non : nC K H .non .none
 | bl (b : Bool) : nC K H (.bl b) (.bool b)
 | int (i : Int) : nC K H (.int i) (.int i)
 | str (x : Str) : nC K H (.str x) (.str x)
 | lst {a : Addr} {xs : List V} {ds : List PyData} (h : SqL K H a xs) (r : je K H xs ds) : nC K H (.ref a) (.list ds)
 | tup {a : Addr} {xs : List V} {ds : List PyData} (h : SqT K H a xs) (r : je K H xs ds) : nC K H (.ref a) (.tuple ds)
inductive je (K : PySem.W.Frag) (H : Hp) : List V → List PyData → Prop where
 | nil : je K H [] []
 | cons {x : V} {xs : List V} {d : PyData} {ds : List PyData} (h : nC K H x d) (r : je K H xs ds) : je K H (x :: xs) (d :: ds)
end
section
variable {X : Cx} {pins : List (Addr × Obj)} {σ : St} {H : Hp} {s : Shared}
mutual
theorem nC.reads (I : Inv X pins σ H s) {x : V} {d : PyData} {u : Value} : nC X.K H x d → RelV x u → ∃ as, Reads s.heap u d as
 | .non, r => ⟨_, by cases (show u = Value.none from r); exact .none⟩
 | .bl b, r => ⟨_, by cases (show u = Value.bool b from r); exact .bool b⟩
 | .int i, r => by
  obtain ⟨t, rfl⟩ := r
  exact ⟨_, .int i t⟩
 | .str y, r => by
  obtain ⟨t, rfl⟩ := r
  exact ⟨_, .str y t⟩
 | .lst (a := a) h q, r => by
  cases (show u = Value.ref a from r)
  obtain ⟨its, rv, p, _⟩ := I.list h
  obtain ⟨as, ra⟩ := je.reads I q rv
  obtain ⟨o, n, e, c, _, d⟩ := p
  exact ⟨_, .list e c d (by simpa using ra)⟩
 | .tup (a := a) h q, r => by
  cases (show u = Value.ref a from r)
  obtain ⟨its, rv, p, _⟩ := I.tuple h
  obtain ⟨as, ra⟩ := je.reads I q rv
  obtain ⟨o, e, c, n, d⟩ := p
  exact ⟨_, .tuple e c d (by simpa using ra)⟩
theorem je.reads (I : Inv X pins σ H s) {xs : List V} {ds : List PyData} {us : List Value} : je X.K H xs ds → Vals xs us → ∃ as, ReadsAll s.heap us ds as
 | .nil, r => by
  cases r
  exact ⟨_, .nil⟩
 | .cons h q, r => by
  cases r with
  | cons r1 r2 =>
   obtain ⟨as, ra⟩ := nC.reads I h r1
   obtain ⟨bs, rb⟩ := je.reads I q r2
   exact ⟨_, .cons ra rb⟩
end
end
def CP (K : PySem.W.Frag) : R2 := fun x y H Q => ∃ (a b : Addr) (ns ms : List Int), x = .ref a ∧ y = .ref b ∧ SqL K H a (ns.map V.int) ∧ SqL K H b (ms.map V.int) ∧ Q (.bl (decide (ns = ms))) H
def CZ (K : PySem.W.Frag) : R2 := fun x y H Q => ∃ d1 d2 : PyData, nC K H x d1 ∧ nC K H y d2 ∧ SeqAt.shaped d1 = true ∧ SeqAt.shaped d2 = true ∧ Q (.bl (PyData.eqv d1 d2)) H
section
variable {X : Cx}
theorem uG (hu : X.A.units + 64 < cLine) : OpR X (compareOp .Eq) (fun x y H Q => CP X.K x y H Q ∨ CZ X.K x y H Q) := by
 intro pins s σ H x y u v Q I rx ry h
 rcases h with ⟨a, b, ns, ms, rfl, rfl, ha, hb, q⟩ | ⟨d1, d2, h1, h2, e1, e2, q⟩
 ·cases (show u = Value.ref a from rx)
  cases (show v = Value.ref b from ry)
  obtain ⟨us, r1, p1, _⟩ := I.list ha
  obtain ⟨ws, r2, p2, _⟩ := I.list hb
  exact PySem.W.ke_eq_ints p1.isList p2.isList (intsAre_of r1) (intsAre_of r2) hu ⟨.bl _, H, I, rfl, q⟩
 ·obtain ⟨as, ra⟩ := h1.reads I rx
  obtain ⟨bs, rb⟩ := h2.reads I ry
  exact eq_dataH ra rb e1 e2 hu ⟨.bl _, H, I, rfl, q⟩
end
end L2
set_option Elab.async false
set_option linter.all false
set_option maxRecDepth 100000
set_option maxHeartbeats 4000000
namespace Tw
open PySem L2
theorem wK {lo : Int} {n : Nat} {cap : L2.St} {tt : TT} {te : TE} {Qf : Addr → Hp → Prop} {H : Hp} (f : Nat → Int) (hl : n < sizeLine)
  (htt : ∀ (z : Int) (H' : Hp) (Q : Bool → Hp → Prop), Q true H' → tt (some (.int z) :: cap) H' Q) (hte : ∀ (i : Nat) (H' : Hp) (Q : VK), i < n → aR H H' → Q (.int (f i)) H' → te (some (.int (lo + i)) :: cap) H' Q)
  (q : ∀ D, H D = none → Qf D (upd H D (.lst (((List.range n).map f).map V.int)))) : o4 (Itr lo n) cap tt te Qf H := by
 intro D hD
 refine ⟨fun i m ys H1 => m = n - i ∧ i ≤ n ∧ ys = ((List.range i).map f).map V.int ∧ H1 = upd H D (.lst ys), ⟨_, rfl, Nat.zero_le _, rfl, rfl⟩, ?_⟩
 rintro i m ys H1 ⟨rfl, hi, rfl, rfl⟩
 by_cases hlt : i < n
 ·refine .inr ⟨hlt, fun v H2 y => ?_⟩
  obtain ⟨rfl, rfl⟩ := y
  refine htt _ _ _ ?_
  rw [if_pos rfl]
  refine hte i _ _ hlt (au hD _) ⟨ak, ?_, n - (i + 1), by omega, rfl, hlt, ?_, ?_⟩
  ·rw [List.length_map, List.length_map, List.length_range]
   omega
  ·rw [List.range_succ, List.map_append, List.map_append]
   rfl
  ·rw [qQ]
 ·have e : i = n := by omega
  subst e
  exact .inl ⟨Nat.le_refl _, q D hD⟩
theorem Aw {H : Hp} {a : Addr} {o : HO} (h : H a = some o) : upd H a o = H := funext fun b => by
 by_cases e : b = a
 ·rw [e, ak, h]
 ·rw [aG e]
end Tw
namespace Tw
open PySem L2
theorem vg {c A : Prop} [Decidable c] {D : Ends} {σ : St} {H : Hp} (R : St → Hp → Prop) (hR : R σ H) (h : ∀ σ' H', R σ' H' → D.nx σ' H') (hA : c → (∀ σ' H', R σ' H' → D.nx σ' H') → A) : if c then A else yt D σ H := by
 by_cases q : c
 ·rw [if_pos q]
  exact hA q h
 ·rw [if_neg q]
  exact h _ _ hR
theorem vK {c A : Prop} [Decidable c] {D : Ends} {σ : St} {H : Hp} (R : St → Hp → Prop) (hR : ¬ c → R σ H) (h : ∀ σ' H', R σ' H' → D.nx σ' H') (hA : c → (∀ σ' H', R σ' H' → D.nx σ' H') → A) : if c then A else yt D σ H := by
 by_cases q : c
 ·rw [if_pos q]
  exact hA q h
 ·rw [if_neg q]
  exact h _ _ (hR q)
theorem jV {t : TA} {i : Nat} {k : Int} {xs : List V} {σ : St} {H : Hp} {Q : VK} (ht : ∀ Q' : List V → Hp → Prop, Q' xs H → t σ H Q') (e : σ[i]? = some (some (.int k))) (hk : k ≤ 100000) (hx : xs.length ≤ 2) (h0 : -100000 ≤ k)
  (q : ∀ p H', H p = none → aR H H' → H' p = some (.lst (List.replicate k.toNat xs).flatten) → Q (.ref p) H') : tOp zf (zB t) (Be i) σ H Q := by
 refine ht _ ⟨by rw [sizeLine_eq]; omega, fun p hp => ⟨_, e, p, k, xs, rfl, rfl, ak, by omega, by omega, ?_, fun r hr => q r _ ((au hp _).free hr) ((au hp _).trans (au hr _)) ak⟩⟩
 rw [sizeLine_eq]
 have : k.toNat ≤ 100000 := by omega
 have := Nat.mul_le_mul hx this
 omega
theorem yj (k : Nat) (ns : List Int) : (List.replicate k (ns.map V.int)).flatten = (List.replicate k ns).flatten.map V.int := by
 induction k with
 | zero => rfl
 | succ k ih => rw [List.replicate_succ, List.flatten_cons, ih, List.replicate_succ, List.flatten_cons, List.map_append]
end Tw
namespace L2
open PySem PySem.Spec PyProof.Rows PySem.W
section
variable {X : Cx}
end
end L2
namespace Tw
open PySem L2
end Tw
namespace Tw
open PySem L2
end Tw
set_option Elab.async false
set_option linter.all false
set_option maxRecDepth 100000
set_option maxHeartbeats 4000000
namespace L2
open PySem PySem.Spec PyProof.Rows
theorem cU.ex {P : Program} {w : World} {H : Hp} {h : Heap} {a : Addr} {o : HO} (x : cU P w H h a o) : ∃ ob, h.get? a = some ob := by
 induction o with
 | lst xs => obtain ⟨z, its, n, r, e⟩ := x; exact ⟨_, e⟩
 | tup xs => obtain ⟨z, its, r, ob, e, c⟩ := x; exact ⟨_, e⟩
 | dK kvs => obtain ⟨z, y, vs, r, ob, es, ep, e, c⟩ := x; exact ⟨_, e⟩
 | dT kvs => obtain ⟨z, y, xs, r, ob, es, ep, e, c⟩ := x; exact ⟨_, e⟩
 | set S n => obtain ⟨ob, es, ep, t, e, c⟩ := x; exact ⟨_, e⟩
 | ins C dx fs => obtain ⟨d, z, ne, e, _⟩ := x; exact ⟨_, e⟩
 | own y => exact x
 | xd fs => obtain ⟨mA, ⟨od, es, ep, e, c⟩, r⟩ := x; exact ⟨_, e⟩
 | rng lo hi => obtain ⟨t, u, v, e⟩ := x; exact ⟨_, e⟩
 | frz ob u ih => exact ⟨_, x.1⟩
 | tbl ps => exact ⟨_, x⟩
 | met f y => exact ⟨_, x⟩
 | ext φ => exact x.2.1
structure Cov (B : Heap) (fs : List Addr) (H H' : Hp) (h : Heap) : Prop where
 old : ∀ b o, h.get? b = some o → b ∉ fs → ∃ o', B.get? b = some o' ∧ (H b = none → o' = o)
 trk : ∀ b u, H' b = some u → ∃ o, B.get? b = some o
def CX1 (P : Program) (w : World) : CXT := fun outer H s E e s' => ∃ (ea C t : Addr) (B : Heap) (H' : Hp), e = .ref ea ∧ s'.os = s.os ∧ AllBare s'.gens ∧ Un (frs outer) [] H H' s.heap s'.heap ∧ HOk P w H' s'.heap ∧
  Heap.FlyingW B outer ea (.ref C) (.ref t) s'.heap ∧ Cov B (frs outer) H H' s.heap ∧ E (.ref C) none H'
section
variable {P : Program} {w : World} {K : PySem.W.Frag} {mg : Str → Option Value} {base : Heap} {N : List Str} {qual : Str} {scope : Scope} {f : Addr} {cd : Value} {A : Around} {outer : List Env} {s0 : Shared} {H0 : Hp} {E : XK}
abbrev X1 (P : Program) (w : World) (K : PySem.W.Frag) (mg : Str → Option Value) (base : Heap) (N : List Str) (qual : Str) (scope : Scope) (f : Addr) (cd : Value) (A : Around) (outer : List Env) (s0 : Shared) (H0 : Hp) (E : XK) : Cx :=
 fM (CX1 P w) P w K mg base N qual scope f cd A outer s0 H0 E
theorem young {b : Addr} {o : Obj} (q : s0.heap.get? b = some o) (hb : b ∉ frs outer) : b ∉ frs (envOfC qual scope s0.heap.objs.size f cd :: outer) := fun z => by
 have z' : b ∈ s0.heap.objs.size :: frs outer := z
 rcases List.mem_cons.mp z' with e | e
 ·exact absurd (Heap.lt_size q) (by rw [e]; exact Nat.lt_irrefl _)
 ·exact hb e
theorem raised {pins : List (Addr × Obj)} {σ : St} {H : Hp} {s : Shared} {h1 : Heap} {ea C : Addr} {vs : List Value} (I : Inv (X1 P w K mg base N qual scope f cd A outer s0 H0 E) pins σ H s) (m : Heap.MadeExcOf s.heap h1 ea (.ref C) vs) (q : E (.ref C) none H) :
  (X1 P w K mg base N qual scope f cd A outer s0 H0 E).xe (.ref ea) { s with heap := h1 } := by
 have stk : s.heap.FunFrames base (envOfC qual scope s0.heap.objs.size f cd :: outer) := I.stack
 have hin : ∀ env ∈ (envOfC qual scope s0.heap.objs.size f cd :: outer), ∀ b, env.frame = some b → b ∈ frs (envOfC qual scope s0.heap.objs.size f cd :: outer) := fun env he b hb => List.mem_filterMap.mpr ⟨env, he, hb⟩
 have U : Un (frs outer) [] H0 H s0.heap s.heap := I.base
 have nofr : ∀ b u, H b = some u → b ∉ frs (envOfC qual scope s0.heap.objs.size f cd :: outer) := fun b u e z => by
  have := I.stkFree b z
  rw [this] at e
  cases e
 have inB : ∀ b o, s.heap.get? b = some o → b ∉ frs (envOfC qual scope s0.heap.objs.size f cd :: outer) → (PySem.W.hideAll s.heap (frs (envOfC qual scope s0.heap.objs.size f cd :: outer))).get? b = some o := fun b o e n => PySem.W.hideAll_get _ e n
 show wpAny _ _ (leaving _ _) _ _ _
 refine wpAny_leaves_madeW (base := PySem.W.hideAll s.heap (frs (envOfC qual scope s0.heap.objs.size f cd :: outer))) I.ok.frames rfl (fun b o e => PySem.W.of_hideAll _ e) (PySem.W.funFrames_hide stk hin) m fun h2 t x1 x2 x3 x4 => ?_
 have kept := x1.1
 have fr : ∀ b o, s.heap.get? b = some o → b ∈ frs outer → ∃ sl, h2.get? b = some { o with slots := sl } := fun b o e hb => by
  obtain ⟨_, o', ho', nf⟩ := stk.mem (b := b) (List.mem_cons_of_mem _ hb)
  rw [e] at ho'
  cases ho'
  exact x4 b o (m.keeps _ _ e) nf
 refine ⟨ea, C, t, _, H, rfl, I.os, I.bare, ⟨fun b o e n hb hx => ?_, fun b o e n hb hx => ?_, U.free, fun b o e hx => ?_, U.tups, U.frzs, U.tbls⟩, fun b u e => ?_, x1, ⟨fun b o e hb => ?_, fun b u e => ?_⟩, q⟩
 ·exact kept b o (inB b o (U.keep b o e n hb hx) (young e hb))
 ·obtain ⟨sl, e1⟩ := U.slot b o e n hb hx
  obtain ⟨sl', e2⟩ := fr b _ e1 hb
  exact ⟨sl', e2⟩
 ·obtain ⟨o1, e1⟩ := U.there b o e hx
  by_cases hb : b ∈ frs outer
  ·obtain ⟨sl, e2⟩ := fr b _ e1 hb
   exact ⟨_, e2⟩
  ·exact ⟨o1, kept b o1 (inB b o1 e1 (young e hb))⟩
 ·refine (I.hok b u e).stay (fun c o hc e1 => kept c o (inB c o e1 ?_)) (fun _ r => r) fun _ _ r => r
  rcases hc with rfl | hc
  ·exact nofr _ _ e
  ·exact nofr _ _ hc
 ·obtain ⟨o1, e1⟩ := U.there b o e (by simp)
  refine ⟨o1, inB b o1 e1 (young e hb), fun n => ?_⟩
  have := U.keep b o e n hb (by simp)
  rw [e1] at this
  exact Option.some.inj this
 ·obtain ⟨o, e1⟩ := (I.hok b u e).ex
  exact ⟨o, inB b o e1 (nofr b u e)⟩
theorem bY : il (CX1 P w) (X1 P w K mg base N qual scope f cd A outer s0 H0 E) E := by
 intro pins σ H s e s' I h
 obtain ⟨ea, C, t, B, H', rfl, os, bare, un, hok, fl, cov, q⟩ := h
 have U : Un (frs outer) [] H0 H s0.heap s.heap := I.base
 show wpAny _ _ (leaving _ _) _ _ _
 refine wpAny_leaves_onW (base := B) I.ok.frames rfl fl fun h2 x1 x2 => ?_
 have kept := x1.1
 have fr : ∀ b o, s'.heap.get? b = some o → b ∈ frs outer → ∃ sl, h2.get? b = some { o with slots := sl } := fun b o e hb => by
  obtain ⟨_, o', ho', nf⟩ := fl.2.2.1.mem (b := b) (List.mem_cons_of_mem _ hb)
  rw [e] at ho'
  cases ho'
  exact x2 b o e nf
 refine ⟨ea, C, t, B, H', rfl, os.trans I.os, bare, ⟨fun b o e n hb hx => ?_, fun b o e n hb hx => ?_, fun b o e n hx => ?_, fun b o e hx => ?_, fun b xs e => un.tups b xs (U.tups b xs e), fun b o u e => un.frzs b o u (U.frzs b o u e), fun b ps e => ?_⟩, fun b u e => ?_, x1, ⟨fun b o e hb => ?_, cov.trk⟩, q⟩
 ·obtain ⟨o', e2, z⟩ := cov.old b o (U.keep b o e n hb hx) (young e hb)
  rw [z (U.free b o e n hx)] at e2
  exact kept b o e2
 ·obtain ⟨sl, e1⟩ := U.slot b o e n hb hx
  obtain ⟨sl', e2⟩ := un.slot b _ e1 (U.free b o e n hx) (List.mem_cons_of_mem _ hb) hx
  obtain ⟨sl2, e3⟩ := fr b _ e2 hb
  exact ⟨sl2, e3⟩
 ·obtain ⟨o1, e1⟩ := U.there b o e hx
  exact un.free b o1 e1 (U.free b o e n hx) hx
 ·obtain ⟨o1, e1⟩ := U.there b o e hx
  by_cases hb : b ∈ frs outer
  ·obtain ⟨o2, e2⟩ := un.there b o1 e1 hx
   obtain ⟨sl, e3⟩ := fr b _ e2 hb
   exact ⟨_, e3⟩
  ·obtain ⟨o', e2, _⟩ := cov.old b o1 e1 (young e hb)
   exact ⟨o', kept b o' e2⟩
 ·obtain ⟨m1, e1⟩ := U.tbls b ps e
  obtain ⟨m2, e2⟩ := un.tbls b _ e1
  exact ⟨m1 ++ m2, by rw [e2, Array.append_assoc]⟩
 ·refine (hok b u e).stay (fun c o hc e1 => ?_) (fun _ r => r) fun _ _ r => r
  have ht : ∃ o, B.get? c = some o := by
   rcases hc with rfl | hc
   ·exact cov.trk _ _ e
   ·exact cov.trk _ _ hc
  obtain ⟨o1, e2⟩ := ht
  have := fl.1 c o1 e2
  rw [e1] at this
  cases this
  exact kept c o e2
 ·obtain ⟨o1, e1⟩ := U.there b o e (by simp)
  obtain ⟨o', e2, z⟩ := cov.old b o1 e1 (young e hb)
  refine ⟨o', e2, fun n => ?_⟩
  have := U.keep b o e n hb (by simp)
  rw [e1] at this
  rw [z (U.free b o e n (by simp))]
  exact Option.some.inj this
theorem zF : PassesOwn (model P w) (X1 P w K mg base N qual scope f cd A outer s0 H0 E).A (X1 P w K mg base N qual scope f cd A outer s0 H0 E).env (X1 P w K mg base N qual scope f cd A outer s0 H0 E).xe := PassesOwn.leaving
end
section
variable {P : Program} {w : World} {K : PySem.W.Frag} {mg : Str → Option Value} {base : Heap}
theorem Fun.ok1 {x qual : Str} {st : Stmt} {f : Addr} {fd : FuncData} {N ps : List Str} {k : Nat} {sp : Sp} (F : Fun K x qual st f fd) (S : aD N ps (defScope st)) (len : ∀ vs H Q E, sp vs H Q E → vs.length = ps.length)
  (hbody : ∀ (cdv : Value) (A : Around) (outer : List Env) (s : Shared) (H : Hp) (vs : List V) (Q : VK) (E : XK), cL k (A.deeper (envOfC qual (defScope st) s.heap.objs.size f cdv)) → sp vs H Q E →
   ∃ t, PSs (X1 P w K mg base N qual (defScope st) f cdv A outer s H E) (defBody st) t ∧ t { nx := fun _ H' => Q .non H', rt := Q } (start N vs) H) : bh P w K mg base (CX1 P w) (k + 1) f fd ps sp := by
 obtain ⟨oc, od, kV, doc, pm, an, cdv, ct, osl, rfl, lk, hcd⟩ := F.ex
 exact zY lk hcd S len fun A outer s H vs Q E hr hsp => hbody cdv A outer s H vs Q E hr hsp
end
abbrev bmV : List Value := [.type "ValueError", .type "Exception", .type "BaseException", .type "object"]
structure Exc (K : PySem.W.Frag) (mg : Str → Option Value) (x : Str) (C : Addr) : Prop where
 m : mg x = some (.ref C)
 q : PySem.W.excIn K C bmV "ValueError.__new__" = true
theorem vW {K : PySem.W.Frag} {h : Heap} {C : Addr} (X : K.In h) (q : PySem.W.excIn K C bmV "ValueError.__new__" = true) :
  ∃ bm N nm qn bs hdct sn sub ab col dd k0 k1 k2 k3 k5 mN, h.get? C = some (excClassObj nm qn C N bs bm hdct sn sub ab col dd k0 k1 k2 k3 k5 "ValueError.__new__") ∧ h.Ns N mN ∧ mN "__init__" = none ∧ OwnTail h bmV bm := by
 unfold PySem.W.excIn at q
 split at q
 ·rename_i dd cd sl ho
  split at q
  ·rename_i C' bm k0 k1 k2 k3 n k5 hm hs
   simp only [Bool.and_eq_true, beq_iff_eq, Bool.not_eq_true'] at q
   obtain ⟨⟨⟨⟨⟨rfl, rfl⟩, hdel⟩, ht⟩, hok⟩, hni⟩ := q
   obtain ⟨nm, bs, mro, ns, qn, hd, sn, sub, ab, col, del⟩ := cd
   dsimp only at hm hdel hok hni
   subst hm hdel
   have hsl : sl = #[k0, k1, k2, k3, some (.builtin "ValueError.__new__"), k5] := by
    obtain ⟨l⟩ := sl
    simp only at hs
    rw [hs]
   subst hsl
   exact ⟨bm, ns, nm, qn, bs, hd, sn, sub, ab, col, dd, k0, k1, k2, k3, k5, _, X _ _ ho, .of_isNs (PySem.W.isNs_of_in X hok), PySem.W.nsMap_none_of_in X hok hni, PySem.W.tail_of_in X ht⟩
  ·cases q
 ·cases q
section
variable {P : Program} {w : World} {K : PySem.W.Frag} {mg : Str → Option Value} {base : Heap} {N : List Str} {qual : Str} {scope : Scope} {f : Addr} {cd : Value} {A : Around} {outer : List Env} {s0 : Shared} {H0 : Hp} {E : XK}
def Am (C : Addr) (E : XK) (ta : TA) : TS := fun _ σ H => ta σ H fun vs H1 => vs.length ≤ sizeLine ∧ E (.ref C) none H1
theorem gM {x : Str} {C : Addr} {a : Expr} {ta : TA} {np cpos pos : Pos} (e : Exc K mg x C) (hg : Gl (X1 P w K mg base N qual scope f cd A outer s0 H0 E) x) (ha : PA (X1 P w K mg base N qual scope f cd A outer s0 H0 E) [a] ta)
  (hdb : (x == ("__debug__" : Str)) = false := by decide)
  (he : starEach [a] (X1 P w K mg base N qual scope f cd A outer s0 H0 E).env = [(false, eval a (X1 P w K mg base N qual scope f cd A outer s0 H0 E).env)] := by rfl) :
  PS (X1 P w K mg base N qual scope f cd A outer s0 H0 E) (.Raise (some (.Call (.Name x np) [a] [] cpos)) none pos) (Am C E ta) := by
 intro pins s σ H D I h
 obtain ⟨bm, N', nm, qn, bs, hdct, sn, sub, ab, col, dd, k0, k1, k2, k3, k5, mN, hC, hN, hni, T⟩ := vW I.mod.kin e.q
 refine wpAny_Raise_call_subU (C := C) (nm := nm) (q := qn) (N := N') (bs := bs) (bm := bm) (hdct := hdct) (sn := sn) (sub := sub) (ab := ab) (col := col) (dd := dd) (k0 := k0) (k1 := k1) (k2 := k2) (k3 := k3) (k5 := k5)
  PySem.F.excBase_ValueError PySem.F.excBase_ValueError.hasB PySem.F.excBase_ValueError (mN := mN) (T.hasType PySem.F.excBase_ValueError.hasBase) (I.ok.hd rfl) (by rw [he]; rfl) hni (gW I hg e.m ⟨rfl, ?_⟩ hdb)
 have h2 := ha cpos pins s σ H _ I h
 rw [he] at h2 ⊢
 refine Calls.evalArgs_plain (thn h2 fun us s2 ⟨vs, H2, I2, r2, q1, q2⟩ => ⟨rfl, ?_, I2.bk _ _ hC, hN.keeps I2.bk, T.keeps I2.bk, fun h' ea m => raised I2 m q2⟩)
 rw [← r2.length]
 exact q1
end
def pN (ea C : Addr) : HO := .ext fun h => ∃ o vs, h.get? ea = some o ∧ o.cls = .ref C ∧ o.data = .fields vs
structure kE (K : PySem.W.Frag) (C : Addr) : Prop where
 dct : PySem.W.hasDictIn K C = true
 ga : PySem.W.findIn K (.ref C) "__getattribute__" = some (some (.builtin "BaseException.__getattribute__"))
 nga : PySem.W.findIn K (.ref C) "__getattr__" = some none
 cl : PySem.W.findIn K (.ref C) "__class__" = some (some (.builtin "object.__class__"))
 gt : PySem.W.specialIn K (.builtin "object.__class__") "__get__" = some (some (.builtin "getset_descriptor.__get__"))
 tk : PySem.W.takesIn K (.builtin "object.__class__") = some true
 mo : PySem.W.mroIn K C (.type "object") = some true
 mb : PySem.W.mroIn K C (.type "BaseException") = some true
def Cx.suite (X : Cx) (ea : Addr) : Cx := { X with A := X.A.mark (some (.ref ea)), calm := false, xe := fun _ _ => False }
section
variable {X : Cx} {pins : List (Addr × Obj)} {σ : St} {H : Hp} {s : Shared} {ea : Addr}
theorem Cx.Ok.suite (ok : X.Ok) : (X.suite ea).Ok :=
 ⟨ok.mod, ok.kind, ok.glob, ok.blt, ok.above, ok.inj, ok.has, ok.cab, fun z => absurd z Bool.false_ne_true, ok.frames, ok.stk, ok.exf, ok.bs, ok.bsz, ok.noex, ok.exfs, ok.funs, ok.frf⟩
theorem Inv.suite (I : Inv X pins σ H s) : Inv (X.suite ea) pins σ H s := ⟨I.ok.suite, I.os, I.bare, I.base, I.loc, I.cell, I.free, I.freeC, I.pin, I.hok, I.len⟩
theorem Inv.unsuite (ok : X.Ok) (I : Inv (X.suite ea) pins σ H s) : Inv X pins σ H s := ⟨ok, I.os, I.bare, I.base, I.loc, I.cell, I.free, I.freeC, I.pin, I.hok, I.len⟩
theorem name_goes {M : Model} {A : Around} {E : Value → Shared → Prop} {i : Nat} {n : Str} {pos : Pos} {Q : Unit → Shared → Prop} (I : Inv X pins σ H s) (hN : X.N.Nodup) (hi : X.N[i]? = some n) (hl : X.env.scope.names.lookup n = some .local)
  (h : ∀ s', Inv X pins (σ.set i none) H s' → Q () s') : wpAny M A (do bindName X.env n .none; unbindBehindTheSuite X.env n pos) Q E s := by
 obtain ⟨m, hn, hloc⟩ := id I.loc
 have hcls : (X.env.scope.kind == .class || (X.env.scope.kind == .module && X.env.locals != X.env.globals)) = false := by rw [I.ok.kind]; rfl
 have hiσ : i < σ.length := by rw [I.len]; exact (List.getElem?_eq_some_iff.mp hi).1
 have cne := I.cne
 obtain ⟨oL, _, _, hoL, _⟩ := id hn
 refine wpAny_nameGoes_keeps hl hn hcls fun h' v hn' hs => ?_
 have old : ∀ b o, X.s₀.heap.get? b = some o → b ≠ X.env.locals := fun b o e => Nat.ne_of_lt (Nat.lt_of_lt_of_le (Heap.lt_size e) I.ok.above)
 refine h _ ⟨I.ok, I.os, I.bare, ⟨fun b o e n' hb hx => ?_, fun b o e n' hb hx => ?_, I.base.free, fun b o e hx => ?_, I.base.tups, I.base.frzs, I.base.tbls⟩, ⟨_, hn', fun j y v' e1 e2 e3 => ?_⟩, fun y c e => ?_, I.free, I.freeC, fun p hp => ?_, fun b ob e => ?_, by simpa using I.len⟩
 ·exact (hs.2 b (old b o e)).trans (I.base.keep b o e n' hb hx)
 ·obtain ⟨sl, e1⟩ := I.base.slot b o e n' hb hx
  exact ⟨sl, (hs.2 b (old b o e)).trans e1⟩
 ·obtain ⟨o', e1⟩ := I.base.there b o e hx
  exact ⟨o', (hs.2 b (old b o e)).trans e1⟩
 ·by_cases hj : j = i
  ·subst hj
   rw [List.getElem?_set_self hiσ] at e2
   cases e2
  ·rw [List.getElem?_set_ne (Ne.symm hj)] at e2
   obtain ⟨u', r', q⟩ := hloc j y v' e1 e2 e3
   refine ⟨u', r', ?_⟩
   rcases q with ⟨k, e⟩ | ⟨k, c, e, z⟩
   ·refine .inl ⟨k, ?_⟩
    have : y ≠ n := fun e => hj (pI hN e1 (e ▸ hi))
    simp [this, e]
   ·exact .inr ⟨k, c, e, z.sameBut hs (cne y c e)⟩
 ·obtain ⟨w', z⟩ := I.cell y c e
  exact ⟨w', z.sameBut hs (cne y c e)⟩
 ·obtain ⟨e, n', ne, nf, d⟩ := I.pin p hp
  exact ⟨(hs.2 p.1 ne).trans e, n', ne, nf, d⟩
 ·refine (I.hok b ob e).stay (fun c w' hc q => (hs.2 c ?_).trans q) (fun _ q => q) fun _ _ q => q
  intro z
  rcases hc with hc | hc
  ·rw [← hc, z, I.free] at e
   cases e
  ·rw [z, I.free] at hc
   cases hc
theorem landed {C t : Addr} {B : Heap} {H' : Hp} {s' : Shared} {h6 : Heap} (I : Inv X pins σ H s) (os : s'.os = s.os) (bare : AllBare s'.gens) (un : Un (frs X.stack) [] H H' s.heap s'.heap) (hok : HOk X.prog X.w H' s'.heap)
  (fl : Heap.FlyingW B X.stack ea (.ref C) (.ref t) s'.heap) (cov : Cov B (frs X.stack) H H' s.heap) (fl6 : Heap.FlyingW B X.stack ea (.ref C) (.ref t) h6) (up : s'.heap.UpToSlots h6) :
  H' ea = none ∧ Inv X pins σ (upd H' ea (pN ea C)) { s' with heap := h6 } := by
 have nea : H' ea = none := by
  cases q : H' ea with
  | none => rfl
  | some u =>
   obtain ⟨o, e⟩ := cov.trk ea u q
   rw [fl.2.1] at e
   cases e
 obtain ⟨oe, vs, hoe, hoc, hod, _⟩ := fl6.first
 have fresh : s.heap.get? ea = none := by
  cases q : s.heap.get? ea with
  | none => rfl
  | some o =>
   by_cases hb : ea ∈ frs X.stack
   ·obtain ⟨_, o', ho', nf⟩ := fl6.2.2.1.mem hb
    rw [hoe] at ho'
    cases ho'
    exact absurd hod (nf vs)
   ·obtain ⟨o', e, _⟩ := cov.old ea o q hb
    rw [fl.2.1] at e
    cases e
 have fr : ∀ b o, s'.heap.get? b = some o → b ∈ frs X.stack → ∃ sl, h6.get? b = some { o with slots := sl } := fun b o e hb => by
  obtain ⟨_, o', ho', nf⟩ := fl.2.2.1.mem hb
  rw [e] at ho'
  cases ho'
  exact up b o e nf
 have ne : ∀ b u, H' b = some u → b ≠ ea := fun b u e => aO e nea
 refine ⟨nea, I.call' (ch := []) os ⟨fun b o e n hb hx => ?_, fun b o e n hb hx => ?_, fun b o e n hx => ?_, fun b o e hx => ?_, fun b xs e => ?_, fun b o u e => ?_, fun b ps e => ?_⟩ (fun b u e => ?_) bare fun b z => absurd z (by simp)⟩
 ·obtain ⟨o', e2, z⟩ := cov.old b o e hb
  rw [z n] at e2
  exact fl6.1 b o e2
 ·obtain ⟨sl, e1⟩ := un.slot b o e n hb hx
  obtain ⟨sl2, e2⟩ := fr b _ e1 hb
  exact ⟨sl2, e2⟩
 ·have : b ≠ ea := fun z => by rw [z, fresh] at e; cases e
  rw [aG this]
  exact un.free b o e n hx
 ·by_cases hb : b ∈ frs X.stack
  ·obtain ⟨o1, e1⟩ := un.there b o e hx
   obtain ⟨sl, e2⟩ := fr b _ e1 hb
   exact ⟨_, e2⟩
  ·obtain ⟨o', e2, _⟩ := cov.old b o e hb
   exact ⟨o', fl6.1 b o' e2⟩
 ·have q := un.tups b xs e
  rw [aG (ne b _ q)]
  exact q
 ·have q := un.frzs b o u e
  rw [aG (ne b _ q)]
  exact q
 ·obtain ⟨more, q⟩ := un.tbls b ps e
  exact ⟨more, by rw [aG (ne b _ q)]; exact q⟩
 ·by_cases hb : b = ea
  ·subst hb
   rw [ak] at e
   cases e
   refine ⟨⟨oe, vs, hoe, hoc, hod⟩, ⟨oe, hoe⟩, fun h1 h2 p k => ?_⟩
   obtain ⟨o, ws, e1, e2, e3⟩ := p
   exact ⟨o, ws, k o e1, e2, e3⟩
  ·rw [aG hb] at e
   refine (hok b u e).stay (fun c o hc e1 => ?_) (fun c r => by rw [aG (ne c _ r)]; exact r) fun c xs r => by rw [aG (ne c _ r)]; exact r
   have ht : ∃ o, B.get? c = some o := by
    rcases hc with rfl | hc
    ·exact cov.trk _ _ e
    ·exact cov.trk _ _ hc
   obtain ⟨o1, e2⟩ := ht
   have := fl.1 c o1 e2
   rw [e1] at this
   cases this
   exact fl6.1 c o e2
end
section
variable {K : PySem.W.Frag} {x C : Addr}
def ExcAt (x C : Addr) (h : Heap) : Prop := ∃ o vs, h.get? x = some o ∧ o.cls = .ref C ∧ o.data = .fields vs
theorem pA {M : Model} {h : Heap} (p : ExcAt x C h) : PySem.W.Looks M h (typeOf (.ref x)) (.ref C) := by
 obtain ⟨o, vs, h1, h2, _⟩ := p
 exact h2 ▸ (PySem.W.Looks.ld h1).andThen .now
end
end L2
namespace L2
open PySem PySem.Spec PyProof.Rows PySem.W Builtin Builtin.ObjectAttr Builtin.Getset_descriptor
section
variable {K : PySem.W.Frag} {x C : Addr}
theorem yR {M : Model} {h : Heap} (X : K.In h) (k : kE K C) : Looks M h (find (.ref x) (.ref C) "__class__") (.bind (.builtin "getset_descriptor.__get__") (.builtin "object.__class__")) := by
 refine (looks_findIn X k.cl).andThen ?_
 refine Looks.andThen (show Looks M h (getOf (some (.builtin "object.__class__"))) (some (.builtin "getset_descriptor.__get__")) from looks_specialIn X k.gt) ?_
 exact (show Looks M h (dataDescriptor? (some (.builtin "object.__class__")) (some (.builtin "getset_descriptor.__get__"))) (some (.builtin "getset_descriptor.__get__", .builtin "object.__class__")) from (looks_takesIn X k.tk).andThen .now).andThen (Looks.tag .now)
variable {prog : Program} {w : World} {A : Around} {E : Value → Shared → Prop} {s : Shared} {R : Result → Shared → Prop}
theorem ym {tp : Value} (X : K.In s.heap) (p : ExcAt x C s.heap) (k : kE K C) (h : R (.ok (.ret (.ref C))) s) :
  codeAny (model prog w) A (.call (.builtin "getset_descriptor.__get__") ⟨[.builtin "object.__class__", .ref x, tp], []⟩) R s := by
 obtain ⟨hh, g, dr, t, os⟩ := s
 have L0 := pA (M := model prog w) p
 have L1 := looks_mroIn (M := model prog w) X k.mo
 refine codeAny_call_builtin KF.slot_gs.plain KF.entry_gs (KF.slot_gs.check _ _ _ _ _ _ _ _ KF.type_class (KF.args_gs _ _ _) ?_)
 unfold Builtin.«getset_descriptor.__get__» Builtin.Getset_descriptor.descrGet
 rw [dga_obj]
 refine wpAny_bind (wpAny_pure ?_)
 unfold descrGetter descrCheckInstance descrNameAndClass isInstance
 simp only [KF.owner_class]
 repeat lk
 refine ⟨Code.quiet_builtin _ (by decide +kernel), codeAny_builtin KF.entry_class ?_⟩
 unfold Builtin.«object.__class__» shownTypeOf
 repeat lk
 exact h
theorem Ao {tk : Tok} (X : K.In s.heap) (p : ExcAt x C s.heap) (k : kE K C) (h : R (.ok (.ret (.ref C))) s) :
  codeAny (model prog w) A (.call (.builtin "BaseException.__getattribute__") ⟨[.ref x, .str "__class__" tk], []⟩) R s := by
 obtain ⟨hh, g, dr, t, os⟩ := s
 have L0 := pA (M := model prog w) p
 have L1 := looks_mroIn (M := model prog w) X k.mb
 have LI : Looks (model prog w) hh (isInstance (.ref x) (.type "BaseException")) true := L0.andThen L1
 have LF := yR (M := model prog w) (x := x) X k
 refine codeAny_call_builtin (by decide +kernel) PySem.F.entry_bexc_ga ?_
 have hk : builtinKind "BaseException.__getattribute__" = some .slot := by decide +kernel
 have hsplit : splitId "BaseException.__getattribute__" = some ("BaseException", "__getattribute__") := by decide +kernel
 have ha := PySem.F.args_bexc_ga (.ref x) (.str "__class__" tk)
 simp only [checkBuiltinCall, hk, hsplit]
 refine wpAny_bind (LI.at ?_)
 rw [if_neg (by decide)]
 have go : wpAny (model prog w) A.in1 («object.__getattribute__» ⟨[.ref x, .str "__class__" tk], []⟩) (fun fin s' => match fin with | .done f => R (.ok f) s' | .again c' => c'.quiet = true ∧ codeAny (model prog w) A c' R s') (fun e s' => R (.error e) s') ⟨hh, g, dr, t, os⟩ := by
  refine wpAny_bind (wpAny_pure (wpAny_bind (wpAny_pure (wpAny_bind (L0.at (wpAny_bind (LF.at ?_)))))))
  show wpAny _ _ (call (.builtin "getset_descriptor.__get__") [.builtin "object.__class__", .ref x, .ref C] >>= ret) _ _ _
  exact wpAny_bind (wpAny_call (ym X p k (wpAny_pure h)))
 cases hsig : Manifest.signature? "BaseException.__getattribute__" with
 | none => exact wpAny_pure go
 | some sig =>
  have ha' : Bind.checkArgs "BaseException.__getattribute__" sig ⟨[.ref x, .str "__class__" tk], []⟩ = pure () := by simpa only [argsOk, hsig] using ha
  simp only [ha']
  exact wpAny_pure go
theorem w5 {Q : Option Value → Shared → Prop} (X : K.In s.heap) (p : ExcAt x C s.heap) (k : kE K C) (h : Q (some (.ref C)) { s with toks := s.toks + 1 }) : wpAny (model prog w) A (getAttr? (.ref x) "__class__") Q E s := by
 obtain ⟨hh, g, dr, t, os⟩ := s
 have L0 := pA (M := model prog w) p
 have L1 := looks_findIn (M := model prog w) X k.ga
 have L2 := looks_findIn (M := model prog w) X k.nga
 have f3 := PySem.F.attrBase_ValueError.ga.bind (.ref x)
 unfold getAttr? getAttrBy? getAttrBy
 refine wpAny_bind (wpAny_mkText (wpAny_bind (wpAny_attempt (wpAny_holding (wpAny_bind (L0.at (wpAny_bind (L1.at ?_))))))))
 show wpAny _ _ (getAttrByItsOwn _ _ _ _ _ _) _ _ _
 unfold getAttrByItsOwn
 refine wpAny_bind (L2.at (wpAny_bind (wpAny_attempt (wpAny_holding ?_))))
 show wpAny _ _ (boundAndCalled _ _ _) _ _ _
 unfold boundAndCalled
 exact wpAny_bind (wpAny_of_eq f3 (wpAny_call (Ao (s := ⟨hh, g, dr, t + 1, os⟩) X p k (wpAny_pure (wpAny_pure h)))))
theorem ul (k : kE K C) : KitX K (.ref x) (.ref C) (ExcAt x C) where
 ty := fun _ _ _ p => pA p
 it := fun _ _ X _ => by
  obtain ⟨cdD, hcD, _⟩ := any_some k.dct
  unfold clsIn at hcD
  split at hcD
  ·rename_i c' d' cd' sl' ho
   intro A' Q' E' s' kk q
   unfold isType loadHead
   exact wpAny_bind (wpAny_loadPart (kk _ _ (X _ _ ho)) (wpAny_pure q))
  ·cases hcD
 ne := fun h tp dd its n sl X htp => by
  obtain ⟨cdD, hcD, _⟩ := any_some k.dct
  refine Bool.eq_false_iff.mpr fun q => ?_
  have e : C = tp := Value.ref.inj (beq_iff_eq.mp q)
  subst e
  unfold clsIn at hcD
  split at hcD
  ·rename_i c' d' cd' sl' ho
   have z := (X _ _ ho).symm.trans htp
   cases z
  ·cases hcD
 ca := fun X p h => w5 X p k h
end
section
variable {X : Cx}
theorem yh {pins : List (Addr × Obj)} {σ : St} {H : Hp} {s : Shared} {ea C : Addr} (I : Inv X pins σ H s) (h : H ea = some (pN ea C)) : ExcAt ea C s.heap := (I.hok ea _ h).1
abbrev sI (K : PySem.W.Frag) (xs : List V) (H : Hp) (Q : VK) : Prop := ∃ (ea C : Addr) (d : V) (c : Value) (b : Bool), xs = [.ref ea, d] ∧ ((∃ D, d = .ref D ∧ c = .ref D) ∨ ∃ T, d = .ty T ∧ c = .type T) ∧ H ea = some (pN ea C) ∧ kE K C ∧ kitOne K (.ref C) c = some b ∧ Q (.bl b) H
theorem fU : dq X (.builtin "isinstance") (sI X.K) := by
 intro pins s σ H xs us Q I r h
 obtain ⟨ea, C, d, c, b, rfl, hd, he, k, e, q⟩ := h
 obtain ⟨u, v, rfl, ru, rv⟩ := vals2 r
 cases (show u = Value.ref ea from ru)
 have ev : v = c := by
  rcases hd with ⟨D, rfl, rfl⟩ | ⟨T, rfl, rfl⟩
  ·exact rv
  ·exact rv
 subst ev
 exact kia_one (ul k) I.kIn (yh I he) e (fun z => nomatch z) fun tk => ⟨.bl b, H, I.tok tk, rfl, q⟩
theorem vI : ∀ {cs : List Addr} {us : List Value}, Vals (cs.map V.ref) us → us = cs.map Value.ref
 | [], _, r => by cases r; rfl
 | c :: cs, _, r => by
  cases r with
  | cons r1 r2 => rw [vI r2, List.map_cons]; cases r1; rfl
abbrev z8 (K : PySem.W.Frag) (xs : List V) (H : Hp) (Q : VK) : Prop := ∃ (ea C tp : Addr) (cs : List Addr) (b : Bool), xs = [.ref ea, .ref tp] ∧ H tp = some (.tup (cs.map V.ref)) ∧ H ea = some (pN ea C) ∧ kE K C ∧ kitAny K (.ref C) (cs.map Value.ref) = some b ∧ Q (.bl b) H
theorem xM : dq X (.builtin "isinstance") (z8 X.K) := by
 intro pins s σ H xs us Q I r h
 obtain ⟨ea, C, tp, cs, b, rfl, ht, he, k, e, q⟩ := h
 obtain ⟨u, v, rfl, ru, rv⟩ := vals2 r
 cases (show u = Value.ref ea from ru)
 cases (show v = Value.ref tp from rv)
 obtain ⟨_, its, r2, o, h1, h2, n, h3⟩ := I.hok tp _ ht
 rw [vI r2] at h3
 obtain ⟨cl, dd, dt, sl⟩ := o
 simp only at h2 h3
 subst h2 h3
 exact kia_tup (ul k) I.kIn (yh I he) h1 e (fun z => nomatch z) fun tk => ⟨.bl b, H, I.tok tk, rfl, q⟩
end
theorem iT {P : Program} {w : World} {X : Cx} : il (CX1 P w) X (fun _ _ _ => False) := fun _ _ _ _ _ _ _ h => by
 obtain ⟨_, _, _, _, _, _, _, _, _, _, _, _, z⟩ := h
 exact z.elim
end L2
set_option Elab.async false
set_option linter.all false
set_option maxRecDepth 100000
set_option maxHeartbeats 4000000
namespace L2
open PySem PySem.Spec PyProof.Rows PySem.W
def Bt (K : PySem.W.Frag) (sp : Sp) (t : TA) (i : Nat) (Cw : Addr) (ts : TS) : TS := fun D σ H => t σ H fun vs H1 => sp vs H1 (fun _ H2 => D.nx σ H2) fun cv _ H2 => ∃ C, cv = .ref C ∧ kitOne K (.ref C) (.ref Cw) = some true ∧ ∀ ea, H2 ea = none →
 ts { nx := fun σ3 H3 => D.nx (σ3.set i none) H3, rt := fun _ _ => False } (σ.set i (some (.ref ea))) (upd H2 ea (pN ea C))
theorem mR {X : Cx} {k : Nat} {f Cw : Addr} {fd : FuncData} {ps : List Str} {sp : Sp} {fx cx n : Str} {p cpos epos np hpos pos : Pos} {e : Expr} {es : List Expr} {t : TA} {i : Nat} {b0 : Stmt} {suite : List Stmt} {ts : TS}
  (F : bh X.prog X.w X.K X.mg X.base (CX1 X.prog X.w) k f fd ps sp) (hr : cL k X.A) (hg : Gl X fx) (hm : X.mg fx = some (.ref f)) (hk : PySem.W.keepIn X.K (.ref f) = true) (hb : Binds X.K fd ps []) (ha : PA X.nox (e :: es) t)
  (ex : Exc X.K X.mg cx Cw) (exk : kE X.K Cw) (hgc : Gl X cx) (hN : X.N.Nodup) (hi : X.N[i]? = some n) (hn : X.env.scope.names.lookup n = some .local) (hst : X.stack = X.env :: X.outer) (hfr : X.env.frame = some X.env.locals)
  (hs : ∀ ea, PSs (X.suite ea) (b0 :: suite) ts) (hdb : (fx == ("__debug__" : Str)) = false := by decide) (hdc : (cx == ("__debug__" : Str)) = false := by decide)
  (he : starEach (e :: es) X.env = (false, eval e X.env) :: starEach es X.env := by rfl) (hpl : (backTo cpos (starEach es X.env)).any (·.1) = false := by rfl)
  (hsw : swapsWith (.Call (.Name fx p) (e :: es) [] cpos) none epos.line X.env = pure false := by rfl) :
  PS X (.Try [.Expr (.Call (.Name fx p) (e :: es) [] cpos) epos] [.ExceptHandler (some (.Name cx np)) (some n) (b0 :: suite) hpos] [] [] pos) (Bt X.K sp t i Cw ts) := by
 intro pins s σ H D I h
 refine wpAny_Try_except ?_
 refine wpAny_execs_cons (wpAny_Expr_any (wpAny_Call_Name_kw (gW I hg hm ?_ hdb)) I.quiet hsw)
 have h2 := ha cpos pins s σ H _ (I.wish _) h
 refine PySem.W.callWith_K (h₀ := X.base) I.ok.mod.kin hk (wpAny_mono h2 (fun us s1 h3 => ?_) fun _ _ z => False.elim z) he hpl
 obtain ⟨vs, H1, I1, r, q⟩ := h3
 refine ⟨I1.kIn, ?_⟩
 have I1' := I1.unwish
 have hl : (us ++ []).length = ps.length := by rw [List.append_nil, ← r.length]; exact F.len _ _ _ _ q
 have bt := hb s1 us I1.kIn hl
 rw [List.append_nil] at bt
 refine wpAny_call (codeAny_mono (F.run X.A X.stack s1 H1 ⟨us, []⟩ us vs _ _ hr I1'.env0 bt r q) fun r' s' hq => ?_)
 cases r' with
 | ok fw =>
  cases fw with
  | ret u =>
   obtain ⟨v, H2, I2, rv, q2⟩ := I1'.after hq
   exact wpAny_execs_nil (wpAny_execs_nil ⟨σ, H2, I2, q2⟩)
  | next => exact False.elim hq
  | brk => exact False.elim hq
  | cont => exact False.elim hq
 | error e' =>
  obtain ⟨ea, C, t', B, H', rfl, os, bare, un, hok, fl, cov, C', eC, hsub, q2⟩ := hq
  cases eC
  have frm : X.A.frames = some (X.env :: X.outer) := by rw [← hst]; exact I.ok.frames
  refine wpAny_looks_onW (base := B) frm hfr (by rw [← hst]; exact fl) fun h4 held up4 => wpAny_landsW held fun h5 fl5 up5 => ?_
  have fl5' : Heap.FlyingW B X.stack ea (.ref C) (.ref t') h5 := by rw [hst]; exact fl5
  obtain ⟨nea, I5⟩ := landed I1' os bare un hok fl cov fl5' (up4.trans up5)
  refine wpAny_handleBy_cons (codeAny_handlers_test (gW (X := X.suite ea) I5.suite hgc ex.m ?_ hdc)) (by intro z; cases z)
  refine (show ∀ {M : Model} {A : Around} {Q : Bool → Shared → Prop} {E : Value → Shared → Prop}, Q true { s' with heap := h5 } → wpAny M A (excMatches (.ref ea) (.ref Cw)) Q E { s' with heap := h5 } from fun {M A Q E} qq => ?_) (codeAny_handlers_suite_as ?_)
  ·by_cases eC : C = Cw
   ·subst eC
    obtain ⟨bm, N', nm, qn, bs, hdct, sn, sub, ab, col, dd, k0, k1, k2, k3, k5, mN, hC, hN', hni, T⟩ := vW I5.kIn ex.q
    obtain ⟨ob, hob, hobc⟩ := fl5.there
    exact wpAny_excMatches_sub_self hC hob hobc (T.hasType PySem.F.excBase_ValueError.hasBase) qq
   ·obtain ⟨oe, vs5, hoe, hoc, hod, _⟩ := fl5'.first
    have hx : exmOne X.K (.ref C) (.ref Cw) = some true := by
     unfold exmOne
     rw [if_pos (beq_iff_eq.mpr (show subIn X.K (.ref Cw) (.type "BaseException") = some true from exk.mb))]
     unfold kitOne at hsub
     rw [if_neg (by simpa using eC)] at hsub
     exact hsub
    exact (exm_one (M := M) I5.kIn (pA ⟨oe, vs5, hoe, hoc, hod⟩) hx).at qq
  refine lands_againW fl5' fun h6 fl6 up6 => ?_
  obtain ⟨_, I6⟩ := landed I1' os bare un hok fl cov fl6 ((up4.trans up5).trans up6)
  refine jZ (X := X.suite ea) (v := .ref ea) I6.suite hN hi (.inl hn) rfl (fun s7 I7 => ?_) (.inr hn)
  refine wpAny_mono (hs ea pins s7 _ _ _ I7 (q2 ea nea)) (fun fw s8 q8 => ?_) fun _ _ z => False.elim z
  cases fw with
  | next =>
   obtain ⟨σ8, H8, I8, n8⟩ := q8
   exact name_goes (I8.unsuite I.ok) hN hi hn fun s9 I9 => ⟨_, H8, I9, n8⟩
  | ret v => obtain ⟨_, _, _, _, _, z⟩ := q8; exact False.elim z
  | brk => obtain ⟨_, _, _, z⟩ := q8; exact False.elim z
  | cont => obtain ⟨_, _, _, z⟩ := q8; exact False.elim z
end L2
set_option Elab.async false
set_option linter.all false
set_option maxRecDepth 100000
set_option maxHeartbeats 4000000
namespace L2
open PySem PySem.Spec PyProof.Rows PySem.W
section
variable {X : Cx} {pins pins' : List (Addr × Obj)} {E : XK} {σ : St} {H : Hp} {s : Shared}
end
end L2
namespace L2
open PySem PySem.Spec PyProof.Rows PySem.W
def zc (r r' r'' : R2) (ta tb tc td : TE) : TE := fun σ H Q => ta σ H fun x H1 => tb σ H1 fun y H2 => r x y H2 fun z H3 => ∃ k, z = .bl k ∧
 (if k = true then tc σ H3 fun w' H4 => r' y w' H4 fun z2 H5 => ∃ k2, z2 = .bl k2 ∧ (if k2 = true then td σ H5 fun w2 H6 => r'' w' w2 H6 Q else Q (.bl false) H5) else Q (.bl false) H3)
theorem qj {X : Cx} {a b c d : Expr} {ta tb tc td : TE} {pos : Pos} {op op' op'' : CmpOp} {r r' r'' : R2} (ho : OpR X (compareOp op) r) (ho' : OpR X (compareOp op') r') (ho'' : OpR X (compareOp op'') r'') (ha : PE X a ta) (hb : PE X b tb) (hc : PE X c tc) (hd : PE X d td)
  (hm : lastMarks [op, op', op''] [b, c, d] = false := by with_unfolding_all rfl) : PT X (.Compare a [op, op', op''] [b, c, d] pos) (zT (zc r r' r'' ta tb tc td)) := by
 intro pins s σ H Q I h
 refine isTrue_chain (thn (ha pins s σ H _ I h) fun v s1 ⟨x, H1, I1, r1, q1⟩ => test_link (thn (hb pins s1 σ H1 _ I1 q1) fun u s2 ⟨y, H2, I2, r2, q2⟩ =>
  thn (ho pins s2 σ H2 x y v u _ I2 r1 r2 q2) fun d s3 ⟨z, H3, I3, r3, k, e, q3⟩ => ?_)) hm
 subst e
 cases r3
 refine wpAny_truthy_bool ?_
 cases k with
 | false =>
  obtain ⟨k', e', q'⟩ := q3
  cases e'
  exact ite_ff ⟨H3, I3, q'⟩
 | true =>
  refine ite_tt (test_link (thn (hc pins s3 σ H3 _ I3 q3) fun w' s4 ⟨z', H4, I4, r4, q4⟩ => thn (ho' pins s4 σ H4 y z' u w' _ I4 r2 r4 q4) fun d' s5 ⟨z2, H5, I5, r5, k2, e2, q5⟩ => ?_))
  subst e2
  cases r5
  refine wpAny_truthy_bool ?_
  cases k2 with
  | false =>
   obtain ⟨k', e', q'⟩ := q5
   cases e'
   exact ite_ff ⟨H5, I5, q'⟩
  | true =>
   refine ite_tt (test_last (thn (hd pins s5 σ H5 _ I5 q5) fun w2 s6 ⟨z3, H6, I6, r6, q6⟩ => thn (ho'' pins s6 σ H6 z' z3 w' w2 _ I6 r4 r6 q6) fun d2 s7 ⟨z4, H7, I7, r7, k3, e3, q7⟩ => ?_))
   subst e3
   cases r7
   exact wpAny_truthy_bool ⟨H7, I7, q7⟩
end L2
set_option Elab.async false
set_option linter.all false
set_option maxRecDepth 100000
set_option maxHeartbeats 4000000
namespace L2
open PySem PySem.Spec PyProof.Rows PySem.W
def aH (a : Addr) (o : Obj) : HO := .ext fun h => h.get? a = some o
theorem dh {P : Program} {w : World} {H : Hp} {h : Heap} {a : Addr} {o : Obj} (e : h.get? a = some o) : cU P w H h a (aH a o) := ⟨e, ⟨o, e⟩, fun _ _ p k => k o p⟩
theorem cz {P : Program} {w : World} {H : Hp} {h : Heap} {a : Addr} {o : Obj} (hok : HOk P w H h) (e : H a = some (aH a o)) : h.get? a = some o := (hok a _ e).1
def hide (H : Hp) (cs : List Addr) : Hp := fun b => if b ∈ cs then none else H b
def over (H : Hp) (cs : List Addr) (H' : Hp) : Hp := fun b => if b ∈ cs then H b else H' b
theorem j9 {H : Hp} {cs : List Addr} {b : Addr} (h : b ∈ cs) : hide H cs b = none := if_pos h
theorem bG {H : Hp} {cs : List Addr} {b : Addr} (h : b ∉ cs) : hide H cs b = H b := if_neg h
theorem vX {H H' : Hp} {cs : List Addr} {b : Addr} (h : b ∈ cs) : over H cs H' b = H b := if_pos h
theorem dN {H H' : Hp} {cs : List Addr} {b : Addr} (h : b ∉ cs) : over H cs H' b = H' b := if_neg h
theorem qd (H : Hp) (cs : List Addr) : over H cs (hide H cs) = H := by
 funext b
 by_cases h : b ∈ cs
 ·rw [vX h]
 ·rw [dN h, bG h]
section
variable {P : Program} {w : World} {H H' : Hp} {h h' : Heap} {cs : List Addr}
theorem vU (hok : HOk P w H h) (hx : ∀ a ∈ cs, ∃ o, H a = some (aH a o)) : HOk P w (hide H cs) h := fun b u e => by
 have hb : b ∉ cs := fun z => by rw [j9 z] at e; cases e
 rw [bG hb] at e
 refine (hok b u e).stay (fun _ _ _ q => q) (fun c q => ?_) fun c xs q => ?_
 ·rw [bG]
  ·exact q
  ·intro z
   obtain ⟨o, e2⟩ := hx c z
   rw [q] at e2
   cases e2
 ·rw [bG]
  ·exact q
  ·intro z
   obtain ⟨o, e2⟩ := hx c z
   rw [q] at e2
   cases e2
theorem v4 {fs : List Addr} (hok : HOk P w H h) (hok' : HOk P w H' h') (hx : ∀ a ∈ cs, ∃ o, H a = some (aH a o)) (hf : ∀ b ∈ fs, H b = none) (u : Un fs [] (hide H cs) H' h h') :
  HOk P w (over H cs H') h' ∧ Un fs [] H (over H cs H') h h' := by
 have get : ∀ a ∈ cs, ∃ o, H a = some (aH a o) ∧ h.get? a = some o := fun a ha => by
  obtain ⟨o, e⟩ := hx a ha
  exact ⟨o, e, cz hok e⟩
 have gone : ∀ a ∈ cs, H' a = none := fun a ha => by
  obtain ⟨o, _, e⟩ := get a ha
  exact u.free a o e (j9 ha) (by simp)
 have out : ∀ b, H b = none → b ∉ cs := fun b n z => by
  obtain ⟨o, e, _⟩ := get b z
  rw [n] at e
  cases e
 refine ⟨fun b v e => ?_, fun b o e n hb hx' => ?_, fun b o e n hb hx' => ?_, fun b o e n hx' => ?_, fun b o e hx' => u.there b o e hx', fun b xs e => ?_, fun b o v e => ?_, fun b ps e => ?_⟩
 ·by_cases hb : b ∈ cs
  ·obtain ⟨o, e1, e2⟩ := get b hb
   rw [vX hb, e1] at e
   cases e
   exact dh (u.keep b o e2 (j9 hb) (fun z => by rw [hf b z] at e1; cases e1) (by simp))
  ·rw [dN hb] at e
   refine (hok' b v e).stay (fun _ _ _ q => q) (fun c q => ?_) fun c xs q => ?_
   ·rw [dN]
    ·exact q
    ·intro z
     rw [gone c z] at q
     cases q
   ·rw [dN]
    ·exact q
    ·intro z
     rw [gone c z] at q
     cases q
 ·exact u.keep b o e (by rw [bG (out b n)]; exact n) hb hx'
 ·exact u.slot b o e (by rw [bG (out b n)]; exact n) hb hx'
 ·rw [dN (out b n)]
  exact u.free b o e (by rw [bG (out b n)]; exact n) hx'
 ·have hb : b ∉ cs := fun z => by
   obtain ⟨o, e1⟩ := hx b z
   rw [e] at e1
   cases e1
  rw [dN hb]
  exact u.tups b xs (by rw [bG hb]; exact e)
 ·have hb : b ∉ cs := fun z => by
   obtain ⟨o, e1⟩ := hx b z
   rw [e] at e1
   cases e1
  rw [dN hb]
  exact u.frzs b o v (by rw [bG hb]; exact e)
 ·have hb : b ∉ cs := fun z => by
   obtain ⟨o, e1⟩ := hx b z
   rw [e] at e1
   cases e1
  rw [dN hb]
  exact u.tbls b ps (by rw [bG hb]; exact e)
end
structure pC where
 name : Str
 qual : Str
 params : Arguments
 body : List Stmt
 scope : Scope
 ps : List Str
 xs : List Str
structure iW (H : Hp) (f : Addr) (c : pC) (cs : List Addr) (fvs : List V) : Prop where
 ex : ∃ (cd : Addr) (doc pm ctv : Value) (oc : Obj) (vs : Array Value) (t : Tok), H f = some (aH f (fnMade c.name c.qual c.params c.body c.scope (c.xs.zip cs) doc pm cd ctv)) ∧ H cd = some (aH cd oc) ∧ oc.data = .fields vs ∧ vs[1]? = some (.str c.qual t)
 cells : ∀ (i : Nat) (a : Addr), cs[i]? = some a → ∃ (co : Obj) (v : V) (u : Value), fvs[i]? = some v ∧ H a = some (aH a co) ∧ co.data = .cell (some u) ∧ RelV v u
 nd : cs.Nodup
 len : cs.length = c.xs.length
 lenV : fvs.length = c.xs.length
theorem iW.same {H H' : Hp} {f : Addr} {c : pC} {cs : List Addr} {fvs : List V} (h : iW H f c cs fvs) (s : ∀ b o, H b = some (aH b o) → H' b = some (aH b o)) : iW H' f c cs fvs := by
 obtain ⟨⟨cd, doc, pm, ctv, oc, vs, t, h1, h2, h3, h4⟩, hc, nd, len, lenV⟩ := h
 refine ⟨⟨cd, doc, pm, ctv, oc, vs, t, s _ _ h1, s _ _ h2, h3, h4⟩, fun i a e => ?_, nd, len, lenV⟩
 obtain ⟨co, v, u, e1, e2, e3⟩ := hc i a e
 exact ⟨co, v, u, e1, s _ _ e2, e3⟩
structure pK (N : List Str) (c : pC) : Prop where
 kind : c.scope.kind = .function
 co : c.scope.isCoroutine = false
 gen : c.scope.isGenerator = false
 nocell : ∀ x ∈ c.scope.names, x.2 ≠ .cell
 pre : N.take (c.ps.length + c.xs.length) = c.ps ++ c.xs
 nd : N.Nodup
 par : ∀ n ∈ c.ps, c.scope.names.lookup n = some .local
 fr : ∀ x ∈ c.scope.names, x.2 = .free → x.1 ∈ c.xs
 frn : ∀ n ∈ c.xs, c.scope.names.lookup n ≠ some .local
def mU (P : Program) (w : World) (K : PySem.W.Frag) (mg : Str → Option Value) (base : Heap) (N : List Str) (qual : Str) (scope : Scope) (f : Addr) (cd : Value) (cl : List (Str × Addr)) (A : Around) (outer : List Env) (s : Shared) (H : Hp) : Cx where
 prog := P
 w := w
 K := K
 mg := mg
 base := base
 A := A.deeper (envX qual scope s.heap.objs.size f cd cl)
 N := N
 s₀ := s
 H₀ := H
 env := envX qual scope s.heap.objs.size f cd cl
 outer := outer
 stack := envX qual scope s.heap.objs.size f cd cl :: outer
 ex := []
 calm := true
 fn := fun _ => false
 pn := []
 xe := fun _ _ => False
theorem b8 : ∀ {xs : List Str} {cs : List Addr} {x : Str} {c : Addr}, (xs.zip cs).lookup x = some c → ∃ i : Nat, xs[i]? = some x ∧ cs[i]? = some c
 | [], _, _, _, h => by simp at h
 | _ :: _, [], _, _, h => by simp at h
 | y :: xs, d :: cs, x, c, h => by
  rw [List.zip_cons_cons, List.lookup_cons] at h
  cases hb : x == y with
  | true =>
   rw [hb] at h
   cases h
   exact ⟨0, by rw [eq_of_beq hb]; rfl, rfl⟩
  | false =>
   rw [hb] at h
   obtain ⟨i, h1, h2⟩ := b8 h
   exact ⟨i + 1, h1, h2⟩
theorem rM : ∀ {xs : List Str} {cs : List Addr} {x : Str}, cs.length = xs.length → x ∈ xs → ∃ c, (xs.zip cs).lookup x = some c
 | [], _, _, _, h => by simp at h
 | _ :: _, [], _, l, _ => by simp at l
 | y :: xs, d :: cs, x, l, h => by
  rw [List.zip_cons_cons, List.lookup_cons]
  cases hb : x == y with
  | true => exact ⟨d, rfl⟩
  | false =>
   rcases List.mem_cons.mp h with e | e
   ·rw [e] at hb
    simp at hb
   ·exact rM (by simpa using l) e
theorem vD : ∀ {xs : List Str} {cs : List Addr} {i : Nat} {x : Str} {c : Addr}, xs.Nodup → xs[i]? = some x → cs[i]? = some c → (xs.zip cs).lookup x = some c
 | [], _, _, _, _, _, h, _ => by simp at h
 | _ :: _, [], _, _, _, _, _, h => by simp at h
 | y :: xs, d :: cs, 0, x, c, _, h1, h2 => by
  simp at h1 h2
  subst h1 h2
  simp
 | y :: xs, d :: cs, i + 1, x, c, nd, h1, h2 => by
  have h1' : xs[i]? = some x := by simpa using h1
  have hne : (x == y) = false := by
   cases hb : x == y with
   | false => rfl
   | true =>
    rw [eq_of_beq hb] at h1'
    exact absurd (List.mem_of_getElem? h1') (List.nodup_cons.mp nd).1
  rw [List.zip_cons_cons, List.lookup_cons, hne]
  exact vD (List.nodup_cons.mp nd).2 h1' (by simpa using h2)
theorem lookup_mem : ∀ {l : List (Str × Value)} {y : Str} {u : Value}, (l.map (·.1)).Nodup → (y, u) ∈ l → l.lookup y = some u
 | [], _, _, _, h => by simp at h
 | (z, v) :: l, y, u, nd, h => by
  rw [List.map_cons] at nd
  rw [List.lookup_cons]
  rcases List.mem_cons.mp h with e | e
  ·cases e
   simp
  ·cases hb : y == z with
   | true =>
    rw [eq_of_beq hb] at e
    exact absurd (List.mem_map.mpr ⟨_, e, rfl⟩) (List.nodup_cons.mp nd).1
   | false => exact lookup_mem (List.nodup_cons.mp nd).2 e
theorem mW : ∀ (ps : List Str) (us : List Value), ((ps.zip us).map (·.1)).Sublist ps
 | [], _ => by simp
 | _ :: _, [] => by simp
 | p :: ps, u :: us => by
  rw [List.zip_cons_cons, List.map_cons]
  exact (mW ps us).cons₂ _
theorem vL {ps : List Str} {us : List Value} {i : Nat} {y : Str} {u : Value} (nd : ps.Nodup) (h1 : ps[i]? = some y) (h2 : us[i]? = some u) : (ps.zip us).reverse.lookup y = some u := by
 refine lookup_mem ?_ ?_
 ·rw [List.map_reverse]
  refine List.pairwise_reverse.mpr (List.Pairwise.imp (fun h => Ne.symm h) (show ((ps.zip us).map (·.1)).Nodup from nd.sublist (mW ps us)))
 ·rw [List.mem_reverse]
  exact List.mem_of_getElem? (i := i) (by rw [List.getElem?_zip_eq_some]; exact ⟨h1, h2⟩)
section
variable {P : Program} {w : World} {K : PySem.W.Frag} {mg : Str → Option Value} {base : Heap} {A : Around} {outer : List Env} {s : Shared} {H : Hp} {f : Addr} {c : pC} {cs : List Addr} {fvs vs : List V} {us : List Value} {N : List Str} {k : Nat} {Q : VK} {E : XK}
theorem zj (S : pK N c) (hr : cL (k + 1) A) (e0 : rT P w K mg base A outer s H) (ca : iW H f c cs fvs) (hb : ∀ (cl : List (Str × Addr)) (doc pm cd ctv : Value), BindsTo s (fnX c.name c.qual c.params c.body c.scope cl .none .none doc pm none cd ctv) ⟨us, []⟩ (c.ps.zip us)) (r : Vals vs us) (hl : vs.length = c.ps.length)
  (body : ∀ cd : Addr, cL k (A.deeper (envX c.qual c.scope s.heap.objs.size f (.ref cd) (c.xs.zip cs))) → ∃ t, PSs (mU P w K mg base N c.qual c.scope f (.ref cd) (c.xs.zip cs) A outer s (hide H cs)) c.body t ∧ t { nx := fun _ H' => Q .non (over H cs H'), rt := fun v H' => Q v (over H cs H') } (start N (vs ++ fvs)) (hide H cs)) :
  codeAny (model P w) A (.call (.ref f) ⟨us, []⟩) (CR CX0 outer P w H s Q E) s := by
 obtain ⟨⟨cd, doc, pm, ctv, oc, ws, tk, h1, h2, h3, h4⟩, hc, nd, len, lenV⟩ := ca
 have hx : ∀ a ∈ cs, ∃ o, H a = some (aH a o) := fun a ha => by
  obtain ⟨i, hi⟩ := List.getElem?_of_mem ha
  obtain ⟨co, v, u, _, e, _⟩ := hc i a hi
  exact ⟨co, e⟩
 have lim : s.heap.NoLimit := e0.mod.nolimit.keeps fun b o e => (e0.bs b o e).1
 have ndP : c.ps.Nodup := by
  have : c.ps.Sublist N := by
   have h5 : (c.ps ++ c.xs).Sublist N := by rw [← S.pre]; exact List.take_sublist _ _
   exact (List.sublist_append_left _ _).trans h5
  exact S.nd.sublist this
 have ndX : c.xs.Nodup := by
  have : c.xs.Sublist N := by
   have h5 : (c.ps ++ c.xs).Sublist N := by rw [← S.pre]; exact List.take_sublist _ _
   exact (List.sublist_append_right _ _).trans h5
  exact S.nd.sublist this
 have hpl : c.ps.length + c.xs.length ≤ N.length := by
  have := congrArg List.length S.pre
  rw [List.length_take, List.length_append] at this
  omega
 refine codeAny_call_def (fd := fnX c.name c.qual c.params c.body c.scope (c.xs.zip cs) .none .none doc pm none (.ref cd) ctv) (binds := c.ps.zip us) hr.depth (cz e0.hok h1) rfl lim ⟨cd, oc, ws, tk, rfl, cz e0.hok h2, h3, h4⟩ rfl (hb _ _ _ _ _) S.nocell (fun y hy => S.par _ (List.of_mem_zip hy).1) (fun h0 hns hk => ?_) S.co S.gen S.kind
 obtain ⟨t, ht, hq⟩ := body cd (hr.deeper _)
 have hok0 := vU e0.hok hx
 have I : Inv (mU P w K mg base N c.qual c.scope f (.ref cd) (c.xs.zip cs) A outer s (hide H cs)) [] (start N (vs ++ fvs)) (hide H cs) { s with heap := h0, toks := s.toks + (c.ps.zip us).length } := by
  refine ⟨⟨e0.mod, S.kind, rfl, rfl, Nat.le_refl _, fun y z b h5 h6 => ?_, fun y hy => ?_, fun y b h5 _ => absurd h5 Bool.false_ne_true, fun _ => hr.hd, Around.frames_deeper e0.frames, .inr ⟨rfl, rfl⟩, fun b z => absurd (show b ∈ ([] : List Addr) from z) (by simp), fun b o e => ⟨(e0.bs b o e).1, ?_⟩, e0.bsz, fun b _ _ z => absurd (show b ∈ ([] : List Addr) from z) (by simp), fun b z => absurd (show b ∈ ([] : List Addr) from z) (by simp), e0.funs, fun b hb' => ?_⟩,
   rfl, e0.bare, Un.kept hk, ⟨_, hns, fun i y v h5 h6 h7 => ?_⟩, fun y b h5 => ?_, hok0.fresh (Nat.le_refl _), fun y b h5 => ?_, fun p hp => absurd (show p ∈ ([] : List (Addr × Obj)) from hp) (by simp), hok0.kept hk, ?_⟩
  ·obtain ⟨i, i1, i2⟩ := b8 h5
   obtain ⟨j, j1, j2⟩ := b8 h6
   have := (List.getElem?_inj (List.getElem?_eq_some_iff.mp i2).1 nd).mp (i2.trans j2.symm)
   subst this
   exact Option.some.inj (i1.symm.trans j1)
  ·have hy : c.scope.names.lookup y = some .cell ∨ c.scope.names.lookup y = some .free := hy
   rcases hy with hy | hy
   ·exact absurd rfl (S.nocell _ (PySem.mem_of_lookup hy))
   ·exact rM len (S.fr _ (PySem.mem_of_lookup hy) rfl)
  ·have n := (e0.bs b o e).2
   show hide H cs b = none
   rw [bG]
   ·exact n
   ·intro z
    obtain ⟨o', e'⟩ := hx b z
    rw [n] at e'
    cases e'
  ·have n := e0.frf b hb'
   show hide H cs b = none
   rw [bG]
   ·exact n
   ·intro z
    obtain ⟨o', e'⟩ := hx b z
    rw [n] at e'
    cases e'
  ·have hi : i < (vs ++ fvs).length := by
    unfold start at h6
    by_cases hi : i < (vs ++ fvs).length
    ·exact hi
    ·rw [List.getElem?_append_right (by simpa using hi)] at h6
     rw [List.getElem?_replicate] at h6
     split at h6 <;> cases h6
   have ha : (vs ++ fvs)[i]? = some v := by
    unfold start at h6
    rw [List.getElem?_append_left (by simpa using hi), List.getElem?_map] at h6
    cases e : (vs ++ fvs)[i]? with
    | none => rw [e] at h6; cases h6
    | some a => rw [e] at h6; cases h6; rfl
   rw [List.length_append] at hi
   have hp : (c.ps ++ c.xs)[i]? = some y := by
    rw [← S.pre, List.getElem?_take_of_lt (by omega)]
    exact h5
   by_cases hi2 : i < vs.length
   ·rw [List.getElem?_append_left hi2] at ha
    rw [List.getElem?_append_left (by omega)] at hp
    obtain ⟨u, hu, rv⟩ := r.get ha
    exact ⟨u, rv, .inl ⟨S.par y (List.mem_of_getElem? hp), vL ndP hp hu⟩⟩
   ·rw [List.getElem?_append_right (by omega)] at ha
    rw [List.getElem?_append_right (by omega), ← hl] at hp
    have hj : i - vs.length < cs.length := by
     have := (List.getElem?_eq_some_iff.mp hp).1
     omega
    obtain ⟨b, hb5⟩ : ∃ b, cs[i - vs.length]? = some b := ⟨_, List.getElem?_eq_getElem hj⟩
    obtain ⟨co, v', u, q1, q2, q3, q4⟩ := hc _ b hb5
    rw [ha] at q1
    cases q1
    have hfree : c.scope.names.lookup y = some .free := by
     rcases h7 with q | q | q
     ·exact absurd q (S.frn y (List.mem_of_getElem? hp))
     ·exact absurd rfl (S.nocell _ (PySem.mem_of_lookup q))
     ·exact q
    exact ⟨u, q4, .inr ⟨.inr hfree, b, vD ndX hp hb5, co, hk _ _ (cz e0.hok q2), q3⟩⟩
  ·obtain ⟨i, i1, i2⟩ := b8 h5
   obtain ⟨co, v', u, q1, q2, q3, q4⟩ := hc _ b i2
   exact ⟨_, co, hk _ _ (cz e0.hok q2), q3⟩
  ·obtain ⟨i, i1, i2⟩ := b8 h5
   exact j9 (List.mem_of_getElem? i2)
  ·unfold start
   show _ = N.length
   rw [List.length_append, List.length_map, List.length_replicate, List.length_append]
   omega
 have fin : ∀ {s' : Shared} {σ' : St} {H' : Hp} {v : V} {u : Value}, Inv (mU P w K mg base N c.qual c.scope f (.ref cd) (c.xs.zip cs) A outer s (hide H cs)) [] σ' H' s' → RelV v u → Q v (over H cs H') → CE outer P w H s Q u s' := fun {s' σ' H' v u} J rv q => by
  obtain ⟨k1, k2⟩ := v4 e0.hok J.hok hx e0.frf J.base
  exact ⟨v, over H cs H', J.os, J.bare, k2, k1, rv, q⟩
 refine wpAny_mono (ht [] _ (start N (vs ++ fvs)) (hide H cs) _ I hq) (fun fl s' hs => ?_) fun e s' hs => False.elim hs
 cases fl with
 | ret u =>
  obtain ⟨v, σ', H', J, rv, q⟩ := hs
  exact fin J rv q
 | next =>
  obtain ⟨σ', H', J, q⟩ := hs
  exact fin (v := V.non) (u := Value.none) J rfl q
 | brk =>
  obtain ⟨_, _, _, q⟩ := hs
  exact False.elim q
 | cont =>
  obtain ⟨_, _, _, q⟩ := hs
  exact False.elim q
end
end L2
set_option Elab.async false
set_option linter.all false
set_option maxRecDepth 100000
set_option maxHeartbeats 4000000
namespace L2
open PySem PySem.Spec PyProof.Rows PySem.W
def m5 (P : Program) (w : World) (K : PySem.W.Frag) (mg : Str → Option Value) (base : Heap) (k : Nat) (sp : Addr → Sp) : Prop :=
 ∀ (f : Addr) (A : Around) (outer : List Env) (s : Shared) (H : Hp) (us : List Value) (vs : List V) (Q : VK), cL k A → rT P w K mg base A outer s H → Vals vs us → sp f vs H Q E0 →
  codeAny (model P w) A (.call (.ref f) ⟨us, []⟩) (CR CX0 outer P w H s Q E0) s
theorem m5.mono {P : Program} {w : World} {K : PySem.W.Frag} {mg : Str → Option Value} {base : Heap} {j k : Nat} {sp : Addr → Sp} (F : m5 P w K mg base j sp) (h : j ≤ k) : m5 P w K mg base k sp :=
 fun f A outer s H us vs Q hr => F f A outer s H us vs Q (hr.mono h)
def Bl (i : Nat) (sp : Addr → Sp) (t : TA) : TE := fun σ H Q => ∃ f o fd, σ[i]? = some (some (.ref f)) ∧ H f = some (aH f o) ∧ o.data = .func fd ∧ t σ H fun vs H1 => H1 f = some (aH f o) ∧ sp f vs H1 Q E0
section
variable {X : Cx} {k i : Nat} {x : Str} {p pos : Pos} {e : Expr} {es : List Expr} {t : TA} {sp : Addr → Sp}
theorem dw (C : m5 X.prog X.w X.K X.mg X.base k sp) (hr : cL k X.A) (hi : X.N[i]? = some x) (ha : PA X (e :: es) t) (hv : Vis X.env.scope x := by first | exact Or.inl rfl | exact Or.inr (Or.inl rfl) | exact Or.inr (Or.inr rfl))
  (hd : (x == ("__debug__" : Str)) = false := by decide) (hcd : (x == ("__classdict__" : Str)) = false := by decide)
  (he : starEach (e :: es) X.env = (false, eval e X.env) :: starEach es X.env := by rfl) (hpl : (backTo pos (starEach es X.env)).any (·.1) = false := by rfl) : PE X (.Call (.Name x p) (e :: es) [] pos) (Bl i sp t) := by
 intro pins s σ H Q I h
 obtain ⟨f, o, fd, hs, hf, ho, h⟩ := h
 refine wpAny_Call_Name_kw (thn (uU hi hv hd hcd pins s σ H (fun v H' => v = .ref f ∧ H' = H) I ⟨_, hs, rfl, rfl⟩) fun u s1 hu => ?_)
 obtain ⟨v, H1, I1, rv, rfl, rfl⟩ := hu
 obtain rfl : u = Value.ref f := rv
 have fa : ∀ {H : Hp} {s : Shared}, Inv X pins σ H s → H f = some (aH f o) → FnAt f s.heap := fun {H s} J hf => by
  obtain ⟨oc, od, dt, sl⟩ := o
  have ho : dt = .func fd := ho
  subst ho
  exact ⟨oc, od, fd, sl, cz J.hok hf⟩
 refine callWith_F (fa I1 hf) (thn (ha pos pins s1 σ H1 _ I1 h) fun us s2 ⟨vs, H2, I2, r, hf2, q⟩ => ⟨fa I2 hf2, ?_⟩) he hpl
 refine wpAny_call (codeAny_mono (C f X.A X.stack s2 H2 us vs Q hr I2.env0 r q) fun r s' hq => ?_)
 cases r with
 | error e => exact False.elim hq
 | ok fl =>
  cases fl with
  | ret u => exact I2.after hq
  | next => exact False.elim hq
  | brk => exact False.elim hq
  | cont => exact False.elim hq
end
def BMain (mg : Str → Option Value) (h : Heap) : Prop := ∃ bm ob, mg "__builtins__" = some (.ref bm) ∧ bm ≠ builtinsNs ∧ h.get? bm = some ob ∧ ob.cls = .type "module" ∧ ob.dict = some builtinsNs ∧ ob.data = .plain
def TabAt (H : Hp) (P : Addr) (pos : Pos) (qual : Str) : Prop := ∃ ps : Array Value, H P = some (.tbl ps) ∧ TriplesOk ps.toList ∧
 (codeAmong pos ps.toList = none ∨ ∃ (cd : Addr) (oc : Obj) (vs : Array Value) (t : Tok), codeAmong pos ps.toList = some (.ref cd) ∧ H cd = some (aH cd oc) ∧ oc.data = .fields vs ∧ vs[1]? = some (.str qual t))
section
variable {X : Cx} {pins : List (Addr × Obj)} {σ : St} {H : Hp} {s : Shared} {c P : Addr} {name qual : Str} {params : Arguments} {body : List Stmt} {scope : Scope} {clos : List (Str × Addr)} {pos : Pos} {n : Nat}
theorem zg {M : Model} {A : Around} {E : Value → Shared → Prop} {Q : Value → Shared → Prop} (I : Inv X pins σ H s) (bm : BMain X.mg X.base) (hcode : X.env.code = .ref c) (C : CodeHd X.base c P) (hT : TabAt H P pos qual) (hcl : closureFor scope X.env = pure clos)
  (h : ∀ (fi cd : Addr) (doc pm ctv : Value) (oc : Obj) (vs : Array Value) (t : Tok) (H1 : Hp) (s1 : Shared), Inv X pins σ H1 s1 → H fi = none → (∀ b o, H b = some o → b ≠ P → H1 b = some o) → TabAt H1 P pos qual →
   H1 fi = some (aH fi (fnMade name qual params body scope clos doc pm cd ctv)) → H1 cd = some (aH cd oc) → oc.data = .fields vs → vs[1]? = some (.str qual t) → Q (.ref fi) s1) :
  wpAny M A (makeFunction name qual params (.stmts body) scope X.env [] [] [] pos n) Q E s := by
 obtain ⟨ps, hP, htr, hcase⟩ := hT
 have hPs : s.heap.get? P = some (tabObj ps) := I.hok P _ hP
 have G := I.mod.glob.keeps I.bk
 obtain ⟨bm, ob, b1, b2, b3, b4, b5, b6⟩ := bm
 have b3' := I.bk _ _ b3
 have hgP : mainGlobals ≠ P := fun q => by
  obtain ⟨o, es, ep, e, hd, _⟩ := G
  rw [q, hPs] at e; cases e; cases hd
 have hbP : bm ≠ P := fun q => by
  rw [q, hPs] at b3'; cases b3'; cases b4
 have hbG : bm ≠ mainGlobals := fun q => by
  obtain ⟨o, es, ep, e, hd, _⟩ := G
  rw [q, e] at b3'; cases b3'; rw [hd] at b6; cases b6
 have hbu : s.heap.BuiltinsAt X.mg P := ⟨bm, ob, b1, b2, hbG, hbP, b3', b4, b5, b6⟩
 rcases hcase with hnf | ⟨cd, oc, vs, t, hf, hcd, hd, hv⟩
 ·refine makeFunction_K (mg := X.mg) hcl I.ok.glob G hcode (C.keeps I.bk) hPs htr hnf hgP hbu fun c' ctv doc h' tk hx hge hlt hrec htb => ?_
  obtain ⟨c2, oc, vs, t, e2, hoc, hd, hv⟩ := hrec
  cases e2
  have nc : H c' = none := I.hok.fresh hge
  have nf : H h'.objs.size = none := I.hok.fresh (Nat.le_trans hge (Nat.le_of_lt hlt))
  have nPc : P ≠ c' := aO hP nc
  have nPf : P ≠ h'.objs.size := aO hP nf
  have ncf : c' ≠ h'.objs.size := Nat.ne_of_lt hlt
  have k1 : ∀ b, b ≠ P → b ≠ c' → b ≠ h'.objs.size → upd (upd (upd H P (.tbl (ps ++ #[rawInt pos.line, rawInt pos.col, .ref c']))) c' (aH c' oc)) h'.objs.size (aH h'.objs.size (fnMade name qual params body scope clos doc ((X.mg "__name__").getD .none) c' ctv)) b = H b := fun b e1 e2 e3 => by
   rw [aG e3, aG e2, aG e1]
  have kS : ∀ b o, H b = some o → b ≠ P → upd (upd (upd H P (.tbl (ps ++ #[rawInt pos.line, rawInt pos.col, .ref c']))) c' (aH c' oc)) h'.objs.size (aH h'.objs.size (fnMade name qual params body scope clos doc ((X.mg "__name__").getD .none) c' ctv)) b = some o := fun b o e n => by
   rw [k1 b n (aO e nc) (aO e nf)]
   exact e
  have kP : upd (upd (upd H P (.tbl (ps ++ #[rawInt pos.line, rawInt pos.col, .ref c']))) c' (aH c' oc)) h'.objs.size (aH h'.objs.size (fnMade name qual params body scope clos doc ((X.mg "__name__").getD .none) c' ctv)) P = some (.tbl (ps ++ #[rawInt pos.line, rawInt pos.col, .ref c'])) := by
   rw [aG nPf, aG nPc, ak]
  have kc : upd (upd (upd H P (.tbl (ps ++ #[rawInt pos.line, rawInt pos.col, .ref c']))) c' (aH c' oc)) h'.objs.size (aH h'.objs.size (fnMade name qual params body scope clos doc ((X.mg "__name__").getD .none) c' ctv)) c' = some (aH c' oc) := by
   rw [aG ncf, ak]
  have kf : upd (upd (upd H P (.tbl (ps ++ #[rawInt pos.line, rawInt pos.col, .ref c']))) c' (aH c' oc)) h'.objs.size (aH h'.objs.size (fnMade name qual params body scope clos doc ((X.mg "__name__").getD .none) c' ctv)) h'.objs.size = some (aH h'.objs.size (fnMade name qual params body scope clos doc ((X.mg "__name__").getD .none) c' ctv)) := ak
  generalize upd (upd (upd H P (.tbl (ps ++ #[rawInt pos.line, rawInt pos.col, .ref c']))) c' (aH c' oc)) h'.objs.size (aH h'.objs.size (fnMade name qual params body scope clos doc ((X.mg "__name__").getD .none) c' ctv)) = H1 at *
  have old : ∀ b o, s.heap.get? b = some o → b ≠ P → (h'.push (fnMade name qual params body scope clos doc ((X.mg "__name__").getD .none) c' ctv)).get? b = some o := fun b o e n => Heap.get?_push_of_some _ (hx b o n e)
  have tabP : (h'.push (fnMade name qual params body scope clos doc ((X.mg "__name__").getD .none) c' ctv)).get? P = some (tabObj (ps ++ #[rawInt pos.line, rawInt pos.col, .ref c'])) := Heap.get?_push_of_some _ htb
  have hl : (ps ++ #[rawInt pos.line, rawInt pos.col, .ref c']).toList = ps.toList ++ [rawInt pos.line, rawInt pos.col, .ref c'] := by simp
  refine h h'.objs.size c' doc _ ctv oc vs t H1 _ (I.call' (ch := []) rfl ⟨fun b o e n hb hx' => ?_, fun b o e n hb hx' => ?_, fun b o e n hx' => ?_, fun b o e hx' => ?_, fun b xs e => ?_, fun b o u e => ?_, fun b qs e => ?_⟩ (fun b u e => ?_) I.bare fun b z => absurd z (by simp)) nf kS ⟨_, kP, by rw [hl]; exact TriplesOk_snoc _ _ _ _ htr, .inr ⟨c', oc, vs, t, by rw [hl]; exact codeAmong_snoc _ htr hnf, kc, hd, hv⟩⟩ kf kc hd hv
  ·exact old b o e fun z => by rw [z, hP] at n; cases n
  ·exact ⟨o.slots, old b o e fun z => by rw [z, hP] at n; cases n⟩
  ·rw [k1 b (fun z => by rw [z, hP] at n; cases n) (Nat.ne_of_lt (Nat.lt_of_lt_of_le (Heap.lt_size e) hge)) (Nat.ne_of_lt (Nat.lt_of_lt_of_le (Heap.lt_size e) (Nat.le_trans hge (Nat.le_of_lt hlt))))]
   exact n
  ·by_cases z : b = P
   ·exact ⟨_, by rw [z]; exact tabP⟩
   ·exact ⟨o, old b o e z⟩
  ·exact kS b _ e fun z => by rw [z, hP] at e; cases e
  ·exact kS b _ e fun z => by rw [z, hP] at e; cases e
  ·by_cases z : b = P
   ·rw [z, hP] at e
    cases e
    exact ⟨_, by rw [z]; exact kP⟩
   ·exact ⟨#[], by rw [kS b _ e z]; simp⟩
  ·by_cases z1 : b = h'.objs.size
   ·rw [z1, kf] at e
    cases e
    rw [z1]
    exact dh (Heap.get?_push_size _ rfl)
   by_cases z2 : b = c'
   ·rw [z2, kc] at e
    cases e
    rw [z2]
    exact dh (Heap.get?_push_of_some _ hoc)
   by_cases z3 : b = P
   ·rw [z3, kP] at e
    cases e
    rw [z3]
    exact tabP
   rw [k1 b z3 z2 z1] at e
   refine (I.hok b u e).stay (fun d o hd' q => old d o q ?_) (fun d q => kS d _ q ?_) fun d xs q => kS d _ q ?_
   ·rcases hd' with rfl | hd'
    ·exact z3
    ·exact fun z => by rw [z, hP] at hd'; cases hd'
   ·exact fun z => by rw [z, hP] at q; cases q
   ·exact fun z => by rw [z, hP] at q; cases q
 ·refine makeFunction_hit (mg := X.mg) hcl I.ok.glob G hcode (C.keeps I.bk) hPs htr hf hbu fun ctv doc h' tk hk hsz => ?_
  have nf : H h'.objs.size = none := I.hok.fresh hsz
  have kS : ∀ b o, H b = some o → upd H h'.objs.size (aH h'.objs.size (fnMade name qual params body scope clos doc ((X.mg "__name__").getD .none) cd ctv)) b = some o := fun b o e => by
   rw [aG (aO e nf)]
   exact e
  have old : ∀ b o, s.heap.get? b = some o → (h'.push (fnMade name qual params body scope clos doc ((X.mg "__name__").getD .none) cd ctv)).get? b = some o := fun b o e => Heap.get?_push_of_some _ (hk b o e)
  refine h h'.objs.size cd doc _ ctv oc vs t _ _ (I.call' (ch := []) rfl (Un.laid old hsz nf) (fun b u e => ?_) I.bare fun b z => absurd z (by simp)) nf (fun b o e _ => kS b o e) ⟨ps, kS _ _ hP, htr, .inr ⟨cd, oc, vs, t, hf, kS _ _ hcd, hd, hv⟩⟩ ak (kS _ _ hcd) hd hv
  by_cases z1 : b = h'.objs.size
  ·rw [z1, ak] at e
   cases e
   rw [z1]
   exact dh (Heap.get?_push_size _ rfl)
  rw [aG z1] at e
  exact (I.hok b u e).stay (fun d o _ q => old d o q) (fun d q => kS d _ q) fun d xs q => kS d _ q
end
section
variable {CX : CXT} {P : Program} {w : World} {K : PySem.W.Frag} {mg : Str → Option Value} {base : Heap} {N : List Str} {qual : Str} {scope : Scope} {f c Pt : Addr} {A : Around} {outer : List Env} {s0 s : Shared} {H0 H : Hp} {E : XK} {σ : St} {Q : VK}
theorem zH {T : pC} {cs : List Addr} {fvs : List V} {pos p1 p2 : Pos} {i : Nat} (I : Inv (fM CX P w K mg base N qual scope f (.ref c) A outer s0 H0 E) [] σ H s) (bm : BMain mg base) (C : CodeHd base c Pt) (hT : TabAt H Pt pos T.qual)
  (hnd : N.Nodup) (hi : N[i]? = some T.name) (hloc : scope.names.lookup T.name = some .local) (hq : qualnameIn (envOfC qual scope s0.heap.objs.size f (.ref c)) T.name T.name = T.qual)
  (hcl : closureFor T.scope (envOfC qual scope s0.heap.objs.size f (.ref c)) = pure (T.xs.zip cs)) (hd0 : T.params.defaults = []) (hk0 : T.params.kw_defaults = []) (ha : annTrees T.params none (envOfC qual scope s0.heap.objs.size f (.ref c)) = [])
  (hndC : cs.Nodup) (hlen : cs.length = T.xs.length) (hlenV : fvs.length = T.xs.length)
  (hfv : ∀ (j : Nat) (a : Addr), cs[j]? = some a → ∃ (x : Str) (m : Nat) (v : V), (envOfC qual scope s0.heap.objs.size f (.ref c)).cells.lookup x = some a ∧ scope.names.lookup x = some .cell ∧ N[m]? = some x ∧ σ[m]? = some (some v) ∧ fvs[j]? = some v ∧ m ≠ i)
  (hQ : ∀ (fi : Addr) (H2 : Hp), H fi = none → (∀ a ∈ cs, H a = none) → (∀ b o, H b = some o → b ≠ Pt → H2 b = some o) → TabAt H2 Pt pos T.qual → iW H2 fi T cs fvs → Q (.ref fi) H2)
  (hdb : (T.name == ("__debug__" : Str)) = false := by decide) (hcdn : (T.name == ("__classdict__" : Str)) = false := by decide) :
  wpAny (model P w) (A.deeper (envOfC qual scope s0.heap.objs.size f (.ref c))) (execs [.FunctionDef T.name T.params T.body [] none [] T.scope none T.name pos, .Return (some (.Name T.name p1)) p2] (envOfC qual scope s0.heap.objs.size f (.ref c)))
   (fun fl s' => ∃ u, fl = .ret u ∧ CE outer P w H0 s0 Q u s') (fM CX P w K mg base N qual scope f (.ref c) A outer s0 H0 E).xe s := by
 refine wpAny_execs_cons (nestDef_K hd0 hk0 ha ?_)
 rw [hq]
 refine zg (X := fM CX P w K mg base N qual scope f (.ref c) A outer s0 H0 E) (n := pos.line) I bm rfl C hT hcl fun fi cd doc pm ctv oc vs t H1 s1 I1 nfi keep hT1 hf1 hc1 hd hv => ?_
 refine jZ (X := fM CX P w K mg base N qual scope f (.ref c) A outer s0 H0 E) (v := .ref fi) I1 hnd hi (.inl hloc) rfl (fun s2 I2 => ?_) (.inr hloc)
 have hiσ : i < σ.length := by rw [I.len]; exact (List.getElem?_eq_some_iff.mp hi).1
 refine wpAny_execs_cons (wpAny_Return_some (thn (uU (X := fM CX P w K mg base N qual scope f (.ref c) A outer s0 H0 E) hi (.inl hloc) hdb hcdn [] s2 _ H1 (fun v H' => v = .ref fi ∧ H' = H1) I2 ⟨_, List.getElem?_set_self hiσ, rfl, rfl⟩) fun u s3 hu => ?_))
 obtain ⟨v, H', J, rv, rfl, rfl⟩ := hu
 refine ⟨u, rfl, .ref fi, fun b => if b ∈ cs then (s3.heap.get? b).map (aH b) else H' b, J.os, J.bare, ?_, ?_, rv, ?_⟩
 all_goals
  have cellsOf : ∀ a ∈ cs, ∃ x, (envOfC qual scope s0.heap.objs.size f (.ref c)).cells.lookup x = some a := fun a ha' => by
   obtain ⟨j, hj⟩ := List.getElem?_of_mem ha'
   obtain ⟨x, m, v, h1, _⟩ := hfv j a hj
   exact ⟨x, h1⟩
  have fresh : ∀ a ∈ cs, s0.heap.objs.size ≤ a := fun a ha' => by
   obtain ⟨x, hx⟩ := cellsOf a ha'
   exact J.ok.cab x a rfl hx
  have gone : ∀ a ∈ cs, H' a = none := fun a ha' => by
   obtain ⟨x, hx⟩ := cellsOf a ha'
   exact J.freeC x a hx
  have out : ∀ b o, H' b = some o → b ∉ cs := fun b o e z => by
   rw [gone b z] at e
   cases e
 ·have U : Un (frs outer) [] H0 H' s0.heap s3.heap := J.base
  refine ⟨U.keep, U.slot, fun b o e n hx' => ?_, U.there, fun b xs e => ?_, fun b o v e => ?_, fun b ps e => ?_⟩
  ·show (if b ∈ cs then _ else H' b) = none
   rw [if_neg (fun z => absurd (Nat.lt_of_lt_of_le (Heap.lt_size e) (fresh b z)) (Nat.lt_irrefl _))]
   exact U.free b o e n hx'
  ·have e1 := U.tups b xs e
   show (if b ∈ cs then _ else H' b) = _
   rw [if_neg (out b _ e1)]
   exact e1
  ·have e1 := U.frzs b o v e
   show (if b ∈ cs then _ else H' b) = _
   rw [if_neg (out b _ e1)]
   exact e1
  ·obtain ⟨more, e1⟩ := U.tbls b ps e
   refine ⟨more, ?_⟩
   show (if b ∈ cs then _ else H' b) = _
   rw [if_neg (out b _ e1)]
   exact e1
 ·intro b u' e
  have e : (if b ∈ cs then (s3.heap.get? b).map (aH b) else H' b) = some u' := e
  by_cases hb : b ∈ cs
  ·rw [if_pos hb] at e
   cases q : s3.heap.get? b with
   | none => rw [q] at e; cases e
   | some o =>
    rw [q] at e
    cases e
    exact dh q
  ·rw [if_neg hb] at e
   refine (J.hok b u' e).stay (fun _ _ _ q => q) (fun d q => ?_) fun d xs q => ?_
   ·show (if d ∈ cs then _ else H' d) = _
    rw [if_neg (out d _ q)]
    exact q
   ·show (if d ∈ cs then _ else H' d) = _
    rw [if_neg (out d _ q)]
    exact q
 ·have kp : ∀ b o, H' b = some o → (fun b => if b ∈ cs then (s3.heap.get? b).map (aH b) else H' b) b = some o := fun b o e => by
   show (if b ∈ cs then _ else H' b) = _
   rw [if_neg (out b _ e)]
   exact e
  refine hQ fi _ nfi (fun a ha' => ?_) (fun b o e n => kp b o (keep b o e n)) ?_ ⟨⟨cd, doc, pm, ctv, oc, vs, t, kp _ _ hf1, kp _ _ hc1, hd, hv⟩, fun j a hj => ?_, hndC, hlen, hlenV⟩
  ·obtain ⟨x, hx⟩ := cellsOf a ha'
   exact I.freeC x a hx
  ·obtain ⟨ps, e1, e2, e3⟩ := hT1
   refine ⟨ps, kp _ _ e1, e2, ?_⟩
   rcases e3 with e3 | ⟨cd', oc', vs', t', e4, e5, e6⟩
   ·exact .inl e3
   ·exact .inr ⟨cd', oc', vs', t', e4, kp _ _ e5, e6⟩
  ·obtain ⟨x, m, v, h1, h2, h3, h4, h5, h6⟩ := hfv j a hj
   obtain ⟨mm, _, hl⟩ := J.loc
   obtain ⟨u', r', l⟩ := hl m x v h3 (by rw [List.getElem?_set_ne (Ne.symm h6)]; exact h4) (.inr (.inl h2))
   have l' : ∃ c', (envOfC qual scope s0.heap.objs.size f (.ref c)).cells.lookup x = some c' ∧ s3.heap.IsCell c' (some u') := by
    rcases l with ⟨l1, _⟩ | ⟨_, l2⟩
    ·have l1 : scope.names.lookup x = some .local := l1
     rw [h2] at l1
     cases l1
    ·exact l2
   obtain ⟨c', l1, co, l2, l3⟩ := l'
   rw [h1] at l1
   cases l1
   refine ⟨co, v, u', h5, ?_, l3, r'⟩
   show (if a ∈ cs then (s3.heap.get? a).map (aH a) else H' a) = _
   rw [if_pos (List.mem_of_getElem? hj), l2]
   rfl
theorem yg {k : Nat} {name : Str} {params : Arguments} {body : List Stmt} {dV kV doc pm cdv ct oc : Value} {an od : Option Addr} {osl : Array (Option Value)} {ps : List Str} {sp : Sp} (lk : K.lookup f = some ⟨oc, od, .func (PySem.W.fnOf name qual params body scope dV kV doc pm an cdv ct), osl⟩) (hcd : PySem.W.codeIn K cdv qual = true) (S : aD N ps scope)
  (len : ∀ vs H Q E, sp vs H Q E → vs.length = ps.length)
  (hbody : ∀ (A : Around) (outer : List Env) (s : Shared) (H : Hp) (vs : List V) (Q : VK) (E : XK) (s1 : Shared), cL k (A.deeper (envOfC qual scope s.heap.objs.size f cdv)) → sp vs H Q E → Inv (fM CX0 P w K mg base N qual scope f cdv A outer s H E) [] (start N vs) H s1 →
   wpAny (model P w) (A.deeper (envOfC qual scope s.heap.objs.size f cdv)) (execs body (envOfC qual scope s.heap.objs.size f cdv)) (fun fl s' => ∃ u, fl = .ret u ∧ CE outer P w H s Q u s') (fM CX0 P w K mg base N qual scope f cdv A outer s H E).xe s1) :
  bh P w K mg base CX0 (k + 1) f (PySem.W.fnOf name qual params body scope dV kV doc pm an cdv ct) ps sp := by
 refine ⟨len, fun A outer s H args us vs Q E hr e0 hb r hsp => ?_⟩
 have hl := len _ _ _ _ hsp
 have KX : K.In s.heap := e0.mod.kin.keeps fun b o e => (e0.bs b o e).1
 have lim : s.heap.NoLimit := e0.mod.nolimit.keeps fun b o e => (e0.bs b o e).1
 have hkind : ∀ y ∈ ps.zip us, scope.names.lookup y.1 = some .local ∨ (scope.names.lookup y.1 = some .cell ∧ ((cellsFrom (s.heap.objs.size + 1) scope.names []).lookup y.1).isSome = true) := fun ⟨n, v⟩ hy => by
  rcases S.par n (List.of_mem_zip hy).1 with q | q
  ·exact .inl q
  ·exact .inr ⟨q, PySem.W.cellsFrom_some _ _ _ (.inl q)⟩
 refine codeAny_call_function hr.depth (KX _ _ lk) rfl S.co S.gen rfl (PySem.W.codeRec_of KX hcd) (hb _ _ _ _ ?_)
 refine wpAny_newFunctionEnv_cells S.kind hkind fun env he s1 x => ?_
 subst he
 refine ⟨lim.keeps x.toInCall.keep, codeAny_func ?_⟩
 have I : Inv (fM CX0 P w K mg base N qual scope f cdv A outer s H E) [] (start N vs) H s1 := qp S hr.hd e0 hl r x
 refine wpAny_mono (hbody A outer s H vs Q E s1 (hr.deeper _) hsp I) (fun fl s' hs => ?_) fun e s' hs => hs
 obtain ⟨u, rfl, q⟩ := hs
 exact q
end
end L2
set_option Elab.async false
set_option linter.all false
set_option maxRecDepth 100000
set_option maxHeartbeats 4000000
namespace L2
open PySem PySem.Spec PyProof.Rows PySem.W
theorem wB {P : Program} {w : World} {K : PySem.W.Frag} {mg mb : Str → Option Value} {k : Nat} {fa a : Addr} {fd : FuncData} {x : Str} {sp : Sp} {s₁ : Shared} {vs : List Value} {ns : List Int} {tabs : List (Addr × Addr)}
  (KX : K.In s₁.heap) (hns : s₁.heap.Ns mainGlobals mg) (hb : s₁.heap.Ns builtinsNs mb) (hbb : ∀ x : Str, x ≠ "__name__" → mb x = bootBuiltins x) (hlim : s₁.heap.NoLimit) (hbm : BMain mg s₁.heap) (hT : TabsAt tabs s₁.heap) (hNT : noTabs K = true) (hg : s₁.gens = #[])
  (ha : s₁.heap.get? a = some { cls := .type "list", data := .seq vs.toArray }) (hi : IntsAre vs ns) (hl : ns.length ≤ sizeLine) (hr : cL k callerA)
  (F : ∀ base : Heap, K.In base → base.Ns mainGlobals mg → BMain mg base → (∀ q ∈ tabs, CodeHd base q.1 q.2) → bh P w K mg base CX0 k fa fd [x] sp) (hbind : ∀ (s : Shared) (u : Value), BindsTo s fd ⟨[u], []⟩ [(x, u)])
  (hsp : ∀ H : Hp, SqL K H a (ns.map V.int) → (∀ q ∈ tabs, H q.2 = some (.tbl #[])) → sp [.ref a] H (fun v _ => v = .bl true) fun _ _ _ => False) :
  codeAny (model P w) callerA (.call (.ref fa) ⟨[.ref a], []⟩) (fun r s' => r = .ok (.ret (.bool true)) ∧ OldK s₁.heap s'.heap ∧ s'.os = s₁.os ∧ AllBare s'.gens) s₁ := by
 have rv := qD hi
 have lenV := hi.length
 have tabNoK : ∀ b, b ∈ tabs.map (·.2) → K.lookup b = none := fun b hb' => by
  cases q : K.lookup b with
  | none => rfl
  | some o =>
   obtain ⟨r, hr', rfl⟩ := List.mem_map.mp hb'
   have e := KX _ _ q
   rw [(hT r hr').2] at e
   cases e
   have h2 := List.all_eq_true.mp hNT _ (mem_of_lookupK q)
   exact absurd (show false = true from h2) Bool.false_ne_true
 have aNoT : a ∉ tabs.map (·.2) := fun z => by
  obtain ⟨r, hr', e⟩ := List.mem_map.mp z
  have e2 := (hT r hr').2
  rw [e, ha] at e2
  cases e2
 have core : ∀ H : Hp, (∀ b, H b = none ∨ (b = a ∧ K.lookup a = none ∧ H b = some (.frz { cls := .type "list", data := .seq vs.toArray } (.lst (ns.map V.int)))) ∨ (b ∈ tabs.map (·.2) ∧ H b = some (.tbl #[]))) → (∀ q ∈ tabs, H q.2 = some (.tbl #[])) → SqL K H a (ns.map V.int) → HOk P w H s₁.heap →
   codeAny (model P w) callerA (.call (.ref fa) ⟨[.ref a], []⟩) (fun r s' => r = .ok (.ret (.bool true)) ∧ OldK s₁.heap s'.heap ∧ s'.os = s₁.os ∧ AllBare s'.gens) s₁ := by
  intro H hO hTb hS hok
  have base_of : ∀ {b : Addr} {o : Obj}, s₁.heap.get? b = some o → H b = none → (pJ s₁.heap H).get? b = some o := fun e n => yu e n
  have noA : ∀ {b : Addr} {o : Obj}, s₁.heap.get? b = some o → o.cls ≠ .type "list" → o.cls ≠ .none → H b = none := fun {b o} e d1 d2 => by
   rcases hO b with z | ⟨rfl, _, z⟩ | ⟨z, _⟩
   ·exact z
   ·rw [ha] at e
    cases e
    exact absurd rfl d1
   ·obtain ⟨r, hr', rfl⟩ := List.mem_map.mp z
    rw [(hT r hr').2] at e
    cases e
    exact absurd rfl d2
  have noD : ∀ {b : Addr} {o : Obj} {es : Array DictEntry} {ep : Nat}, s₁.heap.get? b = some o → o.data = .dict es ep → H b = none := fun {b o es ep} e d => by
   rcases hO b with z | ⟨rfl, _, z⟩ | ⟨z, _⟩
   ·exact z
   ·rw [ha] at e; cases e
    have d' : Data.seq vs.toArray _ = Data.dict es ep := d
    cases d'
   ·obtain ⟨r, hr', rfl⟩ := List.mem_map.mp z
    rw [(hT r hr').2] at e
    cases e
    have d' : Data.fields _ = Data.dict es ep := d
    cases d'
  have nsK : ∀ {b : Addr} {m : Str → Option Value}, s₁.heap.Ns b m → (pJ s₁.heap H).Ns b m := fun {b m} ⟨o, es, ep, e, d, r⟩ => ⟨o, es, ep, base_of e (noD e d), d, r⟩
  have hKb : K.In (pJ s₁.heap H) := fun b o e => base_of (KX b o e) (by
   rcases hO b with z | ⟨rfl, z, _⟩ | ⟨z, _⟩
   ·exact z
   ·rw [e] at z; cases z
   ·rw [tabNoK b z] at e; cases e)
  have hM : Mod K mg (pJ s₁.heap H) := ⟨hKb, nsK hns, ⟨mb, nsK hb, hbb⟩, let ⟨mc, h1, h2⟩ := hlim; ⟨mc, nsK h1, h2⟩⟩
  have hB : BMain mg (pJ s₁.heap H) := by
   obtain ⟨bm, ob, b1, b2, b3, b4, b5⟩ := hbm
   exact ⟨bm, ob, b1, b2, base_of b3 (noA b3 (by rw [b4]; decide) (by rw [b4]; nofun)), b4, b5⟩
  have hC : ∀ q ∈ tabs, CodeHd (pJ s₁.heap H) q.1 q.2 := fun q hq => by
   obtain ⟨o, ws, file, tf, flags, tg, inF, text, tt, e1, r1, r2⟩ := (hT q hq).1
   exact ⟨o, ws, file, tf, flags, tg, inF, text, tt, base_of e1 (noA e1 (by rw [r1]; decide) (by rw [r1]; nofun)), r1, r2⟩
  have e0 : rT P w K mg (pJ s₁.heap H) callerA [] s₁ H := ⟨rfl, hM, fun b o e => zy e, Nat.le_of_eq (xQ _ _), trivial, fun b hb => absurd (show b ∈ ([] : List Addr) from hb) (by simp), hok, .of_eq hg⟩
  refine codeAny_mono ((F _ hKb (nsK hns) hB hC).run callerA [] s₁ H ⟨[.ref a], []⟩ [.ref a] [.ref a] _ _ hr e0 (hbind s₁ (.ref a)) (.cons rfl .nil) (hsp H hS hTb)) fun r s' h => ?_
  cases r with
  | error e => exact False.elim h
  | ok fl =>
   cases fl with
   | next => exact False.elim h
   | brk => exact False.elim h
   | cont => exact False.elim h
   | ret u =>
    obtain ⟨v, H', os, bare, un, hok', r', q⟩ := h
    have q' : v = .bl true := q
    subst q'
    obtain rfl : u = Value.bool true := r'
    refine ⟨rfl, ⟨fun b o e => ?_, fun b o e => un.there b o e (by simp)⟩, os, bare⟩
    rcases hO b with z | ⟨rfl, _, z⟩ | ⟨z1, z⟩
    ·exact .inl (un.keep b o e z (by intro z; exact absurd (show b ∈ ([] : List Addr) from z) (by simp)) (by simp))
    ·have z2 := un.frzs b _ _ z
     obtain ⟨e1, _⟩ := hok b _ z
     obtain ⟨e2, _⟩ := hok' b _ z2
     rw [e] at e1; cases e1
     exact .inl e2
    ·obtain ⟨more, z2⟩ := un.tbls b _ z
     have e1 : s'.heap.get? b = some { cls := .none, data := .fields (#[] ++ more) } := hok' b _ z2
     obtain ⟨r, hr', rfl⟩ := List.mem_map.mp z1
     have e2 := (hT r hr').2
     rw [e] at e2
     cases e2
     exact .inr (.inl ⟨((hT r hr').1.tab (hT r hr').2).isCodeTable, rfl, #[], more, rfl, e1⟩)
 cases hk : K.lookup a with
 | some o =>
  have e := KX a o hk
  rw [ha] at e
  cases e
  refine core (fun b => if b ∈ tabs.map (·.2) then some (.tbl #[]) else none) (fun b => ?_) (fun q hq => if_pos (List.mem_map_of_mem hq)) (.inr ⟨_, vs.toArray, _, hk, rfl, rfl, rfl, by rw [List.size_toArray, lenV]; exact hl, by simpa using rv⟩) (fun b u z => ?_)
  ·by_cases hb' : b ∈ tabs.map (·.2)
   ·exact .inr (.inr ⟨hb', if_pos hb'⟩)
   ·exact .inl (if_neg hb')
  ·by_cases hb' : b ∈ tabs.map (·.2)
   ·have z' := (if_pos hb').symm.trans z
    cases z'
    obtain ⟨r, hr', rfl⟩ := List.mem_map.mp hb'
    exact (hT r hr').2
   ·have z' := (if_neg hb').symm.trans z
    cases z'
 | none =>
  have hA : (fun b => if b = a then some (.frz { cls := .type "list", data := .seq vs.toArray } (.lst (ns.map V.int))) else if b ∈ tabs.map (·.2) then some (.tbl #[]) else none : Hp) a = some (.frz { cls := .type "list", data := .seq vs.toArray } (.lst (ns.map V.int))) := if_pos rfl
  have hTt : ∀ b ∈ tabs.map (·.2), (fun b => if b = a then some (.frz { cls := .type "list", data := .seq vs.toArray } (.lst (ns.map V.int))) else if b ∈ tabs.map (·.2) then some (.tbl #[]) else none : Hp) b = some (.tbl #[]) := fun b hb' => by
   have hne : b ≠ a := fun e => aNoT (e ▸ hb')
   show (if b = a then _ else if b ∈ tabs.map (·.2) then _ else _) = _
   rw [if_neg hne, if_pos hb']
  have hN : ∀ b, b ≠ a → b ∉ tabs.map (·.2) → (fun b => if b = a then some (.frz { cls := .type "list", data := .seq vs.toArray } (.lst (ns.map V.int))) else if b ∈ tabs.map (·.2) then some (.tbl #[]) else none : Hp) b = none := fun b h1 h2 => by
   show (if b = a then _ else if b ∈ tabs.map (·.2) then _ else _) = _
   rw [if_neg h1, if_neg h2]
  generalize (fun b => if b = a then some (.frz { cls := .type "list", data := .seq vs.toArray } (.lst (ns.map V.int))) else if b ∈ tabs.map (·.2) then some (.tbl #[]) else none : Hp) = H at *
  refine core H (fun b => ?_) (fun q hq => hTt _ (List.mem_map_of_mem hq)) (.inl (.inr ⟨{ cls := .type "list", data := .seq vs.toArray }, hA⟩)) (fun b u z => ?_)
  ·by_cases h1 : b = a
   ·rw [h1]
    exact .inr (.inl ⟨rfl, hk, hA⟩)
   ·by_cases h2 : b ∈ tabs.map (·.2)
    ·exact .inr (.inr ⟨h2, hTt b h2⟩)
    ·exact .inl (hN b h1 h2)
  ·by_cases h1 : b = a
   ·rw [h1, hA] at z
    cases z
    rw [h1]
    exact ⟨ha, by rw [List.length_map]; exact hl, vs, _, rv, ha⟩
   ·by_cases h2 : b ∈ tabs.map (·.2)
    ·rw [hTt b h2] at z
     cases z
     obtain ⟨r, hr', rfl⟩ := List.mem_map.mp h2
     exact (hT r hr').2
    ·rw [hN b h1 h2] at z
     cases z
theorem yd {l : PySem.W.OpenLaw} {n k : Nat} {q : Program} {loose : List Str} {XP : (Str → Option Value) → Heap → Prop} {YP : World → Heap → Prop} {d : DefRec} {K : Params → PySem.W.Frag} {x : Str}
  (hn : l.most = some n) (hn2 : n ≤ sizeLine) (hdf : d.params.defaults = []) (hr : cL k callerA)
  (hY : ∀ (w : World) (h : Heap), YP w h → (K w.params).In h)
  (F : ∀ (w : World) (mg mb : Str → Option Value) (mean : ExcName → Option Value) (fa : Addr) (h : Heap), (K w.params).In h → Top q (looseW q loose) mean mg mb h → mg d.name = some (.ref fa) →
   ∃ (fd : FuncData) (tabs : List (Addr × Addr)) (sp : Sp), (∀ (s : Shared) (u : Value), BindsTo s fd ⟨[u], []⟩ [(x, u)]) ∧ TabsAt tabs h ∧ noTabs (K w.params) = true ∧
    (∀ base : Heap, (K w.params).In base → base.Ns mainGlobals mg → BMain mg base → (∀ q ∈ tabs, CodeHd base q.1 q.2) → bh l.prog w (K w.params) mg base CX0 k fa fd [x] sp) ∧
    ∀ (H : Hp) (a : Addr) (ns : List Int), ns.length ≤ n → SqL (K w.params) H a (ns.map V.int) → (∀ q ∈ tabs, H q.2 = some (.tbl #[])) → sp [.ref a] H (fun v _ => v = .bl true) fun _ _ _ => False) :
  PySem.W.WalkO q loose XP YP l.row.toRowW d [] (fun f vs => PySem.call f vs) := by
 refine Att.attach_call hn hdf fun w s₀ s₁ mg mb fa o pm cd doc a vs ns G Y ho hd hcd hmg hobj hints hlen hg => ?_
 have KX := hY w _ Y
 obtain ⟨fd, tabs, sp, hb, hT, hNT, hF, hsp⟩ := F w mg mb _ fa _ KX G.T hmg
 exact wB KX G.T.g G.T.b G.T.builtins G.T.nolimit G.T.bmain hT hNT hg hobj hints (Nat.le_trans hlen hn2) hr hF hb fun H hS hTb => hsp H a ns hlen hS hTb
end L2
set_option Elab.async false
set_option linter.all false
set_option maxRecDepth 100000
set_option maxHeartbeats 4000000
namespace L2
open PySem PySem.Spec PyProof.Rows PySem.W
def Bp (st : Stmt) (qual : Str) (ps xs : List Str) : pC := match st with
 | .FunctionDef n a b _ _ _ sc _ _ _ => ⟨n, qual, a, b, sc, ps, xs⟩
 | _ => ⟨"", qual, defArgs st, [], defScope st, ps, xs⟩
def oX : Stmt → Pos
 | .FunctionDef _ _ _ _ _ _ _ _ _ p => p
 | _ => ⟨0, 0, 0, 0⟩
structure Az (N : List Str) (qual : Str) (scope : Scope) (T : pC) (i : Nat) (slots : List Nat) (csF : Addr → List Addr) : Prop where
 nd : N.Nodup
 hi : N[i]? = some T.name
 loc : scope.names.lookup T.name = some .local
 qn : ∀ (L f : Addr) (c : Value), qualnameIn (envOfC qual scope L f c) T.name T.name = T.qual
 cl : ∀ (L f : Addr) (c : Value), closureFor T.scope (envOfC qual scope L f c) = pure (T.xs.zip (csF L))
 d0 : T.params.defaults = []
 k0 : T.params.kw_defaults = []
 an : ∀ (L f : Addr) (c : Value), annTrees T.params none (envOfC qual scope L f c) = []
 ndC : ∀ L : Addr, (csF L).Nodup
 len : ∀ L : Addr, (csF L).length = T.xs.length
 fv : ∀ (L f : Addr) (c : Value) (j : Nat) (a : Addr), (csF L)[j]? = some a → ∃ (x : Str) (m : Nat), (envOfC qual scope L f c).cells.lookup x = some a ∧ scope.names.lookup x = some .cell ∧ N[m]? = some x ∧ slots[j]? = some m ∧ m ≠ i
 db : (T.name == ("__debug__" : Str)) = false
 dn : (T.name == ("__classdict__" : Str)) = false
def Made (H : Hp) (Pt : Addr) (pos : Pos) (T : pC) (slots : List Nat) (σ : St) (Q : VK) : Prop :=
 TabAt H Pt pos T.qual ∧ ∃ fvs : List V, (∀ j m : Nat, slots[j]? = some m → ∃ v, σ[m]? = some (some v) ∧ fvs[j]? = some v) ∧ fvs.length = T.xs.length ∧
  ∀ (fi : Addr) (cs : List Addr) (H2 : Hp), H fi = none → (∀ a ∈ cs, H a = none) → (∀ b o, H b = some o → b ≠ Pt → H2 b = some o) → TabAt H2 Pt pos T.qual → iW H2 fi T cs fvs → Q (.ref fi) H2
section
variable {P : Program} {w : World} {K : PySem.W.Frag} {mg : Str → Option Value} {base : Heap} {x qual : Str} {st : Stmt} {f c Pt : Addr} {fd : FuncData} {N ps : List Str} {k i : Nat} {sp : Sp} {T : pC} {slots : List Nat} {csF : Addr → List Addr} {pos p1 p2 : Pos}
theorem yC {A : Around} {outer : List Env} {s s1 : Shared} {H H1 : Hp} {Q : VK} {E : XK} {σ : St} (M : Az N qual (defScope st) T i slots csF) (bm : BMain mg base) (C : CodeHd base c Pt) (I : Inv (fM CX0 P w K mg base N qual (defScope st) f (.ref c) A outer s H E) [] σ H1 s1) (h : Made H1 Pt pos T slots σ Q) :
  wpAny (model P w) (A.deeper (envOfC qual (defScope st) s.heap.objs.size f (.ref c))) (execs [.FunctionDef T.name T.params T.body [] none [] T.scope none T.name pos, .Return (some (.Name T.name p1)) p2] (envOfC qual (defScope st) s.heap.objs.size f (.ref c)))
   (fun fl s' => ∃ u, fl = .ret u ∧ CE outer P w H s Q u s') (fM CX0 P w K mg base N qual (defScope st) f (.ref c) A outer s H E).xe s1 := by
 obtain ⟨hT, fvs, h1, h2, h3⟩ := h
 refine zH (cs := csF s.heap.objs.size) (fvs := fvs) I bm C hT M.nd M.hi M.loc (M.qn _ _ _) (M.cl _ _ _) M.d0 M.k0 (M.an _ _ _) (M.ndC _) (M.len _) h2 (fun j a e => ?_) (fun fi H2 n1 n2 n3 n4 n5 => h3 fi _ H2 n1 n2 n3 n4 n5) M.db M.dn
 obtain ⟨y, m, e1, e2, e3, e4, e5⟩ := M.fv s.heap.objs.size f (.ref c) j a e
 obtain ⟨v, e6, e7⟩ := h1 j m e4
 exact ⟨y, m, v, e1, e2, e3, e6, e7, e5⟩
theorem Fun.maker0 (F : Fun K x qual st f fd) (S : aD N ps (defScope st)) (M : Az N qual (defScope st) T i slots csF) (bm : BMain mg base) (hcode : fd.code = .ref c) (C : CodeHd base c Pt) (len : ∀ vs H Q E, sp vs H Q E → vs.length = ps.length)
  (hb : defBody st = [.FunctionDef T.name T.params T.body [] none [] T.scope none T.name pos, .Return (some (.Name T.name p1)) p2])
  (h : ∀ (vs : List V) (H : Hp) (Q : VK) (E : XK), sp vs H Q E → Made H Pt pos T slots (start N vs) Q) : bh P w K mg base CX0 (k + 1) f fd ps sp := by
 obtain ⟨oc, od, kV, doc, pm, an, cdv, ct, osl, rfl, lk, hcd⟩ := F.ex
 obtain rfl : cdv = .ref c := hcode
 refine yg lk hcd S len fun A outer s H vs Q E s1 hr hsp I => ?_
 rw [hb]
 exact yC M bm C I (h vs H Q E hsp)
theorem Bb {sp : Addr → Sp} (S : pK N T) (hb : ∀ (cl : List (Str × Addr)) (doc pm cd ctv : Value) (us : List Value), us.length = T.ps.length → bindArgs (fnX T.name T.qual T.params T.body T.scope cl .none .none doc pm none cd ctv) ⟨us, []⟩ = pure (T.ps.zip us))
  (h : ∀ (f : Addr) (vs : List V) (H : Hp) (Q : VK), sp f vs H Q E0 → vs.length = T.ps.length ∧ ∃ cs fvs, iW H f T cs fvs ∧
   ∀ (cd : Addr) (A : Around) (outer : List Env) (s : Shared), cL k (A.deeper (envX T.qual T.scope s.heap.objs.size f (.ref cd) (T.xs.zip cs))) → ∃ t, PSs (mU P w K mg base N T.qual T.scope f (.ref cd) (T.xs.zip cs) A outer s (hide H cs)) T.body t ∧ t { nx := fun _ H' => Q .non (over H cs H'), rt := fun v H' => Q v (over H cs H') } (start N (vs ++ fvs)) (hide H cs)) :
  m5 P w K mg base (k + 1) sp := by
 intro f A outer s H us vs Q hr e0 r hsp
 obtain ⟨hl, cs, fvs, ca, hbody⟩ := h f vs H Q hsp
 exact zj S hr e0 ca (fun cl doc pm cd ctv => .of_eq (hb cl doc pm cd ctv us (by rw [← r.length]; exact hl))) r hl fun cd hr' => hbody cd A outer s hr'
end
theorem tab0 {H : Hp} {P : Addr} {pos : Pos} {qual : Str} (h : H P = some (.tbl #[])) : TabAt H P pos qual := ⟨#[], h, trivial, .inl rfl⟩
theorem tM {K : PySem.W.Frag} {x : Str} {f c P : Addr} {oc to : Value} {od td : Option Addr} {fd : FuncData} {osl tsl : Array (Option Value)} {vs : Array Value} (a : nsIn K mainGlobals x = some (some (.ref f))) (l : K.lookup f = some ⟨oc, od, .func fd, osl⟩) (hc : fd.code = .ref c)
  (t : K.lookup c = some ⟨to, td, .fields vs, tsl⟩) (p : vs[11]? = some (.ref P)) : tabIn K x = some (c, P) := by
 unfold tabIn
 simp only [a, l, hc, t, p]
end L2
set_option Elab.async false
set_option linter.all false
set_option maxRecDepth 100000
set_option maxHeartbeats 4000000
namespace PySem
open PyProof.Rows
namespace F
theorem lri_no_len : typeLookup (.type "list_reverseiterator") "__len__" = pure none := by rw [typeLookup_type, builtinLookup_eq_fast]; kernel_rfl
theorem lri_hint : typeLookup (.type "list_reverseiterator") "__length_hint__" = pure (some (.builtin "list_reverseiterator.__length_hint__")) := by rw [typeLookup_type, builtinLookup_eq_fast]; kernel_rfl
end F
section
variable {prog : Program} {w : World} {A : Around} {E : Value → Shared → Prop} {s : Shared}
theorem oU {it l : Addr} {i : Int} {Q : Bool → Shared → Prop} (hit : s.heap.IsRevIter it l i) (h : Q false s) : wpAny (model prog w) A (Builtin.List.listLengthHint (.ref it)) Q E s := by
 unfold Builtin.List.listLengthHint
 refine wpAny_bind (wpAny_specialOf hit.typeIs F.lri_no_len ?_)
 show wpAny _ A (specialOf (Value.ref it) (Str.ofString "__length_hint__") >>= _) _ _ _
 refine wpAny_bind (wpAny_specialOf hit.typeIs F.lri_hint ?_)
 generalize hid : ("list_reverseiterator.__length_hint__" : String) = id0
 wp_delta
 rw [show splitId id0 = some ("list_reverseiterator", "__length_hint__") from by subst hid; decide +kernel]
 subst hid
 refine wpAny_bind (wpAny_isInstance (T := "list_reverseiterator") (b := true) hit.typeIs (by rw [isSubtype_type]; kernel_rfl) ?_)
 refine wpAny_ite_split (fun hab => absurd hab (by decide)) (fun _ => ?_)
 refine wpAny_ite_split (fun _ => ?_) (fun hab => absurd (by decide +kernel) hab)
 refine wpAny_ite_split (fun hab => absurd hab (by decide +kernel)) (fun _ => ?_)
 exact wpAny_pure h
end
section
variable {prog : Program} {w : World} {A : Around} {s : Shared} {R : Result → Shared → Prop}
theorem lF {it l : Addr} {items : Array Value} (hh : A.handled = none) (hne : l ≠ it) (S : Addr) (res : Value) (c₀ : Nat) (hit : s.heap.IsRevIter it l ((items.size : Int) - 1)) (hl : s.heap.IsList l items) (hSi : S ≠ it) (hSl : S ≠ l)
  (hS : s.heap.get? S = some { cls := .type "list", data := .seq #[] c₀ })
  (hR : ∀ h' tk acc' c', (∀ b o, b ≠ S → b ≠ it → s.heap.get? b = some o → h'.get? b = some o) → h'.get? S = some { cls := .type "list", dict := none, data := .seq acc' c', slots := #[] } →
   ItemsOf (fun i v => items[items.size - 1 - i]? = some v) acc' items.size → R (.ok (.ret res)) { s with heap := h', toks := tk }) (hn : items.size ≤ sizeLine) :
  wpAny (model prog w) A.in1 (Builtin.List.listExtendWith (.ref S) (.ref it) res)
   (fun fin s' => match fin with | .done f => R (.ok f) s' | .again c' => c'.quiet = true ∧ codeAny (model prog w) A c' R s') (fun e s' => R (.error e) s') s := by
 have hSf : S ∉ [it, l] := fun hm => by
  rcases List.mem_cons.mp hm with e | hm
  ·exact hSi e
  ·exact hSl (List.mem_singleton.mp hm)
 have W := (Walks.listRev (prog := prog) (w := w) (A := A.in1) hh it l hne items).toS
 have key : ∀ (h : Heap) (c₁ tk : Nat), h.IsRevIter it l ((items.size : Int) - 1) → h.IsList l items → (∀ b o, b ≠ S → s.heap.get? b = some o → h.get? b = some o) →
   h.get? S = some { cls := .type "list", data := .seq #[] c₁ } → codeAny (model prog w) A (.builtin "list.extend.loop" ⟨[.ref S, .ref it, res], []⟩) R { s with heap := h, toks := tk } := by
  intro h c₁ tk hit₁ hl₁ hk hS₁
  refine codeAny_extend_loopS W hn S hSf res items.size 0 _ #[] c₁ rfl (Nat.zero_le _) ⟨Nat.zero_le _, ?_, hl₁⟩ hS₁ (ItemsOf.nil _) fun s' acc' c' hm hS' hacc => ?_
  ·have e : (items.size : Int) - 1 - ((0 : Nat) : Int) = (items.size : Int) - 1 := by omega
   rw [e]
   exact hit₁
  rw [Moved.eq_with hm]
  refine hR s'.heap s'.toks acc' c' (fun b o hb hb2 e => hm.heap b o (fun hmem => ?_) (hk b o hb e)) hS' hacc
  rcases List.mem_cons.mp hmem with e' | hmem
  ·exact hb e'
  ·exact hb2 (List.mem_singleton.mp hmem)
 unfold Builtin.List.listExtendWith
 refine wpAny_bind (wpAny_typeOf hit.typeIs ?_)
 have h1 : Builtin.List.listSameRef (.ref S) (.ref it) = false := by simp [Builtin.List.listSameRef, hSi]
 have h2 : (Value.type "list_reverseiterator" == Value.type "list") = false := by decide
 have h3 : (Value.type "list_reverseiterator" == Value.type "tuple") = false := by decide
 simp only [h1, h2, h3, Bool.or_false, Bool.false_eq_true, if_false]
 refine wpAny_bind (wpAny_pyIter_revIter hit ?_)
 refine wpAny_bind (wpAny_holding (oU hit ?_))
 refine wpAny_ite_split (fun _ => ?_) (fun _ => wpAny_pure ⟨plainId_quiet F.plain_extend_loop _, key _ c₀ _ hit hl (fun b o _ e => e) hS⟩)
 refine wpAny_bind (wpAny_rule ?_)
 refine wpAny_bind ?_
 show wpAny _ _ (updateSeq S (·.push .none) >>= fun _ => updateSeq S (·.pop)) _ _ _
 refine wpAny_bind (wpAny_updateSeq hS rfl ?_)
 have hS₂ := Heap.get?_update_self (Obj.mapSeq (·.push Value.none)) hS rfl
 refine wpAny_updateSeq (hz := by seq_fits) hS₂ rfl ?_
 have hS₃ := Heap.get?_update_self (Obj.mapSeq (·.pop)) hS₂ rfl
 have oth : ∀ b o, b ≠ S → s.heap.get? b = some o → ((s.heap.update S (Obj.mapSeq (·.push Value.none))).update S (Obj.mapSeq (·.pop))).get? b = some o :=
  fun b o hb e => (Heap.get?_update_other _ _ (Ne.symm hb)).trans ((Heap.get?_update_other _ _ (Ne.symm hb)).trans e)
 exact wpAny_pure ⟨plainId_quiet F.plain_extend_loop _, key _ _ _ (hit.at fun o e => oth it o (Ne.symm hSi) e) (hl.at fun o e => oth l o (Ne.symm hSl) e) oth hS₃⟩
theorem jt {it l : Addr} {items : Array Value} (hh : A.handled = none) (hne : l ≠ it) (S : Addr) (hit : s.heap.IsRevIter it l ((items.size : Int) - 1)) (hl : s.heap.IsList l items) (hSi : S ≠ it) (hSl : S ≠ l)
  (hS : s.heap.get? S = some { cls := .type "list", data := .seq #[] })
  (hR : ∀ h' tk acc' c', (∀ b o, b ≠ S → b ≠ it → s.heap.get? b = some o → h'.get? b = some o) → h'.get? S = some { cls := .type "list", dict := none, data := .seq acc' c', slots := #[] } →
   ItemsOf (fun i v => items[items.size - 1 - i]? = some v) acc' items.size → R (.ok (.ret .none)) { s with heap := h', toks := tk }) (hn : items.size ≤ sizeLine) :
  wpAny (model prog w) A.in1 (Builtin.«list.__init__» ⟨[.ref S, .ref it], []⟩)
   (fun fin s' => match fin with | .done f => R (.ok f) s' | .again c' => c'.quiet = true ∧ codeAny (model prog w) A c' R s') (fun e s' => R (.error e) s') s := by
 show wpAny _ _ (do let old ← Builtin.List.listItems (.ref S); Builtin.List.listUpdate (.ref S) (fun _ => #[]); letGo old.toList.reverse; Builtin.List.listExtendWith (.ref S) (.ref it) .none) _ _ s
 refine wpAny_bind ?_
 unfold Builtin.List.listItems
 refine wpAny_bind (wpAny_seqItems hS rfl (wpAny_pure ?_))
 show wpAny _ _ (updateSeq S (fun _ => #[]) >>= fun _ => letGo (#[] : Array Value).toList.reverse >>= fun _ => Builtin.List.listExtendWith (.ref S) (.ref it) .none) _ _ s
 refine wpAny_bind (wpAny_updateSeq hS rfl ?_)
 have hS₂ := Heap.get?_update_self (Obj.mapSeq (fun _ => (#[] : Array Value))) hS rfl
 have oth : ∀ b o, b ≠ S → s.heap.get? b = some o → (s.heap.update S (Obj.mapSeq (fun _ => (#[] : Array Value)))).get? b = some o :=
  fun b o hb e => (Heap.get?_update_other _ _ (Ne.symm hb)).trans e
 refine wpAny_bind (wpAny_letGo ?_)
 refine lF hh hne S .none _ (hit.at fun o e => oth it o (Ne.symm hSi) e) (hl.at fun o e => oth l o (Ne.symm hSl) e) hSi hSl hS₂ (fun h' tk acc' c' hk hS' hacc => ?_) hn
 exact hR h' tk acc' c' (fun b o hb hb2 e => hk b o hb hb2 (oth b o hb e)) hS' hacc
end
section
variable {prog : Program} {w : World} {A : Around} {E : Value → Shared → Prop} {s : Shared}
theorem pU {Q : Value → Shared → Prop} {it l : Addr} {items : Array Value} (hh : A.handled = none) (hne : l ≠ it) (hit : s.heap.IsRevIter it l ((items.size : Int) - 1)) (hl : s.heap.IsList l items) (hn : items.size ≤ sizeLine)
  (hQ : ∀ h' tk acc' c', (∀ b o, b ≠ it → s.heap.get? b = some o → h'.get? b = some o) → h'.get? s.heap.objs.size = some { cls := .type "list", dict := none, data := .seq acc' c', slots := #[] } →
   ItemsOf (fun i v => items[items.size - 1 - i]? = some v) acc' items.size → Q (.ref s.heap.objs.size) { s with heap := h', toks := tk }) :
  wpAny (model prog w) A (call (.type "list") [.ref it]) Q E s := by
 obtain ⟨oi, hoi, _⟩ := id hit
 obtain ⟨ol, hol, _⟩ := id hl
 refine callType_codes (Q₁ := fun obj s₁ => obj = .ref s.heap.objs.size ∧ s₁ = { s with heap := s.heap.push { cls := .type "list", data := .seq #[] } }) F.called_list (F.typeCall_list_1 _) F.entry_list_init
  (code_list_new _ ⟨rfl, rfl⟩) fun obj s₁ h₁ => ?_
 obtain ⟨rfl, rfl⟩ := h₁
 have hS : (s.heap.push { cls := .type "list", data := .seq #[] }).get? s.heap.objs.size = some { cls := .type "list", data := .seq #[] } := Heap.get?_push_size _ rfl
 refine ⟨⟨_, hS, rfl⟩, F.args_list_init_2 _ _, jt (A := A.in1) hh hne _ (hit.at fun o e => Heap.get?_push_of_some _ e) (hl.at fun o e => Heap.get?_push_of_some _ e) (Nat.ne_of_gt (Heap.lt_size hoi)) (Nat.ne_of_gt (Heap.lt_size hol)) hS (fun h' tk acc' c' hk hS' hacc => ?_) hn⟩
 exact ⟨rfl, hQ h' tk acc' c' (fun b o hb e => hk b o (Nat.ne_of_lt (Heap.lt_size e)) hb (Heap.get?_push_of_some _ e)) hS' hacc⟩
end
end PySem
namespace L2
open PySem PySem.Spec PyProof.Rows PySem.W
section
variable {X : Cx}
def Br (K : PySem.W.Frag) (ta : TA) : TE := fun σ H Q => ta σ H fun vs H1 => ∃ p ys, vs = [.ref p] ∧ SqL K H1 p ys ∧ ∀ l, H1 l = none → Q (.ref l) (upd H1 l (.lst ys.reverse))
theorem uJ {a : Expr} {ta : TA} {p p2 pos pos2 : Pos} (hc : X.calm = true) (hg : Gl X "list") (hm : X.mg "list" = none) (hv : bootBuiltins "list" = some (.type "list")) (hg2 : Gl X "reversed") (hm2 : X.mg "reversed" = none) (hv2 : bootBuiltins "reversed" = some (.type "reversed"))
  (ha : PA X [a] ta) (hs : starEach [a] X.env = [(false, eval a X.env)] := by rfl)
  (he : starEach [.Call (.Name "reversed" p2) [a] [] pos2] X.env = (false, eval (.Call (.Name "reversed" p2) [a] [] pos2) X.env) :: starEach [] X.env := by rfl) (hpl : (backTo pos (starEach [] X.env)).any (·.1) = false := by rfl) :
  PE X (.Call (.Name "list" p) [.Call (.Name "reversed" p2) [a] [] pos2] [] pos) (Br X.K ta) := by
 intro pins s σ H Q I h
 refine wpAny_Call_Name_kw (dG I hg hm hv ?_)
 refine PyProof.Rows.callWith_type1 ?_ he hpl
 rw [he]
 show wpAny _ _ (spliced ((false, eval (.Call (.Name "reversed" p2) [a] [] pos2) X.env) :: backTo pos (starEach [] X.env))) _ _ s
 refine Calls.spliced_cons ?_
 refine Call_ (dG I hg2 hm2 hv2 (PyProof.Rows.callWith_type1 (thn (ha pos2 pins s σ H _ I h) fun us s1 ⟨vs, H1, I1, r1, q1⟩ => ?_) hs rfl))
 obtain ⟨b, xs, e, hq, q⟩ := q1
 subst e
 obtain ⟨u, rfl, rx⟩ := vals1 r1
 cases rx
 obtain ⟨its, rv, pl, hz⟩ := I1.list hq
 have hl := rv.length
 obtain ⟨ob, hob, hobc, hobn, hobd⟩ := id pl.isList
 have blt : b < s1.heap.objs.size := Heap.lt_size hob
 refine call_reversed_list pl.isList ?_
 refine Calls.spliced_nil ?_
 refine pU (I.ok.hd hc) (l := b) (items := its.toArray) (Nat.ne_of_lt blt) ⟨_, Heap.get?_push_size _ rfl, rfl, rfl⟩ (pl.isList.push _) (by rw [List.size_toArray]; omega) fun h' tk acc' c' hk hS hacc => ?_
 have eacc : acc' = its.reverse.toArray := by
  obtain ⟨e1, e2⟩ := hacc
  apply Array.ext
  ·rw [e1, List.size_toArray, List.size_toArray, List.length_reverse]
  ·intro i h1 h2
   have := e2 i acc'[i] (Array.getElem?_eq_getElem h1)
   rw [List.size_toArray, List.getElem?_toArray, ← List.getElem?_reverse (by rw [e1, List.size_toArray] at h1; exact h1)] at this
   rw [List.getElem_toArray]
   exact (Option.some.inj ((List.getElem?_eq_getElem _).symm.trans this)).symm
 subst eacc
 refine ⟨.ref _, _, I1.laid (t' := tk) (o := .lst xs.reverse) (fun c o e => hk c o (Nat.ne_of_lt (Heap.lt_size e)) (Heap.get?_push_of_some _ e)) ?_ ⟨by rw [List.length_reverse]; exact hz, its.reverse, c', rv.reverse, hS⟩, rfl, q _ (I1.hok.fresh ?_)⟩
 ·show s1.heap.objs.size ≤ (s1.heap.push _).objs.size
  simp [Heap.push]
 ·show s1.heap.objs.size ≤ (s1.heap.push _).objs.size
  simp [Heap.push]
end
end L2
set_option Elab.async false
set_option linter.all false
set_option maxRecDepth 100000
set_option maxHeartbeats 4000000
namespace Tw
theorem mH (a b : List Int) (k : Nat) : ht (a ++ b) (a.length + k) = ht a a.length + ht b k := by
 unfold ht
 rw [List.take_length_add_append, List.sum_append, List.take_length]
 omega
theorem v9 (a b : List Int) {k : Nat} (h : k ≤ a.length) : ht (a ++ b) k = ht a k := by
 unfold ht
 rw [List.take_append_of_le_length h]
theorem rR (v : Int) : ∀ n : Nat, (List.replicate n v).sum = n * v
 | 0 => by simp
 | n + 1 => by
  rw [List.replicate_succ, List.sum_cons, rR v n]
  have : ((n + 1 : Nat) : Int) * v = n * v + v := by
   rw [show ((n + 1 : Nat) : Int) = (n : Int) + 1 from rfl, Int.add_mul, Int.one_mul]
  omega
theorem v6 (n k : Nat) (h : k ≤ n) : ht (List.replicate n 1) k = k := by
 unfold ht
 rw [List.take_replicate, Nat.min_eq_left h, rR]
 omega
theorem gR (n k : Nat) (h : k ≤ n) : ht (List.replicate n 0) k = -k := by
 unfold ht
 rw [List.take_replicate, Nat.min_eq_left h, rR]
 omega
def pairs (f : Nat) : List Int := (List.replicate f [1, 0]).flatten
theorem gY (f : Nat) : pairs (f + 1) = [1, 0] ++ pairs f := by
 unfold pairs
 rw [List.replicate_succ, List.flatten_cons]
theorem cG : ∀ f : Nat, (pairs f).length = 2 * f
 | 0 => rfl
 | f + 1 => by
  rw [gY, List.length_append, cG f]
  show 2 + _ = _
  omega
theorem tR : ∀ (f k : Nat), k ≤ 2 * f → 0 ≤ ht (pairs f) k
 | 0, k, h => by
  have : k = 0 := by omega
  subst this
  decide
 | f + 1, 0, _ => by rw [eX]; decide
 | f + 1, 1, _ => by
  rw [gY]
  unfold ht
  simp
 | f + 1, k + 2, h => by
  rw [gY, show k + 2 = ([1, 0] : List Int).length + k from by show _ = 2 + k; omega, mH]
  have := tR f k (by omega)
  have e : ht [1, 0] ([1, 0] : List Int).length = 0 := by decide
  omega
theorem jQ : ∀ f : Nat, ht (pairs f) (pairs f).length = 0
 | 0 => rfl
 | f + 1 => by
  rw [gY, List.length_append, mH, jQ f]
  decide
theorem jP {v : Int} (h : v = 0 ∨ v = 1) (n : Nat) : aK (List.replicate n v) := fun b hb => by
 rw [List.eq_of_mem_replicate hb]
 exact h
theorem rG (f : Nat) : aK (pairs f) := fun b hb => by
 unfold pairs at hb
 obtain ⟨l, hl, hb⟩ := List.mem_flatten.mp hb
 rw [List.eq_of_mem_replicate hl] at hb
 simp only [List.mem_cons, List.not_mem_nil, or_false] at hb
 omega
structure Up (ns : List Int) (hg : Int) : Prop where
 bits : aK ns
 pos : ∀ k, 0 < k → k ≤ ns.length → 0 < ht ns k
 last : ht ns ns.length = hg
 some : 0 < ns.length
theorem Up.app {a b : List Int} {h : Int} (u : Up a h) (hb : aK b) (hp : ∀ k, k ≤ b.length → 0 < h + ht b k) : Up (a ++ b) (h + ht b b.length) := by
 refine ⟨jy u.bits hb, fun k k0 k1 => ?_, ?_, by rw [List.length_append]; have := u.some; omega⟩
 ·rcases Nat.lt_or_ge a.length k with q | q
  ·rw [List.length_append] at k1
   have := hp (k - a.length) (by omega)
   rw [show k = a.length + (k - a.length) from by omega, mH, u.last]
   exact this
  ·rw [v9 a b q]
   exact u.pos k k0 q
 ·rw [List.length_append, mH, u.last]
theorem Up.one : Up [1] 1 := by
 refine ⟨fun b hb => .inr (List.mem_singleton.mp hb), fun k k0 k1 => ?_, rfl, by decide⟩
 have : k = 1 := by
  have : k ≤ 1 := k1
  omega
 subst this
 decide
theorem Up.piece {a : List Int} {h : Int} (u : Up a h) (up fl dn : Nat) (h0 : 1 ≤ h) (hd : (dn : Int) ≤ h + up - 1) : Up (a ++ (List.replicate up 1 ++ pairs fl ++ List.replicate dn 0)) (h + up - dn) := by
 have u1 := u.app (b := List.replicate up 1) (jP (.inr rfl) up) (fun k hk => by
  rw [List.length_replicate] at hk
  rw [v6 up k hk]
  omega)
 rw [List.length_replicate, v6 up up (Nat.le_refl _)] at u1
 have u2 := u1.app (b := pairs fl) (rG fl) (fun k hk => by
  rw [cG] at hk
  have := tR fl k hk
  omega)
 rw [jQ, Int.add_zero] at u2
 have u3 := u2.app (b := List.replicate dn 0) (jP (.inl rfl) dn) (fun k hk => by
  rw [List.length_replicate] at hk
  rw [gR dn k hk]
  omega)
 rw [List.length_replicate, gR dn dn (Nat.le_refl _)] at u3
 rw [← List.append_assoc, ← List.append_assoc, show h + (up : Int) - dn = h + up + -dn from by omega]
 exact u3
def Tree (ns : List Int) : Prop := 2 ≤ ns.length ∧ ht ns ns.length = 0 ∧ ∀ k, 0 < k → k < ns.length → 0 < ht ns k
theorem Up.close {a : List Int} {h : Nat} (u : Up a h) (h0 : 1 ≤ h) : Tree (a ++ List.replicate h 0) ∧ aK (a ++ List.replicate h 0) := by
 have hs := u.some
 refine ⟨⟨by rw [List.length_append, List.length_replicate]; omega, ?_, fun k k0 k1 => ?_⟩, jy u.bits (jP (.inl rfl) h)⟩
 ·rw [List.length_append, mH, u.last, List.length_replicate, gR h h (Nat.le_refl _)]
  omega
 ·rw [List.length_append, List.length_replicate] at k1
  rcases Nat.lt_or_ge a.length k with q | q
  ·rw [show k = a.length + (k - a.length) from by omega, mH, u.last, gR h _ (by omega)]
   omega
  ·rw [v9 a _ q]
   exact u.pos k k0 q
end Tw
set_option Elab.async false
set_option linter.all false
set_option maxRecDepth 100000
set_option maxHeartbeats 4000000
namespace Tw
def gQ (n S : Nat) : Prop := ∃ h, S = 2 ^ h ∧ n ≤ S ∧ ∀ j, j < h → 2 ^ j < n
theorem gQ.uniq {n S S' : Nat} (a : gQ n S) (b : gQ n S') : S = S' := by
 obtain ⟨h, rfl, h1, h2⟩ := a
 obtain ⟨k, rfl, k1, k2⟩ := b
 rcases Nat.lt_trichotomy h k with q | q | q
 ·have := k2 h q
  omega
 ·rw [q]
 ·have := h2 k q
  omega
theorem gQ.pos {n S : Nat} (a : gQ n S) : 1 ≤ S := by
 obtain ⟨h, rfl, _⟩ := a
 exact Nat.one_le_two_pow
theorem gQ.le {n S : Nat} (a : gQ n S) (h : n ≤ 4096) : S ≤ 4096 := by
 obtain ⟨k, rfl, k1, k2⟩ := a
 rcases Nat.lt_or_ge 12 k with q | q
 ·have := k2 12 q
  omega
 ·exact Nat.le_trans (Nat.pow_le_pow_right (by decide) q) (by decide)
def NodeOk (S st sp n e : Nat) : Prop := 1 ≤ n ∧ S ≤ n * 2 ^ e ∧ (n + 1) * 2 ^ e ≤ S + sp ∧ (1 < n → S ≤ n / 2 * 2 ^ (e + 1) ∧ (n / 2 + 1) * 2 ^ (e + 1) ≤ 2 * S ∧ (n / 2 * 2 ^ (e + 1) < S + st ∨ S + sp < (n / 2 + 1) * 2 ^ (e + 1)))
def Chain (S st sp : Nat) : List Nat → Nat → Nat → Prop
 | [], x, y => x = y
 | n :: r, x, y => ∃ e, n * 2 ^ e = x ∧ NodeOk S st sp n e ∧ Chain S st sp r ((n + 1) * 2 ^ e) y
theorem Chain.append {S st sp : Nat} : ∀ {l m : List Nat} {x y z : Nat}, Chain S st sp l x y → Chain S st sp m y z → Chain S st sp (l ++ m) x z
 | [], m, x, y, z, h, k => by
  cases h
  exact k
 | n :: r, m, x, y, z, h, k => by
  obtain ⟨e, h1, h2, h3⟩ := h
  exact ⟨e, h1, h2, h3.append k⟩
theorem Chain.one {S st sp n e : Nat} (h : NodeOk S st sp n e) : Chain S st sp [n] (n * 2 ^ e) ((n + 1) * 2 ^ e) := ⟨e, rfl, h, rfl⟩
structure Cov (S st sp e low high : Nat) (ls rs : List Nat) : Prop where
 lo1 : S + st ≤ low * 2 ^ e
 lo2 : low * 2 ^ e < S + st + 2 ^ e
 hi1 : high * 2 ^ e ≤ S + sp
 hi2 : S + sp < high * 2 ^ e + 2 ^ e
 le : low ≤ high
 left : Chain S st sp ls (S + st) (low * 2 ^ e)
 right : Chain S st sp rs.reverse (high * 2 ^ e) (S + sp)
theorem Cov.start {S st sp : Nat} (h : st ≤ sp) : Cov S st sp 0 (S + st) (S + sp) [] [] := by
 refine ⟨by omega, by omega, by omega, by omega, by omega, ?_, ?_⟩
 ·show S + st = (S + st) * 2 ^ 0
  omega
 ·show (S + sp) * 2 ^ 0 = S + sp
  omega
theorem sV {h e n : Nat} (h1 : 2 ^ h ≤ n * 2 ^ e) (h2 : n * 2 ^ e < 2 * 2 ^ h) (h3 : 1 < n) : e < h := by
 rcases Nat.lt_or_ge e h with q | q
 ·exact q
 ·exfalso
  have : 2 ^ h ≤ 2 ^ e := Nat.pow_le_pow_right (by decide) q
  have : 2 * 2 ^ e ≤ n * 2 ^ e := Nat.mul_le_mul_right _ h3
  omega
theorem zr {h e m : Nat} (he : e < h) (h1 : 2 ^ h ≤ (2 * m + 1) * 2 ^ e) : 2 ^ h ≤ m * 2 ^ (e + 1) := by
 have e1 : 2 ^ h = 2 ^ (h - e - 1) * 2 ^ (e + 1) := by
  rw [← Nat.pow_add]
  congr 1
  omega
 rw [e1] at h1 ⊢
 refine Nat.mul_le_mul_right _ ?_
 rw [Nat.pow_succ] at h1
 have h2 : 2 ^ (h - e - 1) * (2 ^ e * 2) = (2 * 2 ^ (h - e - 1)) * 2 ^ e := by
  rw [Nat.mul_comm (2 ^ e) 2, ← Nat.mul_assoc, Nat.mul_comm _ 2]
 rw [h2] at h1
 have := Nat.le_of_mul_le_mul_right h1 (Nat.two_pow_pos e)
 omega
theorem Cov.leftOdd {S st sp e low high : Nat} {ls rs : List Nat} (c : Cov S st sp e low high ls rs) (hS : ∃ h, S = 2 ^ h) (hsp : sp ≤ S) (h0 : 1 ≤ S) (hlt : low < high) (ho : low % 2 = 1) : Chain S st sp (ls ++ [low]) (S + st) ((low + 1) * 2 ^ e) := by
 obtain ⟨h, eS⟩ := hS
 obtain ⟨m, rfl⟩ : ∃ m, low = 2 * m + 1 := ⟨low / 2, by omega⟩
 have hp : 0 < 2 ^ e := Nat.two_pow_pos e
 have k1 : (2 * m + 1 + 1) * 2 ^ e ≤ high * 2 ^ e := Nat.mul_le_mul_right _ hlt
 have l1 := c.lo1
 have l2 := c.lo2
 have g1 := c.hi1
 have e1 : (2 * m + 1) / 2 = m := by omega
 have e2 : m * 2 ^ (e + 1) = 2 * (m * 2 ^ e) := by rw [Nat.pow_succ, ← Nat.mul_assoc, Nat.mul_comm]
 have e3 : (2 * m + 1) * 2 ^ e = 2 * (m * 2 ^ e) + 2 ^ e := by rw [Nat.add_mul, Nat.mul_assoc, Nat.one_mul]
 have e4 : (2 * m + 1 + 1) * 2 ^ e = 2 * (m * 2 ^ e) + 2 ^ e + 2 ^ e := by rw [Nat.add_mul, e3, Nat.one_mul]
 have e5 : (m + 1) * 2 ^ (e + 1) = 2 * (m * 2 ^ e) + 2 * 2 ^ e := by rw [Nat.add_mul, e2, Nat.one_mul, Nat.pow_succ]; omega
 refine c.left.append (.one ⟨by omega, by omega, by omega, fun h1 => ?_⟩)
 rw [e1]
 have ht : e < h := by
  refine sV (n := 2 * m + 1) ?_ ?_ h1
  ·rw [← eS]; omega
  ·rw [← eS]; omega
 have o := zr (m := m) ht (by rw [← eS]; omega)
 rw [← eS] at o
 exact ⟨o, by omega, .inl (by omega)⟩
theorem Cov.rightOdd {S st sp e low high : Nat} {ls rs : List Nat} (c : Cov S st sp e low high ls rs) (hS : ∃ h, S = 2 ^ h) (hsp : sp ≤ S) (h0 : 1 ≤ S) (hlt : low < high) (ho : high % 2 = 1) : Chain S st sp (rs ++ [high - 1]).reverse ((high - 1) * 2 ^ e) (S + sp) := by
 obtain ⟨m, rfl⟩ : ∃ m, high = 2 * m + 1 := ⟨high / 2, by omega⟩
 have hp : 0 < 2 ^ e := Nat.two_pow_pos e
 have k1 : low * 2 ^ e ≤ (2 * m) * 2 ^ e := Nat.mul_le_mul_right _ (by omega)
 have l1 := c.lo1
 have g1 := c.hi1
 have g2 := c.hi2
 have hl0 : 1 ≤ low := by
  rcases Nat.eq_zero_or_pos low with q | q
  ·rw [q, Nat.zero_mul] at l1
   omega
  ·exact q
 have e2 : m * 2 ^ (e + 1) = 2 * (m * 2 ^ e) := by rw [Nat.pow_succ, ← Nat.mul_assoc, Nat.mul_comm]
 have e3 : (2 * m + 1) * 2 ^ e = 2 * (m * 2 ^ e) + 2 ^ e := by rw [Nat.add_mul, Nat.mul_assoc, Nat.one_mul]
 have e4 : (2 * m) * 2 ^ e = 2 * (m * 2 ^ e) := by rw [Nat.mul_assoc]
 have e5 : (m + 1) * 2 ^ (e + 1) = 2 * (m * 2 ^ e) + 2 * 2 ^ e := by rw [Nat.add_mul, e2, Nat.one_mul, Nat.pow_succ]; omega
 have e6 : 2 * m + 1 - 1 = 2 * m := by omega
 have e7 : 2 * m / 2 = m := by omega
 have hr := c.right
 rw [List.reverse_append, e6]
 refine Chain.append (l := [2 * m]) (.one ⟨by omega, by omega, by omega, fun h1 => ?_⟩) hr
 rw [e7]
 obtain ⟨h, eS⟩ := hS
 have ht : e < h := by
  refine sV (n := 2 * m) ?_ ?_ h1
  ·rw [← eS]; omega
  ·rw [← eS]; omega
 have e8 : 2 * S = 2 ^ (h - e) * 2 ^ (e + 1) := by
  rw [eS, ← Nat.pow_add, Nat.mul_comm, ← Nat.pow_succ]
  congr 1
  omega
 refine ⟨by omega, ?_, .inr (by omega)⟩
 rw [e8]
 refine Nat.mul_le_mul_right _ ?_
 have : m * 2 ^ (e + 1) < 2 ^ (h - e) * 2 ^ (e + 1) := by omega
 have := Nat.lt_of_mul_lt_mul_right this
 omega
theorem Cov.step {S st sp e low high : Nat} {ls rs : List Nat} (c : Cov S st sp e low high ls rs) (hS : ∃ h, S = 2 ^ h) (hsp : sp ≤ S) (h0 : 1 ≤ S) (hlt : low < high) :
  Cov S st sp (e + 1) ((low + low % 2) / 2) ((high - high % 2) / 2) (if low % 2 = 1 then ls ++ [low] else ls) (if high % 2 = 1 then rs ++ [high - 1] else rs) := by
 have l1 := c.lo1
 have l2 := c.lo2
 have g1 := c.hi1
 have g2 := c.hi2
 have hp : 0 < 2 ^ e := Nat.two_pow_pos e
 have ep : 2 ^ (e + 1) = 2 * 2 ^ e := by rw [Nat.pow_succ, Nat.mul_comm]
 have twice : ∀ m, m * 2 ^ (e + 1) = (2 * m) * 2 ^ e := fun m => by rw [ep, ← Nat.mul_assoc, Nat.mul_comm m 2]
 have el : 2 * ((low + low % 2) / 2) = low + low % 2 := by omega
 have eh : 2 * ((high - high % 2) / 2) = high - high % 2 := by omega
 have q1 : (low + low % 2) * 2 ^ e = low * 2 ^ e + (low % 2) * 2 ^ e := Nat.add_mul ..
 have q2 : (high - high % 2) * 2 ^ e + (high % 2) * 2 ^ e = high * 2 ^ e := by
  rw [← Nat.add_mul]
  congr 1
  omega
 have r1 : (low % 2) * 2 ^ e = if low % 2 = 1 then 2 ^ e else 0 := by
  split
  ·rename_i z; rw [z, Nat.one_mul]
  ·rename_i z; rw [show low % 2 = 0 from by omega, Nat.zero_mul]
 have r2 : (high % 2) * 2 ^ e = if high % 2 = 1 then 2 ^ e else 0 := by
  split
  ·rename_i z; rw [z, Nat.one_mul]
  ·rename_i z; rw [show high % 2 = 0 from by omega, Nat.zero_mul]
 refine ⟨?_, ?_, ?_, ?_, by omega, ?_, ?_⟩
 ·rw [twice, el, q1]
  omega
 ·rw [twice, el, q1, ep, r1]
  split <;> omega
 ·rw [twice, eh]
  omega
 ·rw [twice, eh, ep]
  rw [r2] at q2
  split at q2 <;> omega
 ·rw [twice, el]
  split
  ·rename_i z
   rw [z]
   exact c.leftOdd hS hsp h0 hlt z
  ·rename_i z
   rw [show low % 2 = 0 from by omega, Nat.add_zero]
   exact c.left
 ·rw [twice, eh]
  split
  ·rename_i z
   rw [z]
   exact c.rightOdd hS hsp h0 hlt z
  ·rename_i z
   rw [show high % 2 = 0 from by omega, Nat.sub_zero]
   exact c.right
theorem Cov.fin {S st sp e low high : Nat} {ls rs : List Nat} (c : Cov S st sp e low high ls rs) (h : high ≤ low) : Chain S st sp (ls ++ rs.reverse) (S + st) (S + sp) := by
 have : low = high := Nat.le_antisymm c.le h
 subst this
 exact c.left.append c.right
end Tw
namespace Tw
def pW : Nat → Nat → Nat → List Nat → List Nat → List Nat
 | 0, _, _, ls, rs => ls ++ rs.reverse
 | f + 1, low, high, ls, rs => if low < high then pW f ((low + low % 2) / 2) ((high - high % 2) / 2) (if low % 2 = 1 then ls ++ [low] else ls) (if high % 2 = 1 then rs ++ [high - 1] else rs) else ls ++ rs.reverse
theorem yH {f low high : Nat} {ls rs : List Nat} (h : high ≤ low) : pW f low high ls rs = ls ++ rs.reverse := by
 cases f with
 | zero => rfl
 | succ f =>
  unfold pW
  rw [if_neg (by omega)]
theorem oJ {S st sp : Nat} (hS : ∃ h, S = 2 ^ h) (hsp : sp ≤ S) (h0 : 1 ≤ S) : ∀ (f e low high : Nat) (ls rs : List Nat), Cov S st sp e low high ls rs → high - low ≤ f → Chain S st sp (pW f low high ls rs) (S + st) (S + sp)
 | 0, e, low, high, ls, rs, c, h => c.fin (by omega)
 | f + 1, e, low, high, ls, rs, c, h => by
  unfold pW
  by_cases q : low < high
  ·rw [if_pos q]
   exact oJ hS hsp h0 f (e + 1) _ _ _ _ (c.step hS hsp h0 q) (by omega)
  ·rw [if_neg q]
   exact c.fin (by omega)
def cover (S st sp : Nat) : List Nat := pW (sp - st) (S + st) (S + sp) [] []
theorem iU {S st sp : Nat} (hS : ∃ h, S = 2 ^ h) (h : st ≤ sp) (hsp : sp ≤ S) (h0 : 1 ≤ S) : Chain S st sp (cover S st sp) (S + st) (S + sp) :=
 oJ hS hsp h0 _ 0 _ _ _ _ (.start h) (by omega)
end Tw
set_option Elab.async false
set_option linter.all false
set_option maxRecDepth 100000
set_option maxHeartbeats 4000000
namespace PySem
open PyProof.Rows
namespace F
end F
section
variable {prog : Program} {w : World} {A : Around} {E : Value → Shared → Prop} {s : Shared}
end
end PySem
namespace L2
open PySem PySem.Spec PyProof.Rows
section
variable {X : Cx} {tg : Expr}
theorem zX (a b : Nat) : Builtin.Range.rangeSize a b (-1) = ((a - b : Nat) : Int) := by
 unfold Builtin.Range.rangeSize
 rw [if_neg (by decide), show (- -1 : Int) = 1 from rfl, Int.ediv_one]
 split <;> omega
theorem uy {a b : Nat} (ha : a < 536870912) (hb : b < 536870912) : Builtin.Range.small a b (-1) = true := by
 unfold Builtin.Range.small Builtin.Range.rangeFitsLong
 rw [zX]
 have e : (2 : Int) ^ 63 = 9223372036854775808 := by decide
 rw [e, if_neg (by decide)]
 refine jN (jN (jN (jN (jN (decide_eq_true ?_) (decide_eq_true ?_)) (jN (decide_eq_true ?_) (decide_eq_true ?_))) (by decide)) (jN (decide_eq_true ?_) (decide_eq_true ?_))) ?_
 ·omega
 ·omega
 ·omega
 ·omega
 ·omega
 ·omega
 ·rw [Bool.or_eq_true]
  exact .inr (jN (decide_eq_true (by omega)) (decide_eq_true (by omega)))
def Ay (ta : TA) : TI := fun σ H R => ta σ H fun vs H1 => ∃ a b : Nat, vs = [.int (a : Int), .int (b : Int), .int (-1)] ∧ a < 536870912 ∧ b < 536870912 ∧ R (Its a (-1) (a - b)) H1
theorem uF {a b c : Expr} {ta : TA} {p pos : Pos} (hg : Gl X "range") (hm : X.mg "range" = none) (ha : PA X [a, b, c] ta) (hs : starEach [a, b, c] X.env = [(false, eval a X.env), (false, eval b X.env), (false, eval c X.env)] := by rfl)
  (hs2 : starEach [b, c] X.env = [(false, eval b X.env), (false, eval c X.env)] := by rfl) : PI X tg (.Call (.Name "range" p) [a, b, c] [] pos) (Ay ta) := by
 intro pins s σ H R I h
 refine Call_ (dG I hg hm boot_range (PyProof.Rows.callWith_type1 (thn (ha pos pins s σ H _ I h) fun us s1 ⟨vs, H1, I1, r1, q1⟩ => ?_) (by rw [hs, hs2]) (by rw [hs2]; rfl)))
 obtain ⟨x, y, e, l0, l1, q⟩ := q1
 subst e
 cases r1 with
 | cons r rr =>
  cases rr with
  | cons r' rr =>
   cases rr with
   | cons r'' rr =>
    cases rr
    obtain ⟨t, rfl⟩ := r
    obtain ⟨t', rfl⟩ := r'
    obtain ⟨t'', rfl⟩ := r''
    refine call_range_3 (by decide) ?_ (.inl (PyProof.noPylong_small (by decide)))
    refine wpAny_pyIter_range (IsRange.new ..) (uy l0 l1) ?_
    have I2 : Inv X pins σ H1 { s1 with heap := s1.heap.push { cls := .type "range", data := .fields #[.int x t, .int y t', .int (-1) t''] }, toks := s1.toks } := I1.kept fun b o e => Heap.get?_push_of_some _ e
    refine ⟨(s1.heap.push { cls := .type "range", data := .fields #[.int x t, .int y t', .int (-1) t''] }).objs.size, [(s1.heap.push { cls := .type "range", data := .fields #[.int x t, .int y t', .int (-1) t''] }).objs.size], _, _, H1, rfl,
     I2.kept (t' := s1.toks) fun b o e => Heap.get?_push_of_some _ e, qM _ x (-1) (x - y), ?_, fun b hb => ?_, q⟩
    ·have e1 : (x : Int) + ((0 : Nat) : Int) * (-1) = x := by omega
     have e2 : ((x - y : Nat) : Int) - ((0 : Nat) : Int) = Builtin.Range.rangeSize x y (-1) := by rw [zX]; omega
     show IsRangeIter _ _ ((x : Int) + ((0 : Nat) : Int) * (-1)) (((x - y : Nat) : Int) - ((0 : Nat) : Int)) (-1)
     rw [e1, e2]
     exact Heap.get?_push_size _ rfl
    ·have e : b = (s1.heap.push { cls := .type "range", data := .fields #[.int x t, .int y t', .int (-1) t''] }).objs.size := by simpa using hb
     subst e
     exact I2.fpOk (Nat.le_refl _) (I2.hok.fresh (Nat.le_refl _))
end
end L2
set_option Elab.async false
set_option linter.all false
set_option maxRecDepth 100000
set_option maxHeartbeats 4000000
namespace Tw
open L2
def NI (x : V) : Prop := x = .non ∨ ∃ i, x = .int i
def qC : V → V → V
 | .non, y => y
 | .int a, .int b => .int (if b < a then b else a)
 | x, _ => x
theorem qO (y : V) : qC .non y = y := by cases y <;> rfl
theorem yU {x y : V} (hx : NI x) (hy : NI y) : NI (qC x y) := by
 rcases hx with rfl | ⟨i, rfl⟩
 ·rw [qO]
  exact hy
 ·rcases hy with rfl | ⟨j, rfl⟩
  ·exact .inr ⟨i, rfl⟩
  ·exact .inr ⟨_, rfl⟩
def tO (ns : List Int) (i : Nat) : V := match ns[i]? with | some c => .int c | none => .non
theorem oR {ns : List Int} {i : Nat} {c : Int} (h : ns[i]? = some c) : tO ns i = .int c := by
 unfold tO
 rw [h]
theorem vo {ns : List Int} {i : Nat} (h : ns.length ≤ i) : tO ns i = .non := by
 unfold tO
 rw [List.getElem?_eq_none h]
structure eY (ns : List Int) (S k : Nat) (xs : List V) : Prop where
 len : xs.length = 2 * S
 zero : xs[0]? = some .non
 leaf : ∀ i, i < S → xs[S + i]? = some (tO ns i)
 node : ∀ j, k ≤ j → 1 ≤ j → j < S → ∃ x y, xs[2 * j]? = some x ∧ xs[2 * j + 1]? = some y ∧ xs[j]? = some (qC x y)
 ni : ∀ x ∈ xs, NI x
theorem eY.start {ns : List Int} {S : Nat} (h0 : 1 ≤ S) (hl : ns.length ≤ S) : eY ns S S (List.replicate S V.non ++ ns.map V.int ++ List.replicate (S - ns.length) V.non) := by
 refine ⟨?_, ?_, fun i hi => ?_, fun j h1 h2 h3 => by omega, fun x hx => ?_⟩
 ·simp only [List.length_append, List.length_replicate, List.length_map]
  omega
 ·rw [List.append_assoc, List.getElem?_append_left (by rw [List.length_replicate]; omega), List.getElem?_replicate, if_pos (by omega)]
 ·rw [List.append_assoc, List.getElem?_append_right (by rw [List.length_replicate]; omega), List.length_replicate, Nat.add_sub_cancel_left]
  by_cases h : i < ns.length
  ·rw [List.getElem?_append_left (by rw [List.length_map]; exact h), List.getElem?_map, List.getElem?_eq_getElem h, oR (List.getElem?_eq_getElem h)]
   rfl
  ·rw [List.getElem?_append_right (by rw [List.length_map]; omega), List.length_map, List.getElem?_replicate, if_pos (by omega), vo (by omega)]
 ·rcases List.mem_append.mp hx with hx | hx
  ·rcases List.mem_append.mp hx with hx | hx
   ·exact .inl (List.eq_of_mem_replicate hx)
   ·obtain ⟨i, _, rfl⟩ := List.mem_map.mp hx
    exact .inr ⟨i, rfl⟩
  ·exact .inl (List.eq_of_mem_replicate hx)
theorem eY.step {ns : List Int} {S k : Nat} {xs : List V} {x y : V} (h : eY ns S (k + 1) xs) (h1 : 1 ≤ k) (hk : k < S) (hx : xs[2 * k]? = some x) (hy : xs[2 * k + 1]? = some y) : eY ns S k (xs.set k (qC x y)) := by
 have hl := h.len
 have oth : ∀ j, j ≠ k → (xs.set k (qC x y))[j]? = xs[j]? := fun j hj => List.getElem?_set_ne (Ne.symm hj)
 refine ⟨by rw [List.length_set]; exact hl, ?_, fun i hi => ?_, fun j a b c => ?_, fun z hz => ?_⟩
 ·rw [oth 0 (by omega)]
  exact h.zero
 ·rw [oth (S + i) (by omega)]
  exact h.leaf i hi
 ·by_cases e : j = k
  ·subst e
   refine ⟨x, y, ?_, ?_, ?_⟩
   ·rw [oth (2 * j) (by omega)]
    exact hx
   ·rw [oth (2 * j + 1) (by omega)]
    exact hy
   ·exact List.getElem?_set_self (by omega)
  ·obtain ⟨u, v, e1, e2, e3⟩ := h.node j (by omega) b c
   refine ⟨u, v, ?_, ?_, ?_⟩
   ·rw [oth (2 * j) (by omega)]
    exact e1
   ·rw [oth (2 * j + 1) (by omega)]
    exact e2
   ·rw [oth j e]
    exact e3
 ·rcases List.mem_or_eq_of_mem_set hz with hz | rfl
  ·exact h.ni z hz
  ·exact yU (h.ni x (List.mem_of_getElem? hx)) (h.ni y (List.mem_of_getElem? hy))
theorem vJ {xs : List V} {j : Nat} {x : V} (h : xs[j]? = some x) : atI xs (j : Int) = some x := v7 h
end Tw
set_option Elab.async false
set_option linter.all false
set_option maxRecDepth 100000
set_option maxHeartbeats 4000000
namespace Tw
open L2
def jR (ns : List Int) (a b : Nat) (M : Int) : Prop := (∃ i, a ≤ i ∧ i < b ∧ ns[i]? = some M) ∧ ∀ i c, a ≤ i → i < b → ns[i]? = some c → M ≤ c
theorem jR.join {ns : List Int} {a b c : Nat} {M N : Int} (h : jR ns a b M) (k : jR ns b c N) (hab : a ≤ b) (hbc : b ≤ c) : jR ns a c (if N < M then N else M) := by
 obtain ⟨⟨i, i1, i2, i3⟩, h2⟩ := h
 obtain ⟨⟨j, j1, j2, j3⟩, k2⟩ := k
 constructor
 ·split
  ·exact ⟨j, by omega, j2, j3⟩
  ·exact ⟨i, i1, by omega, i3⟩
 ·intro t x t1 t2 e
  rcases Nat.lt_or_ge t b with q | q
  ·have := h2 t x t1 q e
   split <;> omega
  ·have := k2 t x q t2 e
   split <;> omega
theorem eY.least {ns : List Int} {S : Nat} {xs : List V} (h : eY ns S 1 xs) (hl : ns.length ≤ S) : ∀ e n a : Nat, n * 2 ^ e = S + a → a + 2 ^ e ≤ ns.length → 1 ≤ n → ∃ M, xs[n]? = some (.int M) ∧ jR ns a (a + 2 ^ e) M
 | 0, n, a, h1, h2, h3 => by
  rw [Nat.pow_zero] at h2
  rw [Nat.pow_zero, Nat.mul_one] at h1
  have hg : ns[a]? = some ns[a] := List.getElem?_eq_getElem (by omega)
  have := h.leaf a (by omega)
  rw [← h1, oR hg] at this
  refine ⟨_, this, ⟨a, Nat.le_refl _, by omega, hg⟩, fun i c i1 i2 e => ?_⟩
  have : i = a := by omega
  subst this
  rw [hg] at e
  cases e
  exact Int.le_refl _
 | e + 1, n, a, h1, h2, h3 => by
  have hp : 0 < 2 ^ e := Nat.two_pow_pos e
  have ep : 2 ^ (e + 1) = 2 * 2 ^ e := by rw [Nat.pow_succ, Nat.mul_comm]
  rw [ep] at h1 h2
  have c1 : 2 * n * 2 ^ e = S + a := by rw [← h1, ← Nat.mul_assoc, Nat.mul_comm n 2]
  have c2 : (2 * n + 1) * 2 ^ e = S + (a + 2 ^ e) := by rw [Nat.add_mul, c1, Nat.one_mul]; omega
  have hn : n < S := by
   rcases Nat.lt_or_ge n S with z | z
   ·exact z
   ·exfalso
    have : S * (2 * 2 ^ e) ≤ n * (2 * 2 ^ e) := Nat.mul_le_mul_right _ z
    have : 2 * S ≤ S * (2 * 2 ^ e) := by
     rw [Nat.mul_comm 2 S]
     exact Nat.mul_le_mul_left _ (by omega)
    omega
  obtain ⟨M, e1, m1⟩ := eY.least h hl e (2 * n) a c1 (by omega) (by omega)
  obtain ⟨N, e2, m2⟩ := eY.least h hl e (2 * n + 1) (a + 2 ^ e) c2 (by omega) (by omega)
  obtain ⟨x, y, f1, f2, f3⟩ := h.node n h3 h3 hn
  rw [e1] at f1
  rw [e2] at f2
  cases f1
  cases f2
  refine ⟨_, f3, ?_⟩
  have := m1.join m2 (by omega) (by omega)
  rw [ep, show a + 2 * 2 ^ e = a + 2 ^ e + 2 ^ e from by omega]
  exact this
def gG (xs : List V) (n : Nat) : Int := match xs[n]? with | some (.int M) => M | _ => 0
theorem eZ {xs : List V} {n : Nat} {M : Int} (h : xs[n]? = some (.int M)) : gG xs n = M := by
 unfold gG
 rw [h]
theorem fP {ns : List Int} {S st sp : Nat} {xs : List V} (h : eY ns S 1 xs) (hl : ns.length ≤ S) (hsp : sp ≤ ns.length) : ∀ {l : List Nat} {a b : Nat}, Chain S st sp l (S + a) (S + b) → b ≤ sp →
  a ≤ b ∧ (∀ n ∈ l, 1 ≤ n ∧ n < 2 * S ∧ xs[n]? = some (.int (gG xs n))) ∧ (∀ v ∈ l.map (gG xs), ∃ i, a ≤ i ∧ i < b ∧ ns[i]? = some v) ∧ ∀ i c, a ≤ i → i < b → ns[i]? = some c → ∃ v ∈ l.map (gG xs), v ≤ c
 | [], a, b, hc, _ => by
  have hc : S + a = S + b := hc
  exact ⟨by omega, nofun, nofun, fun i c i1 i2 _ => by omega⟩
 | n :: r, a, b, hc, hb => by
  obtain ⟨e, e1, ⟨n1, n2, n3, _⟩, ch⟩ := hc
  have hp : 0 < 2 ^ e := Nat.two_pow_pos e
  have e5 : (n + 1) * 2 ^ e = S + (a + 2 ^ e) := by rw [Nat.succ_mul, e1]; omega
  rw [e5] at ch n3
  obtain ⟨i1, i2, i3, i4⟩ := fP h hl hsp ch hb
  obtain ⟨M, m1, m2, m3⟩ := h.least hl e n a e1 (by omega) n1
  have ev := eZ m1
  have hnl : n ≤ n * 2 ^ e := Nat.le_mul_of_pos_right _ hp
  refine ⟨by omega, fun k hk => ?_, fun v hv => ?_, fun i c j1 j2 ec => ?_⟩
  ·rcases List.mem_cons.mp hk with rfl | hk
   ·exact ⟨n1, by omega, by rw [ev]; exact m1⟩
   ·exact i2 k hk
  ·rw [List.map_cons] at hv
   rcases List.mem_cons.mp hv with rfl | hv
   ·obtain ⟨i, a1, a2, a3⟩ := m2
    exact ⟨i, a1, by omega, by rw [ev]; exact a3⟩
   ·obtain ⟨i, a1, a2, a3⟩ := i3 v hv
    exact ⟨i, by omega, a2, a3⟩
  ·rcases Nat.lt_or_ge i (a + 2 ^ e) with q | q
   ·exact ⟨M, by rw [List.map_cons, ev]; exact .head _, m3 i c j1 q ec⟩
   ·obtain ⟨v, v1, v2⟩ := i4 i c q j2 ec
    exact ⟨v, by rw [List.map_cons]; exact .tail _ v1, v2⟩
theorem wW {ns : List Int} {S st sp : Nat} {xs : List V} (h : eY ns S 1 xs) (hl : ns.length ≤ S) (hsp : sp ≤ ns.length) {l : List Nat} {a b : Nat} (hc : Chain S st sp l (S + a) (S + b)) (hb : b ≤ sp) {M : Int} (hM : oH M (l.map (gG xs))) : jR ns a b M := by
 obtain ⟨_, _, h3, h4⟩ := fP h hl hsp hc hb
 refine ⟨h3 M hM.1, fun i c i1 i2 e => ?_⟩
 obtain ⟨v, v1, v2⟩ := h4 i c i1 i2 e
 have := hM.2 v v1
 omega
theorem tG {S st sp h : Nat} (hS : S = 2 ^ h) (hsp : sp ≤ S) : ∀ (f e low high : Nat) (ls rs : List Nat), Cov S st sp e low high ls rs → high - low ≤ f → (pW f low high ls rs).length ≤ ls.length + rs.length + 2 * (h + 1 - e)
 | 0, e, low, high, ls, rs, c, hf => by
  show (ls ++ rs.reverse).length ≤ _
  rw [List.length_append, List.length_reverse]
  omega
 | f + 1, e, low, high, ls, rs, c, hf => by
  unfold pW
  have h0 : 1 ≤ S := by rw [hS]; exact Nat.one_le_two_pow
  by_cases q : low < high
  ·rw [if_pos q]
   have he : e < h + 1 := by
    rcases Nat.lt_or_ge e (h + 1) with z | z
    ·exact z
    ·exfalso
     have p1 : 2 ^ (h + 1) ≤ 2 ^ e := Nat.pow_le_pow_right (by decide) z
     rw [Nat.pow_succ] at p1
     have hl0 : 1 ≤ low := by
      rcases Nat.eq_zero_or_pos low with y | y
      ·have := c.lo1
       rw [y, Nat.zero_mul] at this
       omega
      ·exact y
     have : 2 * 2 ^ e ≤ high * 2 ^ e := Nat.mul_le_mul_right _ (by omega)
     have := c.hi1
     omega
   have := tG hS hsp f (e + 1) _ _ _ _ (c.step ⟨h, hS⟩ hsp h0 q) (by omega)
   have e1 : (if low % 2 = 1 then ls ++ [low] else ls).length ≤ ls.length + 1 := by split <;> simp
   have e2 : (if high % 2 = 1 then rs ++ [high - 1] else rs).length ≤ rs.length + 1 := by split <;> simp
   omega
  ·rw [if_neg q, List.length_append, List.length_reverse]
   omega
theorem wU {S st sp h : Nat} (hS : S = 2 ^ h) (hst : st ≤ sp) (hsp : sp ≤ S) : (cover S st sp).length ≤ 2 * h + 2 := by
 have := tG hS hsp (sp - st) 0 (S + st) (S + sp) [] [] (.start hst) (by omega)
 simp only [List.length_nil] at this
 unfold cover
 omega
end Tw
set_option Elab.async false
set_option linter.all false
set_option maxRecDepth 100000
set_option maxHeartbeats 4000000
namespace Tw
open L2
theorem eY.kids {ns : List Int} {S : Nat} {xs : List V} (h : eY ns S 1 xs) (hl : ns.length ≤ S) {e m b : Nat} (h1 : m * 2 ^ (e + 1) = S + b) (h2 : b + 2 ^ (e + 1) ≤ ns.length) (h3 : 1 ≤ m) :
  ∃ M N, xs[2 * m]? = some (.int M) ∧ xs[2 * m + 1]? = some (.int N) ∧ jR ns b (b + 2 ^ e) M ∧ jR ns (b + 2 ^ e) (b + 2 ^ (e + 1)) N ∧ gG xs m = (if N < M then N else M) ∧ 2 * m * 2 ^ e = S + b ∧ (2 * m + 1) * 2 ^ e = S + (b + 2 ^ e) ∧ m < S := by
 have hp : 0 < 2 ^ e := Nat.two_pow_pos e
 have ep : 2 ^ (e + 1) = 2 * 2 ^ e := by rw [Nat.pow_succ, Nat.mul_comm]
 rw [ep] at h1 h2 ⊢
 have c1 : 2 * m * 2 ^ e = S + b := by rw [← h1, ← Nat.mul_assoc, Nat.mul_comm m 2]
 have c2 : (2 * m + 1) * 2 ^ e = S + (b + 2 ^ e) := by rw [Nat.add_mul, c1, Nat.one_mul]; omega
 have hn : m < S := by
  rcases Nat.lt_or_ge m S with z | z
  ·exact z
  ·exfalso
   have : S * (2 * 2 ^ e) ≤ m * (2 * 2 ^ e) := Nat.mul_le_mul_right _ z
   have : 2 * S ≤ S * (2 * 2 ^ e) := by
    rw [Nat.mul_comm 2 S]
    exact Nat.mul_le_mul_left _ (by omega)
   omega
 obtain ⟨M, e1, m1⟩ := h.least hl e (2 * m) b c1 (by omega) (by omega)
 obtain ⟨N, e2, m2⟩ := h.least hl e (2 * m + 1) (b + 2 ^ e) c2 (by omega) (by omega)
 obtain ⟨x, y, f1, f2, f3⟩ := h.node m h3 h3 hn
 rw [e1] at f1
 rw [e2] at f2
 cases f1
 cases f2
 refine ⟨M, N, e1, e2, m1, ?_, eZ f3, c1, c2, hn⟩
 rw [show b + 2 * 2 ^ e = b + 2 ^ e + 2 ^ e from by omega]
 exact m2
def Hit (ns : List Int) (s x y : Nat) (g : Int) (i : Nat) : Prop := x ≤ i ∧ i < y ∧ (∃ c, ns[i]? = some c ∧ c ≤ g) ∧ ∀ j c, x ≤ j → j < y → (if s = 0 then j < i else i < j) → ns[j]? = some c → g < c
structure p7 (ns : List Int) (xs : List V) (S s x y : Nat) (g : Int) (e m b : Nat) : Prop where
 at_ : m * 2 ^ e = S + b
 lo : x ≤ b
 hi : b + 2 ^ e ≤ y
 one : 1 ≤ m
 low : gG xs m ≤ g
 out : ∀ j c, x ≤ j → j < y → (if s = 0 then j < b else b + 2 ^ e ≤ j) → ns[j]? = some c → g < c
theorem p7.hit {ns : List Int} {xs : List V} {S s x y m b : Nat} {g : Int} (h : eY ns S 1 xs) (hl : ns.length ≤ S) (hy : y ≤ ns.length) (hs : s ≤ 1) (d : p7 ns xs S s x y g 0 m b) : m = S + b ∧ Hit ns s x y g b := by
 have h1 := d.at_
 have h2 := d.hi
 rw [Nat.pow_zero] at h1 h2
 obtain ⟨M, e1, ⟨i, i1, i2, i3⟩, _⟩ := h.least hl 0 m b d.at_ (by rw [Nat.pow_zero]; omega) d.one
 have ei : i = b := by rw [Nat.pow_zero] at i2; omega
 subst ei
 have hlow := d.low
 rw [eZ e1] at hlow
 refine ⟨by omega, d.lo, by omega, ⟨M, i3, hlow⟩, fun j c j1 j2 j3 ec => d.out j c j1 j2 ?_ ec⟩
 split
 ·rename_i z
  rw [if_pos z] at j3
  exact j3
 ·rename_i z
  rw [if_neg z] at j3
  rw [Nat.pow_zero]
  omega
theorem p7.step {ns : List Int} {xs : List V} {S s x y m b e : Nat} {g : Int} (h : eY ns S 1 xs) (hl : ns.length ≤ S) (hy : y ≤ ns.length) (hs : s ≤ 1) (d : p7 ns xs S s x y g (e + 1) m b) :
  ∃ v, xs[2 * m + s]? = some (.int v) ∧ m < S ∧ 2 * m + s < 2 * S ∧ (v ≤ g → ∃ b', p7 ns xs S s x y g e (2 * m + s) b') ∧ (g < v → ∃ b', p7 ns xs S s x y g e (2 * m + 1 - s) b') := by
 have hhi := d.hi
 have hlo := d.lo
 have hone := d.one
 have hp : 0 < 2 ^ e := Nat.two_pow_pos e
 have ep : 2 ^ (e + 1) = 2 * 2 ^ e := by rw [Nat.pow_succ, Nat.mul_comm]
 obtain ⟨M, N, e1, e2, m1, m2, ev, c1, c2, hm⟩ := h.kids hl d.at_ (by omega) hone
 have hlow := d.low
 rw [ev] at hlow
 have hout := d.out
 rw [ep] at hhi hout m2
 rcases (show s = 0 ∨ s = 1 by omega) with rfl | rfl
 ·refine ⟨M, e1, hm, by omega, fun hv => ⟨b, c1, hlo, by omega, by omega, by rw [Nat.add_zero, eZ e1]; exact hv, fun j c j1 j2 j3 ec => hout j c j1 j2 j3 ec⟩, fun hv => ⟨b + 2 ^ e, c2, by omega, by omega, by omega, ?_, fun j c j1 j2 j3 ec => ?_⟩⟩
  ·show gG xs (2 * m + 1 - 0) ≤ g
   rw [Nat.sub_zero, eZ e2]
   split at hlow <;> omega
  ·rw [if_pos rfl] at j3
   rcases Nat.lt_or_ge j b with z | z
   ·exact hout j c j1 j2 (by rw [if_pos rfl]; exact z) ec
   ·have := m1.2 j c z j3 ec
    omega
 ·refine ⟨N, e2, hm, by omega, fun hv => ⟨b + 2 ^ e, c2, by omega, by omega, by omega, by rw [eZ e2]; exact hv, fun j c j1 j2 j3 ec => hout j c j1 j2 ?_ ec⟩, fun hv => ⟨b, ?_, hlo, by omega, by omega, ?_, fun j c j1 j2 j3 ec => ?_⟩⟩
  ·rw [if_neg (by decide)] at j3 ⊢
   omega
  ·rw [Nat.add_sub_cancel]
   exact c1
  ·rw [Nat.add_sub_cancel, eZ e1]
   split at hlow <;> omega
  ·rw [if_neg (by decide)] at j3
   rcases Nat.lt_or_ge j (b + 2 * 2 ^ e) with z | z
   ·have := m2.2 j c j3 z ec
    omega
   ·exact hout j c j1 j2 (by rw [if_neg (by decide)]; exact z) ec
theorem p7.start {ns : List Int} {xs : List V} {S s n a e : Nat} {g : Int} (h1 : n * 2 ^ e = S + a) (h2 : 1 ≤ n) (h3 : gG xs n ≤ g) : p7 ns xs S s a (a + 2 ^ e) g e n a :=
 ⟨h1, Nat.le_refl _, Nat.le_refl _, h2, h3, fun j c j1 j2 j3 _ => by split at j3 <;> omega⟩
theorem mZ {S st sp : Nat} : ∀ {l : List Nat} {x y : Nat} (k : Nat), Chain S st sp l x y → ∃ z, Chain S st sp (l.take k) x z ∧ Chain S st sp (l.drop k) z y
 | l, x, y, 0, h => ⟨x, rfl, h⟩
 | [], x, y, k + 1, h => ⟨x, rfl, h⟩
 | n :: r, x, y, k + 1, h => by
  obtain ⟨e, h1, h2, h3⟩ := h
  obtain ⟨z, z1, z2⟩ := mZ k h3
  exact ⟨z, ⟨e, h1, h2, z1⟩, z2⟩
theorem ur {S st sp : Nat} : ∀ {l : List Nat} {x y : Nat}, Chain S st sp l x y → x ≤ y
 | [], x, y, h => Nat.le_of_eq h
 | n :: r, x, y, h => by
  obtain ⟨e, h1, _, h3⟩ := h
  have := ur h3
  have : n * 2 ^ e ≤ (n + 1) * 2 ^ e := Nat.mul_le_mul_right _ (Nat.le_succ _)
  omega
end Tw
set_option Elab.async false
set_option linter.all false
set_option maxRecDepth 100000
set_option maxHeartbeats 4000000
namespace L2
open PySem PySem.Spec PyProof.Rows
section
variable {prog : Program} {w : World} {A : Around} {R : Result → Shared → Prop} {I S : Addr} {fp wr : List Addr} {P : Nat → Value → Prop} {St : Nat → Heap → Prop}
theorem yo {n : Nat} (W : Walks prog w A.in1 I fp wr n P St) (hn : n = 0) (hSf : S ∉ fp) {s : Shared} {c : Nat} {d : Value} (st : St 0 s.heap) (hS : s.heap.get? S = some { cls := .type "list", data := .seq #[] c })
  (fin : ∀ g t, (∀ b o, b ∉ wr → b ≠ S → s.heap.get? b = some o → g.get? b = some o) → R (.ok (.ret d)) { s with heap := g, toks := t }) :
  codeAny (model prog w) A (.builtin "min.loop" ⟨[.ref I, .none, .ref S], [(Str.ofString "default", d)]⟩) R s := by
 subst hn
 have hSw : S ∉ wr := fun z => hSf (W.sub _ z)
 refine codeAny_builtin PySem.F.entry_min_loop ?_
 rw [Around.under_plainId PySem.F.plain_min_loop _]
 show wpAny _ A.in1 (seqItems? (.ref S) >>= _) _ _ s
 refine wpAny_bind (wpAny_seqItems hS rfl ?_)
 show wpAny _ A.in1 (tryCatch (pyNext (.ref I)) _ >>= _) _ _ s
 refine wpAny_bind (wpAny_tryCatch (W.done s _ _ st fun g t kk => ?_))
 refine wpAny_bind (wpAny_rule ?_)
 exact wpAny_pure (fin g t fun b o b1 _ q => kk b o b1 q)
end
section
variable {prog : Program} {w : World} {A : Around} {E : Value → Shared → Prop} {s : Shared} {l : Addr}
theorem jY {d : Value} {zs : Array (Int × Tok)} {Q : Value → Shared → Prop} (hh : A.handled = none) (hl : s.heap.IsList l (intItems zs)) (h0 : zs.size = 0)
  (h : ∀ g t, (∀ b o, s.heap.get? b = some o → g.get? b = some o) → Q d { s with heap := g, toks := t }) :
  wpAny (model prog w) A (call (.builtin "min") [.ref l] [(Str.ofString "default", d)]) Q E s := by
 have nm : (toString "min" ++ toString ".loop" : String) = "min.loop" := by decide
 refine PyProof.Rows.kmk_tree PySem.F.kind_min PySem.F.plain_min PySem.F.entry_min (qz _ _) ?_
 refine wpAny_bind (wpAny_of_eq (show Builtin.Builtins.bindParams "min" ["key", "default"] 0 ⟨[], [(Str.ofString "default", d)]⟩ = pure [none, some d] from rfl) ?_)
 refine wpAny_bind (wpAny_pure (wpAny_bind (iter_intList hl fun s2 e st hfp hlI => ?_)))
 subst e
 refine wpAny_bind (wpAny_newObj_type ?_)
 rw [nm]
 have hz : (intItems zs).size = zs.size := by simp [intItems]
 refine wpAny_pure ⟨plainId_quiet PySem.F.plain_min_loop _, yo (Walks.list (A := A.in1) hh _ l hlI (intItems zs)) (by rw [hz]; exact h0) (fun z => Nat.lt_irrefl _ (hfp _ z))
  ⟨⟨_, Heap.get?_push_of_some _ (Heap.get?_push_size _ rfl), rfl, rfl⟩, (hl.push _).push _⟩ (Heap.get?_push_size _ rfl) fun g t k => ?_⟩
 refine h g t fun b o q => k b o ?_ ?_ (Heap.get?_push_of_some _ (Heap.get?_push_of_some _ q))
 ·exact fun z => absurd (Heap.lt_size q) (by rw [List.mem_singleton.mp z]; exact Nat.lt_irrefl _)
 ·refine Nat.ne_of_lt (Nat.lt_of_lt_of_le (Heap.lt_size q) ?_)
  rw [Heap.size_push]
  exact Nat.le_succ _
end
section
variable {X : Cx}
def Aa (K : PySem.W.Frag) (ta : TA) (td : TE) : TE := fun σ H Q => ta σ H fun vs H1 => td σ H1 fun x H2 => ∃ (p : Addr) (ns : List Int), vs = [.ref p] ∧ SqL K H2 p (ns.map V.int) ∧ ((ns = [] ∧ Q x H2) ∨ (0 < ns.length ∧ ∀ M, oH M ns → Q (.int M) H2))
theorem yM {a d : Expr} {ta : TA} {td : TE} {p pos kpos : Pos} (hc : X.calm = true) (hg : Gl X "min") (hm : X.mg "min" = none) (ha : PA X [a] ta) (hd : PE X d td)
  (hv : bootBuiltins "min" = some (.builtin "min"))
  (he : backTo pos (starEach [a] X.env) = (false, eval a X.env) :: backTo pos (starEach [] X.env) := by rfl) (hpl : (backTo pos (starEach [a] X.env)).any (·.1) = false := by rfl)
  (hks : (backToKw pos (keywordEach [⟨some (Str.ofString "default"), d, kpos⟩] X.env)).filterMap (·.1) = [Str.ofString "default"] := by rfl)
  (hall : (backToKw pos (keywordEach [⟨some (Str.ofString "default"), d, kpos⟩] X.env)).all (·.1.isSome) = true := by rfl)
  (hkw : (backToKw pos (keywordEach [⟨some (Str.ofString "default"), d, kpos⟩] X.env)).any (·.1.isNone) = false := by rfl) :
  PE X (.Call (.Name "min" p) [a] [⟨some (Str.ofString "default"), d, kpos⟩] pos) (Aa X.K ta td) := by
 intro pins s σ H Q I h
 refine wpAny_Call_Name_kw (dG I hg hm hv ?_)
 refine PyProof.Rows.callWith_kw (thn (ha pos pins s σ H _ I h) fun us s1 ⟨vs, H1, I1, r1, q1⟩ => ?_) he hpl hall hkw
 show wpAny _ _ (evalAll ((do let v ← eval d X.env; standAt pos; pure v) :: [])) _ _ s1
 refine wpAny_evalAll_cons (wpAny_bind (thn (hd pins s1 σ H1 _ I1 q1) fun dv s2 ⟨x, H2, I2, rd, q2⟩ => wpAny_bind (wpAny_standAt (wpAny_pure (wpAny_evalAll_nil ?_)))))
 obtain ⟨b, ns, rfl, hq, q⟩ := q2
 obtain ⟨u, rfl, rx⟩ := vals1 r1
 cases rx
 rw [hks]
 obtain ⟨its, r', pl, hz⟩ := I2.list hq
 have hi := intsAre_of r'
 rcases q with ⟨rfl, q⟩ | ⟨hne, q⟩
 ·obtain ⟨qs, e⟩ := hi.allInts.items
  have e0 : its = [] := List.eq_nil_of_length_eq_zero (by rw [← r'.length]; rfl)
  have e1 : qs.size = 0 := by
   have hz : (intItems qs).size = qs.size := by simp [intItems]
   rw [← hz, ← e, e0]
   rfl
  refine jY (zs := qs) (I.ok.hd hc) (by rw [← e]; exact pl.isList) e1 fun g t k => ?_
  exact ⟨x, H2, I2.kept (t' := t) k, rd, q⟩
 ·obtain ⟨qs, e⟩ := hi.allInts.items
  obtain ⟨hsz, hmn⟩ := oV hi e hne
  refine gP (zs := qs) (I.ok.hd hc) (by rw [← e]; exact pl.isList) hsz fun v g t hv k => ?_
  obtain ⟨t', rfl⟩ := intItems_at hv
  exact ⟨.int _, H2, I2.kept (t' := t) k, ⟨t', rfl⟩, q _ hmn⟩
end
end L2
namespace L2
open PySem PySem.Spec PyProof.Rows
section
variable {X : Cx}
end
end L2
set_option Elab.async false
set_option linter.all false
set_option maxRecDepth 100000
set_option maxHeartbeats 4000000
namespace Tw
def ahd (ns : List Int) (n : Nat) : List Int := (List.range (n + 1)).map fun k => (ns.take (32 * k)).sum
theorem vh (ns : List Int) (n : Nat) : (ahd ns n).length = n + 1 := by simp [ahd]
theorem zQ {ns : List Int} {n k : Nat} (h : k ≤ n) : (ahd ns n)[k]? = some (ns.take (32 * k)).sum := by
 have : k < n + 1 := by omega
 simp [ahd, this]
def gr (bs : List Int) (k : Nat) : Int := ((bs.take k).map fun b => ones b 32).sum
theorem m8 {bs : List Int} {k : Nat} {b : Int} (h : bs[k]? = some b) : gr bs (k + 1) = gr bs k + ones b 32 := by
 unfold gr
 rw [List.take_add_one, h]
 simp [List.sum_append]
def dU (bs : List Int) (n : Nat) : List Int := (List.range (n + 1)).map (gr bs)
theorem p6 (bs : List Int) (n : Nat) : (dU bs n).length = n + 1 := by simp [dU]
theorem sW (bs : List Int) (n : Nat) : dU bs (n + 1) = dU bs n ++ [gr bs (n + 1)] := by
 unfold dU
 rw [List.range_succ, List.map_append]
 rfl
theorem sG (bs : List Int) (n : Nat) : dU bs n = (List.range n).map (gr bs) ++ [gr bs n] := by
 unfold dU
 rw [List.range_succ, List.map_append]
 rfl
theorem jU {ns : List Int} (h : aK ns) : ∀ k : Nat, k ≤ many ns.length → gr (cZ ns) k = (ns.take (32 * k)).sum
 | 0, _ => by simp [gr]
 | k + 1, hk => by
  rw [m8 (lO (by omega)), jU h k (by omega), qF h k 32 (by omega)]
  rfl
theorem rK {ns : List Int} (h : aK ns) : dU (cZ ns) (cZ ns).length = ahd ns (many ns.length) := by
 rw [iB]
 unfold dU ahd
 refine List.map_congr_left fun k hk => ?_
 have := List.mem_range.mp hk
 exact jU h k (by omega)
def wide (n j : Nat) : Nat := min 32 (n - 32 * j)
def qm (ns : List Int) (j : Nat) (m : Int) : Prop := (∃ k, 32 * j < k ∧ k ≤ 32 * j + 32 ∧ k ≤ ns.length ∧ m = ht ns k) ∧ ∀ k, 32 * j < k → k ≤ 32 * j + 32 → k ≤ ns.length → m ≤ ht ns k
theorem qm.of {ns : List Int} (h : aK ns) {j : Nat} {M : Int} (hM : M ∈ nets (bM ns j) (wide ns.length j)) (hle : ∀ a ∈ nets (bM ns j) (wide ns.length j), M ≤ a) : qm ns j (ht ns (32 * j) + M) := by
 unfold wide at *
 constructor
 ·obtain ⟨k, k1, k2, rfl⟩ := uc.mp hM
  refine ⟨32 * j + k, by omega, by omega, by omega, ?_⟩
  rw [gJ h j k (by omega)]
 ·intro k k1 k2 k3
  have := hle _ (uc.mpr ⟨k - 32 * j, by omega, by omega, rfl⟩)
  have e := gJ h j (k - 32 * j) (by omega)
  rw [show 32 * j + (k - 32 * j) = k from by omega] at e
  omega
structure rD (ns ls : List Int) : Prop where
 len : ls.length = many ns.length
 low : ∀ j m, ls[j]? = some m → qm ns j m
theorem Tree.pos {ns : List Int} (t : Tree ns) {k : Nat} (h : k ≤ ns.length) : 0 ≤ ht ns k := by
 obtain ⟨t1, t2, t3⟩ := t
 rcases Nat.eq_zero_or_pos k with rfl | h0
 ·rw [eX]
  decide
 rcases Nat.lt_or_ge k ns.length with q | q
 ·have := t3 k h0 q
  omega
 ·have : k = ns.length := by omega
  rw [this, t2]
  decide
end Tw
set_option Elab.async false
set_option linter.all false
set_option maxRecDepth 100000
set_option maxHeartbeats 4000000
namespace Tw
def pY (ns : List Int) (a b : Nat) (m : Int) : Prop := (∃ k, a < k ∧ k ≤ b ∧ m = ht ns k) ∧ ∀ k, a < k → k ≤ b → m ≤ ht ns k
theorem pY.join2 {ns : List Int} {a b c : Nat} {m n : Int} (h : pY ns a b m) (k : pY ns b c n) (hab : a ≤ b) (hbc : b ≤ c) {M : Int} (hM : M = m ∨ M = n) (h1 : M ≤ m) (h2 : M ≤ n) : pY ns a c M := by
 obtain ⟨⟨x, x1, x2, ex⟩, hx⟩ := h
 obtain ⟨⟨y, y1, y2, ey⟩, hy⟩ := k
 refine ⟨?_, fun z z1 z2 => ?_⟩
 ·rcases hM with e | e
  ·exact ⟨x, x1, by omega, by omega⟩
  ·exact ⟨y, by omega, y2, by omega⟩
 ·rcases Nat.lt_or_ge b z with q | q
  ·have := hy z q z2
   omega
  ·have := hx z z1 q
   omega
theorem rD.minH {ns ls : List Int} (h : rD ns ls) {i j : Nat} {m : Int} (hij : i < j) (hj : 32 * j ≤ ns.length) (h1 : ∃ t, i ≤ t ∧ t < j ∧ ls[t]? = some m) (h2 : ∀ t c, i ≤ t → t < j → ls[t]? = some c → m ≤ c) : pY ns (32 * i) (32 * j) m := by
 constructor
 ·obtain ⟨t, t1, t2, e⟩ := h1
  obtain ⟨⟨k, k1, k2, k3, ek⟩, _⟩ := h.low t m e
  exact ⟨k, by omega, by omega, ek⟩
 ·intro k k1 k2
  have hl := h.len
  have ht : (k - 1) / 32 < ls.length := by
   rw [hl]
   unfold many
   omega
  have e := List.getElem?_eq_getElem ht
  have a1 := h2 ((k - 1) / 32) _ (by omega) (by omega) e
  have a2 := (h.low _ _ e).2 k (by omega) (by omega) (by omega)
  omega
def cQ (ns : List Int) (a b : Nat) (g : Int) (k : Nat) : Prop := a < k ∧ k ≤ b ∧ ht ns k ≤ g ∧ ∀ i, a < i → i < k → g < ht ns i
def gA (ns : List Int) (a b : Nat) (g : Int) (k : Nat) : Prop := a < k ∧ k ≤ b ∧ ht ns k ≤ g ∧ ∀ i, k < i → i ≤ b → g < ht ns i
def bU (ns : List Int) (a b : Nat) (g : Int) : Prop := ∀ i, a < i → i ≤ b → g < ht ns i
theorem j6 {ns : List Int} (h : aK ns) {j st sp k : Nat} {g : Int} (hsp : sp ≤ 32) : Due (bM ns j) st sp (g - ht ns (32 * j)) k ↔ st < k ∧ k ≤ sp ∧ ht ns (32 * j + k) ≤ g := by
 unfold Due
 constructor
 ·rintro ⟨a, b, c⟩
  have := gJ h j k (by omega)
  exact ⟨a, b, by omega⟩
 ·rintro ⟨a, b, c⟩
  have := gJ h j k (by omega)
  exact ⟨a, b, by omega⟩
theorem first_within {ns : List Int} (h : aK ns) {j st sp k : Nat} {g : Int} (hsp : sp ≤ 32) (hd : Due (bM ns j) st sp (g - ht ns (32 * j)) k) (hm : ∀ i, Due (bM ns j) st sp (g - ht ns (32 * j)) i → k ≤ i) : cQ ns (32 * j + st) (32 * j + sp) g (32 * j + k) := by
 obtain ⟨a, b, c⟩ := (j6 h hsp).mp hd
 refine ⟨by omega, by omega, c, fun i i1 i2 => ?_⟩
 rcases Int.lt_or_le g (ht ns i) with q | q
 ·exact q
 ·have := hm (i - 32 * j) ((j6 h hsp).mpr ⟨by omega, by omega, by rw [show 32 * j + (i - 32 * j) = i from by omega]; exact q⟩)
  omega
theorem last_within {ns : List Int} (h : aK ns) {j st sp k : Nat} {g : Int} (hsp : sp ≤ 32) (hd : Due (bM ns j) st sp (g - ht ns (32 * j)) k) (hm : ∀ i, Due (bM ns j) st sp (g - ht ns (32 * j)) i → i ≤ k) : gA ns (32 * j + st) (32 * j + sp) g (32 * j + k) := by
 obtain ⟨a, b, c⟩ := (j6 h hsp).mp hd
 refine ⟨by omega, by omega, c, fun i i1 i2 => ?_⟩
 rcases Int.lt_or_le g (ht ns i) with q | q
 ·exact q
 ·have := hm (i - 32 * j) ((j6 h hsp).mpr ⟨by omega, by omega, by rw [show 32 * j + (i - 32 * j) = i from by omega]; exact q⟩)
  omega
theorem m7 {ns : List Int} (h : aK ns) {j st sp : Nat} {g : Int} (hsp : sp ≤ 32) (hm : ∀ i, ¬ Due (bM ns j) st sp (g - ht ns (32 * j)) i) : bU ns (32 * j + st) (32 * j + sp) g := fun i i1 i2 => by
 rcases Int.lt_or_le g (ht ns i) with q | q
 ·exact q
 ·exact absurd ((j6 h hsp).mpr ⟨by omega, by omega, by rw [show 32 * j + (i - 32 * j) = i from by omega]; exact q⟩) (hm (i - 32 * j))
theorem bU.join {ns : List Int} {a b c : Nat} {g : Int} (h : bU ns a b g) (k : bU ns b c g) : bU ns a c g := fun i i1 i2 => by
 rcases Nat.lt_or_ge b i with q | q
 ·exact k i q i2
 ·exact h i i1 q
theorem bU.empty {ns : List Int} {a b : Nat} {g : Int} (h : b ≤ a) : bU ns a b g := fun i i1 i2 => by omega
theorem rD.none {ns ls : List Int} (h : rD ns ls) {i j : Nat} {g : Int} (h2 : ∀ t c, i ≤ t → t < j → ls[t]? = some c → g < c) {b : Nat} (hb : b ≤ 32 * j) (hn : b ≤ ns.length) : bU ns (32 * i) b g := fun k k1 k2 => by
 have hl := h.len
 have ht : (k - 1) / 32 < ls.length := by
  rw [hl]
  unfold many
  omega
 have e := List.getElem?_eq_getElem ht
 have a1 := h2 ((k - 1) / 32) _ (by omega) (by omega) e
 have a2 := (h.low _ _ e).2 k (by omega) (by omega) (by omega)
 omega
theorem rD.some {ns ls : List Int} (h : rD ns ls) {t : Nat} {c g : Int} (e : ls[t]? = .some c) (hc : c ≤ g) : ¬ bU ns (32 * t) (min (32 * t + 32) ns.length) g := fun z => by
 obtain ⟨⟨k, k1, k2, k3, ek⟩, _⟩ := h.low t c e
 have := z k k1 (by omega)
 omega
theorem cQ.after {ns : List Int} {a b c k : Nat} {g : Int} (h : bU ns a b g) (f : cQ ns b c g k) (hab : a ≤ b) : cQ ns a c g k := by
 obtain ⟨f1, f2, f3, f4⟩ := f
 refine ⟨by omega, f2, f3, fun i i1 i2 => ?_⟩
 rcases Nat.lt_or_ge b i with q | q
 ·exact f4 i q i2
 ·exact h i i1 q
theorem cQ.wider {ns : List Int} {a b c k : Nat} {g : Int} (f : cQ ns a b g k) (h : b ≤ c) : cQ ns a c g k := ⟨f.1, by have := f.2.1; omega, f.2.2⟩
theorem gA.ahead {ns : List Int} {a b c k : Nat} {g : Int} (h : bU ns b c g) (f : gA ns a b g k) (hbc : b ≤ c) : gA ns a c g k := by
 obtain ⟨f1, f2, f3, f4⟩ := f
 refine ⟨f1, by omega, f3, fun i i1 i2 => ?_⟩
 rcases Nat.lt_or_ge b i with q | q
 ·exact h i q i2
 ·exact f4 i i1 q
theorem gA.wider {ns : List Int} {a a' b k : Nat} {g : Int} (f : gA ns a b g k) (h : a' ≤ a) : gA ns a' b g k := ⟨by have := f.1; omega, f.2⟩
def uz (ns : List Int) (b : Nat) (g : Int) (k : Nat) : Prop := k < b ∧ ht ns k ≤ g ∧ ∀ i, k < i → i < b → g < ht ns i
def yP (ns : List Int) (b : Nat) (g : Int) : Prop := ∀ i, i < b → g < ht ns i
end Tw
set_option Elab.async false
set_option linter.all false
set_option maxRecDepth 100000
set_option maxHeartbeats 4000000
namespace L2
open PySem PySem.Spec PyProof.Rows
structure rB (X : Cx) (x z : Str) (caps : List (Str × Nat)) (scope : Scope) (cl : List (Str × Addr)) : Prop where
 o : eQ X x caps scope cl
 hz : scope.names.lookup z = some .local
 nd : (x :: z :: caps.map (·.1)).Nodup
section
variable {X : Cx} {pins : List (Addr × Obj)} {σ : St} {H : Hp} {s : Shared}
theorem Inv.comp2 {x z : Str} {caps : List (Str × Nat)} {scope : Scope} {cl : List (Str × Addr)} {fp : List Addr} {h' : Heap} {tk : Nat} {m : Str → Option Value} {D C : Addr} (I : Inv X pins σ H s) (K0 : rB X x z caps scope cl) (hf : ∀ b ∈ fp, jb X pins H b)
    (hfs : ∀ b ∈ fp, b < s.heap.objs.size) (hD : s.heap.objs.size ≤ D) (hC : s.heap.objs.size ≤ C) (hDC : D ≠ C) (hk : ∀ b o, s.heap.get? b = some o → h'.get? b = some o) (hn : h'.Ns C m) (hL : h'.get? D = some { cls := .type "list", data := .seq #[] }) :
    Inv (bB X (x :: z :: caps.map (·.1)) scope cl C s H fp) [] (none :: none :: eV caps σ) (upd H D (.lst [])) { s with heap := h', toks := tk } := by
  have hnD := I.hok.fresh hD
  have hnC := I.hok.fresh hC
  have lkc : ∀ y c, (bB X (x :: z :: caps.map (·.1)) scope cl C s H fp).env.cells.lookup y = some c → X.env.cells.lookup y = some c := fun y c e => K0.o.cls y c e
  have clt : ∀ y c, X.env.cells.lookup y = some c → c < s.heap.objs.size := fun y c e => by
    obtain ⟨v, q⟩ := I.cell y c e
    exact q.lt
  have up : ∀ b u, H b = some u → upd H D (.lst []) b = some u := fun b u q => by rw [aG (aO q hnD)]; exact q
  have ok : (bB X (x :: z :: caps.map (·.1)) scope cl C s H fp).Ok := by
    refine ⟨I.ok.mod, K0.o.kind, I.ok.glob, I.ok.blt, hC, fun y z c h1 h2 => I.ok.inj y z c (lkc y c h1) (lkc z c h2), fun y hy => K0.o.has y hy, fun y c h => absurd (show false = true from h) Bool.false_ne_true, I.ok.hd, I.ok.frames, .inl rfl, fun b hb => ?_, I.bs, Nat.le_trans I.ok.bsz I.sz, fun b o e hb => ?_, fun b hb hz => ?_, I.stack, I.stkFree⟩
    · obtain ⟨f0, f1, f2, f3, f4, f5⟩ := hf b hb
      exact ⟨Nat.ne_of_lt (Nat.lt_of_lt_of_le (hfs b hb) hC), fun y c e => f4 y c (lkc y c e)⟩
    · obtain ⟨f0, f1, f2, f3, f4, f5⟩ := hf b hb
      rcases f3 with z | z
      · exact I.ok.noex b o e z
      · exact absurd (Nat.lt_of_lt_of_le (Nat.lt_of_lt_of_le (Heap.lt_size e) I.ok.bsz) z) (Nat.lt_irrefl _)
    · obtain ⟨f0, f1, f2, f3, f4, f5⟩ := hf b hb
      rcases List.mem_cons.mp (I.stkSub b hz) with z | z
      · exact f1 z
      · exact f2 z
  refine ⟨ok, rfl, I.bare, ?_, ⟨m, hn, fun i y v e1 e2 e3 => ?_⟩, fun y c e => ?_, ?_, fun y c e => ?_, fun p hp => absurd (show p ∈ ([] : List (Addr × Obj)) from hp) (by simp), ?_, ?_⟩
  · exact Un.laid hk hD hnD
  · cases i with
    | zero => cases e2
    | succ i =>
     cases i with
     | zero => cases e2
     | succ i =>
      have e1' : (caps.map (·.1))[i]? = some y := e1
      have e2' : (eV caps σ)[i]? = some (some v) := e2
      rw [List.getElem?_map] at e1'
      unfold eV at e2'
      rw [List.getElem?_map] at e2'
      cases ec : caps[i]? with
      | none => rw [ec] at e1'; cases e1'
      | some p =>
        rw [ec] at e1' e2'
        obtain ⟨y', j⟩ := p
        have ey : y' = y := Option.some.inj e1'
        subst ey
        have ev : (σ[j]?).getD none = some v := Option.some.inj e2'
        have ev' : σ[j]? = some (some v) := by
          cases q : σ[j]? with
          | none => rw [q] at ev; cases ev
          | some w => rw [q] at ev; exact congrArg some ev
        obtain ⟨c1, c2, c3⟩ := K0.o.cap y' j (List.mem_of_getElem? ec)
        obtain ⟨m0, hn0, hl⟩ := I.loc
        obtain ⟨u, r, l⟩ := hl j y' v c1 ev' (by rcases c2 with z | z; exact .inr (.inl z); exact .inr (.inr z))
        refine ⟨u, r, .inr ⟨c3, ?_⟩⟩
        rcases l with ⟨k, _⟩ | ⟨k, c, ec, z⟩
        · have k' : X.env.scope.names.lookup y' = some .local := k
          rcases c2 with z | z
          · rw [z] at k'; cases k'
          · rw [z] at k'; cases k'
        · obtain ⟨c', hc'⟩ := K0.o.has y' c3
          have e4 := K0.o.cls y' c' hc'
          rw [ec] at e4
          cases e4
          obtain ⟨o, ho, hd⟩ := z
          exact ⟨c, hc', o, hk _ _ ho, hd⟩
  · obtain ⟨v, o, ho, hd⟩ := I.cell y c (lkc y c e)
    exact ⟨v, o, hk _ _ ho, hd⟩
  · show upd H D (.lst []) C = none
    rw [aG (Ne.symm hDC)]
    exact hnC
  · have hlt := clt y c (lkc y c e)
    rw [aG (Nat.ne_of_lt (Nat.lt_of_lt_of_le hlt hD))]
    exact I.freeC y c (lkc y c e)
  · exact I.hok.laid hk hD ⟨Nat.zero_le _, [], _, .nil, hL⟩
  · show (none :: none :: eV caps σ).length = (x :: z :: caps.map (·.1)).length
    simp [m6]
def rP (K : PySem.W.Frag) (J : It) (cap : St) (te : TE) (Qf : Addr → Hp → Prop) (H : Hp) : Prop :=
 ∀ D, H D = none → ∃ W : Nat → Nat → List V → Hp → Prop, (∃ m, W 0 m [] (upd H D (.lst []))) ∧ ∀ i m ys H1, W i m ys H1 →
  (J.stop i H1 ∧ Qf D H1) ∨ (J.go i H1 ∧ ∀ v H2, J.yld i H1 v H2 → ∃ ta v1 v2, v = .ref ta ∧ SqT K H2 ta [v1, v2] ∧
   te (some v1 :: some v2 :: cap) H2 fun y H4 => H4 D = some (.lst ys) ∧ ys.length < sizeLine ∧ ∃ m', m' < m ∧ W (i + 1) m' (ys ++ [y]) (upd H4 D (.lst (ys ++ [y]))))
theorem uV {x z : Str} {px pz tp pos : Pos} {tx : Nat} {caps : List (Str × Nat)} {scope : Scope} {cl : List (Str × Addr)} {elt iter : Expr} {J : It} {fp : List Addr} {it : Addr} {tn : Nat → Heap → Prop} {te : TE} {Qf : Addr → Hp → Prop}
  {RR : Value → Addr → Result → Shared → Prop} {E : Value → Shared → Prop} (I : Inv X pins σ H s) (hc : X.calm = true) (K0 : rB X x z caps scope cl) (T : Turn X.prog X.w X.K (.Tuple [.Name x px, .Name z pz] tx tp) J fp it tn) (st : tn 0 s.heap) (hf : ∀ b ∈ fp, jb X pins H b)
  (he : ∀ C s1 H1 fp1, PE (bB X (x :: z :: caps.map (·.1)) scope cl C s1 H1 fp1) elt te) (rd : rP X.K J (eV caps σ) te Qf H)
  (hRR : ∀ D C s' H' m, Inv X pins σ H' s' → s'.heap.Ns C m → jb X pins H' C → Qf D H' → RR (.ref D) C (.ok .next) s') :
  wpAny (model X.prog X.w) X.A (newList []) (fun acc s3 => wpAny (model X.prog X.w) X.A (newFunctionEnv scope X.env.globals cl [] X.env.qual none .none (some X.env)) (fun cenv s4 =>
   codeAny (model X.prog X.w) X.A (.compStart (.ListComp elt [⟨.Tuple [.Name x px, .Name z pz] tx tp, iter, [], 0⟩] scope pos) 0 (.ref it) acc { cenv with scope := relabel scope X.env }) (RR acc cenv.locals) s4) E s3) E s := by
 have hfs : ∀ b ∈ fp, b < s.heap.objs.size := fun b hb => by
  obtain ⟨o, e, _⟩ := T.obj _ _ st b hb
  exact Heap.lt_size e
 refine wpAny_newObj_type (wpAny_newFunctionEnv K0.o.nocell (by intro y hy; simp at hy) (fun h1 hn1 hb1 => ?_) K0.o.kind)
 dsimp only at hn1 hb1 ⊢
 obtain ⟨D, eD⟩ : ∃ D : Nat, D = s.heap.objs.size := ⟨_, rfl⟩
 obtain ⟨H2, eH2⟩ : ∃ g, g = s.heap.push { cls := .type "list", dict := none, data := .seq ([] : List Value).toArray } := ⟨_, rfl⟩
 rw [← eH2] at hn1 hb1 ⊢
 rw [← eD]
 have hC : H2.objs.size = D + 1 := by rw [eH2, Heap.size_push, eD]
 have hle : s.heap.objs.size ≤ H2.objs.size := by rw [hC, eD]; exact Nat.le_succ _
 have hDC : D ≠ H2.objs.size := by rw [hC]; exact Nat.ne_of_lt (Nat.lt_succ_self _)
 have hk : ∀ b o, s.heap.get? b = some o → h1.get? b = some o := fun b o e => by
  refine hb1.extBut b o (Nat.ne_of_lt (Nat.lt_of_lt_of_le (Heap.lt_size e) hle)) (Heap.get?_push_of_some _ ?_)
  rw [eH2]
  exact Heap.get?_push_of_some _ e
 have hL : h1.get? D = some { cls := .type "list", data := .seq #[] } := by
  refine hb1.extBut D _ (by omega) (Heap.get?_push_of_some _ ?_)
  rw [eH2, eD]
  exact Heap.get?_push_size _ rfl
 have st1 : tn 0 h1 := T.keep _ _ _ st fun b _ o e => hk b o e
 obtain ⟨W, ⟨m0, w0⟩, turn⟩ := rd D (I.hok.fresh (by omega))
 have loop : codeAny (model X.prog X.w) X.A (.compLoop (.ListComp elt [⟨.Tuple [.Name x px, .Name z pz] tx tp, iter, [], 0⟩] scope pos) 0 (.ref it) (.ref D) (compEnvC scope cl H2.objs.size X.env)) (RR (.ref D) H2.objs.size) { s with heap := h1, toks := s.toks + ([] : List (Str × Value)).length } := by
  refine LCp.codeAny_compLoop_pair (fun n s' => ∃ i ys sl sm H', Inv (bB X (x :: z :: caps.map (·.1)) scope cl H2.objs.size s H fp) [] (sl :: sm :: eV caps σ) H' s' ∧ tn i s'.heap ∧ (∀ b ∈ fp, H' b = none) ∧ W i n ys H') ?_ m0
   ⟨0, [], none, none, _, I.comp2 K0 hf hfs (by omega) (by omega) hDC hk hn1 hL, st1, fun b hb => ?_, w0⟩
  ·rintro n s3 ⟨i, ys, sl, sm, H3, I3, st3, fr3, w3⟩
   have fpc : ∀ {H' : Hp} {pi : List (Addr × Obj)}, (∀ b ∈ fp, H' b = none) → (∀ p ∈ pi, p.1 ∉ fp) → ∀ b ∈ fp, jb (bB X (x :: z :: caps.map (·.1)) scope cl H2.objs.size s H fp) pi H' b := fun {H' pi} hn hp b hb => by
    obtain ⟨f0, f1, f2, f3, f4, f5⟩ := hf b hb
    refine ⟨hn b hb, ?_, fun z => ?_, .inl hb, fun y c e => f4 y c (K0.o.cls y c e), fun p hpp z => ?_⟩
    ·exact Nat.ne_of_lt (Nat.lt_of_lt_of_le (hfs b hb) hle)
    ·rcases List.mem_cons.mp (I.stkSub b z) with q | q
     ·exact f1 q
     ·exact f2 q
    ·exact hp p (by simpa [bB] using hpp) (by rw [z]; exact hb)
   have clear : ∀ {α : Type} {t : Sem α} {Q : α → Shared → Prop} {E' : Value → Shared → Prop} {s : Shared}, wpAny (model X.prog X.w) X.A t Q (fun _ _ => False) s → wpAny (model X.prog X.w) X.A t Q E' s := fun h => wpAny_mono h (fun _ _ z => z) fun _ _ z => z.elim
   rcases turn i n ys H3 w3 with ⟨stop, qf⟩ | ⟨go, step⟩
   ·refine thn (T.done (bB X (x :: z :: caps.map (·.1)) scope cl H2.objs.size s H fp) rfl rfl rfl hc i [] s3 _ H3 _ I3 (fpc fr3 (by simp)) st3 stop) fun r s4 ⟨hr, I4⟩ => ?_
    subst hr
    obtain ⟨m4, hn4, _⟩ := id I4.loc
    refine hRR D _ s4 H3 m4 (I.comped hf I4) hn4 ?_ qf
    have gC : s.heap.objs.size ≤ H2.objs.size := by omega
    exact I.fpOk gC I4.free
   ·refine clear (thn (T.item (bB X (x :: z :: caps.map (·.1)) scope cl H2.objs.size s H fp) rfl rfl rfl hc i [] s3 _ H3 (fun _ _ => False) I3 (fpc fr3 (by simp)) st3 go) fun r s4 ⟨u, hr, h4⟩ => ?_)
    subst hr
    refine clear (thn h4 fun _ s5 ⟨v, H5, I5, r5, y5, st5, fr5⟩ => ?_)
    have I5' := I5.pinned (fpc fr5 (by simp)) (T.obj _ _ st5)
    obtain ⟨ta, v1, v2, ev, ht5, q6⟩ := step v _ y5
    subst ev
    have hg : PG (bB X (x :: z :: caps.map (·.1)) scope cl H2.objs.size s H fp) (.Tuple [.Name x px, .Name z pz] tx tp) (By X.K 2 (yr (qg 0) (yr (qg 1) Ci))) :=
     jM hc (bT (bc (i := 0) K0.nd rfl (Or.inl (lookup_relabel_local K0.o.hx)) (Or.inr (lookup_relabel_local K0.o.hx))) (bT (bc (i := 1) K0.nd rfl (Or.inl (lookup_relabel_local K0.hz)) (Or.inr (lookup_relabel_local K0.hz))) gU))
    refine clear (thn (hg _ s5 (sl :: sm :: eV caps σ) H5 (.ref ta) u (fun σ2 H2 => σ2 = some v1 :: some v2 :: eV caps σ ∧ H2 = H5) I5' r5 ⟨ta, [v1, v2], rfl, ht5, rfl, v1, [v2], rfl, v2, [], rfl, rfl, (show _ ∧ _ from ⟨rfl, rfl⟩)⟩) fun _ s6 ⟨σ6, H6, I6, e6, e7⟩ => ?_)
    subst e6 e7
    have again : ∀ {H7 : Hp} {s7 : Shared} {sl sm : Option V} {zs : List V} {m' : Nat}, Inv (bB X (x :: z :: caps.map (·.1)) scope cl H2.objs.size s H fp) ([] ++ mK fp s5.heap) (sl :: sm :: eV caps σ) H7 s7 → m' < n → W (i + 1) m' zs H7 →
      ∃ m, m < n ∧ ∃ i ys sl sm H', Inv (bB X (x :: z :: caps.map (·.1)) scope cl H2.objs.size s H fp) [] (sl :: sm :: eV caps σ) H' s7 ∧ tn i s7.heap ∧ (∀ b ∈ fp, H' b = none) ∧ W i m ys H' := fun {H7 s7 sl sm zs m'} I7 hm w7 => by
     refine ⟨m', hm, i + 1, zs, sl, sm, H7, I7.unpinned, T.keep _ _ _ st5 fun b hb o e => (I7.pin (b, o) (List.mem_append_right _ (List.mem_append_right _ (dB hb e)))).1, fun b hb => ?_, w7⟩
     obtain ⟨o, e, d⟩ := T.obj _ _ st5 b hb
     exact (I7.pin (b, o) (List.mem_append_right _ (List.mem_append_right _ (dB hb e)))).2.1
    refine clear (thn (he H2.objs.size s H fp _ s6 _ H6 _ I6 q6) fun xv s8 ⟨y, H8, I8, r8, hD8, hz8, m', hm, w8⟩ => ?_)
    refine clear (thn (cV _ s8 _ H8 (.ref D) [y] (.ref D) [xv] (fun _ H9 => H9 = upd H8 D (.lst (ys ++ [y]))) I8 rfl (.cons r8 .nil) ⟨D, ys, y, rfl, rfl, hD8, hz8, rfl⟩) fun _ s9 ⟨_, H9, I9, _, e9⟩ => ?_)
    subst e9
    exact again I9 hm w8
  ·rw [aG (by rw [eD]; exact Nat.ne_of_lt (hfs b hb))]
   exact (hf b hb).1
 exact codeAny_compStart_list loop (T.self _ 0 _ _ _ st1 loop)
def Aj (K : PySem.W.Frag) (wi : TI) (caps : List (Str × Nat)) (te : TE) : TE := fun σ H Q => wi σ H fun J H1 => rP K J (eV caps σ) te (fun D H' => Q (.ref D) H') H1
theorem tD {i : Nat} {y x z : Str} {px pz tp py pos spos : Pos} {tx : Nat} {caps : List (Str × Nat)} {scope : Scope} {cl : List (Str × Addr)} {elt iter : Expr} {wi : TI} {te : TE} (hN : X.N.Nodup) (hiN : X.N[i]? = some y) (hy : X.env.scope.names.lookup y = some .local) (hc : X.calm = true)
  (K0 : rB X x z caps scope cl) (hi : PI X (.Tuple [.Name x px, .Name z pz] tx tp) iter wi)
  (he : ∀ C s1 H1 fp1, PE (bB X (x :: z :: caps.map (·.1)) scope cl C s1 H1 fp1) elt te)
  (hsw : swapsWith (.ListComp elt [⟨.Tuple [.Name x px, .Name z pz] tx tp, iter, [], 0⟩] scope pos) (some (.Name y py)) spos.line X.env = pure true := by rfl) (hs : ∀ x, foldedSetIterable iter X.env x = pure x := by intro _; rfl) :
  PS X (.Assign [.Name y py] (.ListComp elt [⟨.Tuple [.Name x px, .Name z pz] tx tp, iter, [], 0⟩] scope pos) spos) (An (Aj X.K wi caps te) (qg i)) := by
 intro pins s σ H D0 I h
 rw [exec_Assign_Name_used _ _ _ _ hsw]
 refine wpAny_bind (wpAny_standAt (wpAny_bind ?_))
 show wpAny _ X.A (do let _ ← comprehension (.ListComp elt [⟨.Tuple [.Name x px, .Name z pz] tx tp, iter, [], 0⟩] scope pos) scope X.env _ (newList []) false (eval iter X.env) (some (assign (.Name y py) X.env))) _ _ s
 refine wpAny_bind (wpAny_mono (wpAny_comprehension_free (use := some (assign (.Name y py) X.env)) (Q := fun _ s' => SP X pins D0 .next s') rfl hs K0.o.clos K0.o.kind K0.o.names
  (thn (hi pins s σ H _ I h) fun v s1 h1 => thn h1 fun itv s2 h2 => ?_)) (fun _ s' hq => wpAny_pure (wpAny_pure hq)) fun _ _ e => e)
 obtain ⟨it, fp, tn, J, H2, e, I2, T, st2, f2, rd⟩ := h2
 subst e
 refine uV (RR := fun acc C => compPost (model X.prog X.w) X.A X.xe (some (assign (.Name y py) X.env)) (fun _ s' => SP X pins D0 .next s') acc C) I2 hc K0 T st2 f2 he rd ?_
 intro D C s' H' m I' hn fC q
 show wpAny _ X.A (assign (.Name y py) X.env (.ref D)) _ _ _
 refine wpAny_assign_Name (qy (v := .ref D) I' hN hiN (.inl hy) rfl (fun s'' I'' ch => ⟨m, ?_, fun h'' hs'' => ?_⟩) (.inr hy))
 ·obtain ⟨a, sb, ha⟩ := ch
  refine hn.sameBut sb fun z => ?_
  rcases ha with ha | ha
  ·exact fC.2.1 (z.trans ha)
  ·exact fC.2.2.2.2.1 _ a ha z.symm
 ·exact ⟨_, H', I''.turned (h' := h'') (t' := s''.toks) (fun b o hb e => hs''.extBut b o hb e) fC.1 fC.2.1 fC.2.2.2.1 fC.2.2.2.2.1 fC.2.2.2.2.2, q⟩
end
section
variable {X : Cx} {x : Str} {scope : Scope}
end
end L2
namespace Tw
open PySem L2
theorem uD {K : PySem.W.Frag} {a : Addr} {ns : List Int} {cap : L2.St} {te : TE} {Qf : Addr → Hp → Prop} {H : Hp} (R : Nat → Int → Prop) (hS : SqL K H a (ns.map V.int)) (hl : ns.length < sizeLine)
  (hte : ∀ (i : Nat) (b : Int) (H' : Hp) (Q : VK), ns[i]? = some b → aR H H' → (∀ m H2, R i m → aR H' H2 → Q (.int m) H2) → te (some (.int (i : Int)) :: some (.int b) :: cap) H' Q)
  (q : ∀ D H' (ls : List Int), H D = none → aR H H' → H' D = some (.lst (ls.map V.int)) → ls.length = ns.length → (∀ i m, ls[i]? = some m → R i m) → Qf D H') : rP K (Ite K a) cap te Qf H := by
 intro D hD
 refine ⟨fun i m ys H1 => m = ns.length - i ∧ i ≤ ns.length ∧ aR H H1 ∧ H1 D = some (.lst ys) ∧ ∃ ls : List Int, ys = ls.map V.int ∧ ls.length = i ∧ ∀ i m, ls[i]? = some m → R i m, ⟨_, rfl, Nat.zero_le _, au hD _, ak, [], rfl, rfl, fun i m e => by cases e⟩, ?_⟩
 rintro i m ys H1 ⟨rfl, hi, sm, hD1, ls, rfl, hll, hR⟩
 have hS1 := sm.seq hS
 by_cases hlt : i < ns.length
 ·have hb : ns[i]? = some ns[i] := List.getElem?_eq_getElem hlt
  have hg : (ns.map V.int)[i]? = some (.int ns[i]) := by
   rw [List.getElem?_map, hb]
   rfl
  refine .inr ⟨⟨_, _, hS1, hg⟩, fun v H2 y => ?_⟩
  obtain ⟨p, y, hp, rfl, rfl, e⟩ := y
  have e := e _ hS1
  rw [hg] at e
  cases e
  have s2 := au hp (.tup [.int (i : Int), .int ns[i]])
  refine ⟨p, _, _, rfl, SqT.of ak, ?_⟩
  refine hte i ns[i] _ _ hb (sm.trans s2) fun m H2 hm s3 => ⟨s3 _ _ (s2 _ _ hD1), ?_, ns.length - (i + 1), by omega, rfl, hlt, ?_, ak, ls ++ [m], ?_, ?_, ?_⟩
  ·rw [List.length_map]
   omega
  ·exact cO (sm.trans (s2.trans s3)) hD _
  ·rw [List.map_append]
   rfl
  ·rw [List.length_append, hll]
   rfl
  ·intro j n e
   rcases Nat.lt_or_ge j ls.length with c | c
   ·rw [List.getElem?_append_left c] at e
    exact hR j n e
   ·rw [List.getElem?_append_right c] at e
    have : j - ls.length = 0 := by
     have := (List.getElem?_eq_some_iff.mp e).1
     simp at this
     omega
    rw [this] at e
    cases e
    have : j = i := by omega
    subst this
    exact hm
 ·have e : i = ns.length := by omega
  exact .inl ⟨⟨_, hS1, by rw [List.length_map, e]; exact Nat.le_refl _⟩, q D H1 ls hD sm hD1 (by omega) hR⟩
theorem w6 {K : PySem.W.Frag} {a : Addr} {ns : List Int} {cap : L2.St} {tt : TT} {te : TE} {Qf : Addr → Hp → Prop} {H : Hp} (g : Int → Int) (hS : SqL K H a (ns.map V.int)) (hl : ns.length < sizeLine)
  (htt : ∀ (z : Int) (H' : Hp) (Q : Bool → Hp → Prop), Q true H' → tt (some (.int z) :: cap) H' Q) (hte : ∀ (z : Int) (H' : Hp) (Q : VK), z ∈ ns → aR H H' → Q (.int (g z)) H' → te (some (.int z) :: cap) H' Q)
  (q : ∀ D, H D = none → Qf D (upd H D (.lst ((ns.map g).map V.int)))) : o4 (Itl K a) cap tt te Qf H := by
 intro D hD
 refine ⟨fun i m ys H1 => m = ns.length - i ∧ i ≤ ns.length ∧ ys = ((ns.take i).map g).map V.int ∧ H1 = upd H D (.lst ys), ⟨_, rfl, Nat.zero_le _, rfl, rfl⟩, ?_⟩
 rintro i m ys H1 ⟨rfl, hi, rfl, rfl⟩
 have hS1 : SqL K (upd H D (.lst (((ns.take i).map g).map V.int))) a (ns.map V.int) := (au hD _).seq hS
 by_cases hlt : i < ns.length
 ·have hg : (ns.map V.int)[i]? = some (.int ns[i]) := by
   rw [List.getElem?_map, List.getElem?_eq_getElem hlt]
   rfl
  refine .inr ⟨⟨_, _, hS1, hg⟩, fun v H2 y => ?_⟩
  obtain ⟨rfl, y⟩ := y
  have e := y _ hS1
  rw [hg] at e
  cases e
  refine htt _ _ _ ?_
  rw [if_pos rfl]
  refine hte _ _ _ (List.getElem_mem hlt) (au hD _) ⟨ak, ?_, ns.length - (i + 1), by omega, rfl, hlt, ?_, ?_⟩
  ·rw [List.length_map, List.length_map, List.length_take]
   omega
  ·rw [List.take_add_one, List.getElem?_eq_getElem hlt, List.map_append, List.map_append]
   rfl
  ·rw [qQ]
 ·have e : i = ns.length := by omega
  subst e
  rw [List.take_length]
  rw [List.take_length] at hS1
  exact .inl ⟨⟨_, hS1, by rw [List.length_map]; exact Nat.le_refl _⟩, q D hD⟩
end Tw
set_option Elab.async false
set_option linter.all false
set_option maxRecDepth 100000
set_option maxHeartbeats 4000000
namespace L2
open PySem PySem.Spec PyProof.Rows PySem.W
structure oG where
 qual : Str
 params : Arguments
 body : Expr
 scope : Scope
 ps : List Str
 xs : List Str
def lamOf (st : Stmt) (qual : Str) (ps xs : List Str) : oG := match st with
 | .Return (some (.Lambda a b sc _)) _ => ⟨qual, a, b, sc, ps, xs⟩
 | _ => ⟨qual, defArgs st, .Name "" ⟨0, 0, 0, 0⟩, defScope st, ps, xs⟩
def cX : Stmt → Pos
 | .Return (some (.Lambda _ _ _ p)) _ => p
 | _ => ⟨0, 0, 0, 0⟩
structure jl (H : Hp) (f : Addr) (c : oG) (cs : List Addr) (fvs : List V) : Prop where
 ex : ∃ (cd : Addr) (pm ctv : Value) (oc : Obj) (vs : Array Value) (t : Tok), H f = some (aH f (kla_obj "<lambda>" c.qual c.params c.body c.scope (c.xs.zip cs) pm cd ctv)) ∧ H cd = some (aH cd oc) ∧ oc.data = .fields vs ∧ vs[1]? = some (.str c.qual t)
 cells : ∀ (i : Nat) (a : Addr), cs[i]? = some a → ∃ (co : Obj) (v : V) (u : Value), fvs[i]? = some v ∧ H a = some (aH a co) ∧ co.data = .cell (some u) ∧ RelV v u
 nd : cs.Nodup
 len : cs.length = c.xs.length
 lenV : fvs.length = c.xs.length
theorem jl.same {H H' : Hp} {f : Addr} {c : oG} {cs : List Addr} {fvs : List V} (h : jl H f c cs fvs) (s : ∀ b o, H b = some (aH b o) → H' b = some (aH b o)) : jl H' f c cs fvs := by
 obtain ⟨⟨cd, pm, ctv, oc, vs, t, h1, h2, h3, h4⟩, hc, nd, len, lenV⟩ := h
 refine ⟨⟨cd, pm, ctv, oc, vs, t, s _ _ h1, s _ _ h2, h3, h4⟩, fun i a e => ?_, nd, len, lenV⟩
 obtain ⟨co, v, u, e1, e2, e3⟩ := hc i a e
 exact ⟨co, v, u, e1, s _ _ e2, e3⟩
structure pD (N : List Str) (c : oG) : Prop where
 kind : c.scope.kind = .function
 co : c.scope.isCoroutine = false
 gen : c.scope.isGenerator = false
 nocell : ∀ x ∈ c.scope.names, x.2 ≠ .cell
 pre : N.take (c.ps.length + c.xs.length) = c.ps ++ c.xs
 nd : N.Nodup
 par : ∀ n ∈ c.ps, c.scope.names.lookup n = some .local
 fr : ∀ x ∈ c.scope.names, x.2 = .free → x.1 ∈ c.xs
 frn : ∀ n ∈ c.xs, c.scope.names.lookup n ≠ some .local
section
variable {P : Program} {w : World} {K : PySem.W.Frag} {mg : Str → Option Value} {base : Heap} {A : Around} {outer : List Env} {s : Shared} {H : Hp} {f : Addr} {c : oG} {cs : List Addr} {fvs vs : List V} {us : List Value} {N : List Str} {k : Nat} {Q : VK} {E : XK}
theorem zL (S : pD N c) (hr : cL (k + 1) A) (e0 : rT P w K mg base A outer s H) (ca : jl H f c cs fvs) (hb : ∀ (cl : List (Str × Addr)) (pm cd ctv : Value), bindArgs (kla_fn "<lambda>" c.qual c.params c.body c.scope cl pm cd ctv) ⟨us, []⟩ = pure (c.ps.zip us)) (r : Vals vs us) (hl : vs.length = c.ps.length)
  (body : ∀ cd : Addr, cL k (A.deeper (envX c.qual c.scope s.heap.objs.size f (.ref cd) (c.xs.zip cs))) → ∃ t, PE (mU P w K mg base N c.qual c.scope f (.ref cd) (c.xs.zip cs) A outer s (hide H cs)) c.body t ∧ t (start N (vs ++ fvs)) (hide H cs) fun v H' => Q v (over H cs H')) :
  codeAny (model P w) A (.call (.ref f) ⟨us, []⟩) (CR CX0 outer P w H s Q E) s := by
 obtain ⟨⟨cd, pm, ctv, oc, ws, tk, h1, h2, h3, h4⟩, hc, nd, len, lenV⟩ := ca
 have hx : ∀ a ∈ cs, ∃ o, H a = some (aH a o) := fun a ha => by
  obtain ⟨i, hi⟩ := List.getElem?_of_mem ha
  obtain ⟨co, v, u, _, e, _⟩ := hc i a hi
  exact ⟨co, e⟩
 have lim : s.heap.NoLimit := e0.mod.nolimit.keeps fun b o e => (e0.bs b o e).1
 have ndP : c.ps.Nodup := by
  have : c.ps.Sublist N := by
   have h5 : (c.ps ++ c.xs).Sublist N := by rw [← S.pre]; exact List.take_sublist _ _
   exact (List.sublist_append_left _ _).trans h5
  exact S.nd.sublist this
 have ndX : c.xs.Nodup := by
  have : c.xs.Sublist N := by
   have h5 : (c.ps ++ c.xs).Sublist N := by rw [← S.pre]; exact List.take_sublist _ _
   exact (List.sublist_append_right _ _).trans h5
  exact S.nd.sublist this
 have hpl : c.ps.length + c.xs.length ≤ N.length := by
  have := congrArg List.length S.pre
  rw [List.length_take, List.length_append] at this
  omega
 refine kla_callFunE hr.depth (cz e0.hok h1) rfl S.co S.gen rfl ⟨cd, oc, ws, tk, rfl, cz e0.hok h2, h3, h4⟩ ?_
 rw [hb]
 refine wpAny_pure (wpAny_newFunctionEnv S.nocell (fun y hy => S.par _ (List.of_mem_zip hy).1) (fun h0 hns hsb => ⟨lim.fresh _ hsb, ?_⟩) S.kind)
 show codeAny _ _ (.expr c.body (envX c.qual c.scope s.heap.objs.size f (.ref cd) (c.xs.zip cs))) _ _
 have hk : ∀ b o, s.heap.get? b = some o → h0.get? b = some o := fun b o e => hsb.extBut b o (Nat.ne_of_lt (Heap.lt_size e)) (Heap.get?_push_of_some _ e)
 refine kla_codeExpr ?_
 obtain ⟨t, ht, hq⟩ := body cd (hr.deeper _)
 have hok0 := vU e0.hok hx
 have I : Inv (mU P w K mg base N c.qual c.scope f (.ref cd) (c.xs.zip cs) A outer s (hide H cs)) [] (start N (vs ++ fvs)) (hide H cs) { s with heap := h0, toks := s.toks + (c.ps.zip us).length } := by
  refine ⟨⟨e0.mod, S.kind, rfl, rfl, Nat.le_refl _, fun y z b h5 h6 => ?_, fun y hy => ?_, fun y b h5 _ => absurd h5 Bool.false_ne_true, fun _ => hr.hd, Around.frames_deeper e0.frames, .inr ⟨rfl, rfl⟩, fun b z => absurd (show b ∈ ([] : List Addr) from z) (by simp), fun b o e => ⟨(e0.bs b o e).1, ?_⟩, e0.bsz, fun b _ _ z => absurd (show b ∈ ([] : List Addr) from z) (by simp), fun b z => absurd (show b ∈ ([] : List Addr) from z) (by simp), e0.funs, fun b hb' => ?_⟩,
   rfl, e0.bare, Un.kept hk, ⟨_, hns, fun i y v h5 h6 h7 => ?_⟩, fun y b h5 => ?_, hok0.fresh (Nat.le_refl _), fun y b h5 => ?_, fun p hp => absurd (show p ∈ ([] : List (Addr × Obj)) from hp) (by simp), hok0.kept hk, ?_⟩
  ·obtain ⟨i, i1, i2⟩ := b8 h5
   obtain ⟨j, j1, j2⟩ := b8 h6
   have := (List.getElem?_inj (List.getElem?_eq_some_iff.mp i2).1 nd).mp (i2.trans j2.symm)
   subst this
   exact Option.some.inj (i1.symm.trans j1)
  ·have hy : c.scope.names.lookup y = some .cell ∨ c.scope.names.lookup y = some .free := hy
   rcases hy with hy | hy
   ·exact absurd rfl (S.nocell _ (PySem.mem_of_lookup hy))
   ·exact rM len (S.fr _ (PySem.mem_of_lookup hy) rfl)
  ·have n := (e0.bs b o e).2
   show hide H cs b = none
   rw [bG]
   ·exact n
   ·intro z
    obtain ⟨o', e'⟩ := hx b z
    rw [n] at e'
    cases e'
  ·have n := e0.frf b hb'
   show hide H cs b = none
   rw [bG]
   ·exact n
   ·intro z
    obtain ⟨o', e'⟩ := hx b z
    rw [n] at e'
    cases e'
  ·have hi : i < (vs ++ fvs).length := by
    unfold start at h6
    by_cases hi : i < (vs ++ fvs).length
    ·exact hi
    ·rw [List.getElem?_append_right (by simpa using hi)] at h6
     rw [List.getElem?_replicate] at h6
     split at h6 <;> cases h6
   have ha : (vs ++ fvs)[i]? = some v := by
    unfold start at h6
    rw [List.getElem?_append_left (by simpa using hi), List.getElem?_map] at h6
    cases e : (vs ++ fvs)[i]? with
    | none => rw [e] at h6; cases h6
    | some a => rw [e] at h6; cases h6; rfl
   rw [List.length_append] at hi
   have hp : (c.ps ++ c.xs)[i]? = some y := by
    rw [← S.pre, List.getElem?_take_of_lt (by omega)]
    exact h5
   by_cases hi2 : i < vs.length
   ·rw [List.getElem?_append_left hi2] at ha
    rw [List.getElem?_append_left (by omega)] at hp
    obtain ⟨u, hu, rv⟩ := r.get ha
    exact ⟨u, rv, .inl ⟨S.par y (List.mem_of_getElem? hp), vL ndP hp hu⟩⟩
   ·rw [List.getElem?_append_right (by omega)] at ha
    rw [List.getElem?_append_right (by omega), ← hl] at hp
    have hj : i - vs.length < cs.length := by
     have := (List.getElem?_eq_some_iff.mp hp).1
     omega
    obtain ⟨b, hb5⟩ : ∃ b, cs[i - vs.length]? = some b := ⟨_, List.getElem?_eq_getElem hj⟩
    obtain ⟨co, v', u, q1, q2, q3, q4⟩ := hc _ b hb5
    rw [ha] at q1
    cases q1
    have hfree : c.scope.names.lookup y = some .free := by
     rcases h7 with q | q | q
     ·exact absurd q (S.frn y (List.mem_of_getElem? hp))
     ·exact absurd rfl (S.nocell _ (PySem.mem_of_lookup q))
     ·exact q
    exact ⟨u, q4, .inr ⟨.inr hfree, b, vD ndX hp hb5, co, hk _ _ (cz e0.hok q2), q3⟩⟩
  ·obtain ⟨i, i1, i2⟩ := b8 h5
   obtain ⟨co, v', u, q1, q2, q3, q4⟩ := hc _ b i2
   exact ⟨_, co, hk _ _ (cz e0.hok q2), q3⟩
  ·obtain ⟨i, i1, i2⟩ := b8 h5
   exact j9 (List.mem_of_getElem? i2)
  ·unfold start
   show _ = N.length
   rw [List.length_append, List.length_map, List.length_replicate, List.length_append]
   omega
 have fin : ∀ {s' : Shared} {σ' : St} {H' : Hp} {v : V} {u : Value}, Inv (mU P w K mg base N c.qual c.scope f (.ref cd) (c.xs.zip cs) A outer s (hide H cs)) [] σ' H' s' → RelV v u → Q v (over H cs H') → CE outer P w H s Q u s' := fun {s' σ' H' v u} J rv q => by
  obtain ⟨k1, k2⟩ := v4 e0.hok J.hok hx e0.frf J.base
  exact ⟨v, over H cs H', J.os, J.bare, k2, k1, rv, q⟩
 refine wpAny_mono (ht [] _ (start N (vs ++ fvs)) (hide H cs) _ I hq) (fun u s' hs => ?_) fun e s' hs => False.elim hs
 obtain ⟨v, H', J, rv, q⟩ := hs
 exact fin J rv q
end
section
variable {X : Cx} {pins : List (Addr × Obj)} {σ : St} {H : Hp} {s : Shared} {c P : Addr} {name qual : Str} {params : Arguments} {body : Expr} {scope : Scope} {clos : List (Str × Addr)} {pos : Pos} {n : Nat}
theorem ye {M : Model} {A : Around} {E : Value → Shared → Prop} {Q : Value → Shared → Prop} (I : Inv X pins σ H s) (bm : BMain X.mg X.base) (hcode : X.env.code = .ref c) (C : CodeHd X.base c P) (hT : TabAt H P pos qual) (hcl : closureFor scope X.env = pure clos)
  (h : ∀ (fi cd : Addr) (pm ctv : Value) (oc : Obj) (vs : Array Value) (t : Tok) (H1 : Hp) (s1 : Shared), Inv X pins σ H1 s1 → H fi = none → (∀ b o, H b = some o → b ≠ P → H1 b = some o) → TabAt H1 P pos qual →
   H1 fi = some (aH fi (kla_obj name qual params body scope clos pm cd ctv)) → H1 cd = some (aH cd oc) → oc.data = .fields vs → vs[1]? = some (.str qual t) → Q (.ref fi) s1) :
  wpAny M A (makeFunction name qual params (.expr body) scope X.env [] [] [] pos n) Q E s := by
 obtain ⟨ps, hP, htr, hcase⟩ := hT
 have hPs : s.heap.get? P = some (tabObj ps) := I.hok P _ hP
 have G := I.mod.glob.keeps I.bk
 obtain ⟨bm, ob, b1, b2, b3, b4, b5, b6⟩ := bm
 have b3' := I.bk _ _ b3
 have hgP : mainGlobals ≠ P := fun q => by
  obtain ⟨o, es, ep, e, hd, _⟩ := G
  rw [q, hPs] at e; cases e; cases hd
 have hbP : bm ≠ P := fun q => by
  rw [q, hPs] at b3'; cases b3'; cases b4
 have hbG : bm ≠ mainGlobals := fun q => by
  obtain ⟨o, es, ep, e, hd, _⟩ := G
  rw [q, e] at b3'; cases b3'; rw [hd] at b6; cases b6
 have hbu : s.heap.BuiltinsAt X.mg P := ⟨bm, ob, b1, b2, hbG, hbP, b3', b4, b5, b6⟩
 rcases hcase with hnf | ⟨cd, oc, vs, t, hf, hcd, hd, hv⟩
 ·refine kla_makeFunction (mg := X.mg) hcl I.ok.glob G hcode (C.keeps I.bk) hPs htr hnf hgP hbu fun c' ctv h' tk hx hge hlt hrec htb => ?_
  obtain ⟨c2, oc, vs, t, e2, hoc, hd, hv⟩ := hrec
  cases e2
  have nc : H c' = none := I.hok.fresh hge
  have nf : H h'.objs.size = none := I.hok.fresh (Nat.le_trans hge (Nat.le_of_lt hlt))
  have nPc : P ≠ c' := aO hP nc
  have nPf : P ≠ h'.objs.size := aO hP nf
  have ncf : c' ≠ h'.objs.size := Nat.ne_of_lt hlt
  have k1 : ∀ b, b ≠ P → b ≠ c' → b ≠ h'.objs.size → upd (upd (upd H P (.tbl (ps ++ #[rawInt pos.line, rawInt pos.col, .ref c']))) c' (aH c' oc)) h'.objs.size (aH h'.objs.size (kla_obj name qual params body scope clos ((X.mg "__name__").getD .none) c' ctv)) b = H b := fun b e1 e2 e3 => by
   rw [aG e3, aG e2, aG e1]
  have kS : ∀ b o, H b = some o → b ≠ P → upd (upd (upd H P (.tbl (ps ++ #[rawInt pos.line, rawInt pos.col, .ref c']))) c' (aH c' oc)) h'.objs.size (aH h'.objs.size (kla_obj name qual params body scope clos ((X.mg "__name__").getD .none) c' ctv)) b = some o := fun b o e n => by
   rw [k1 b n (aO e nc) (aO e nf)]
   exact e
  have kP : upd (upd (upd H P (.tbl (ps ++ #[rawInt pos.line, rawInt pos.col, .ref c']))) c' (aH c' oc)) h'.objs.size (aH h'.objs.size (kla_obj name qual params body scope clos ((X.mg "__name__").getD .none) c' ctv)) P = some (.tbl (ps ++ #[rawInt pos.line, rawInt pos.col, .ref c'])) := by
   rw [aG nPf, aG nPc, ak]
  have kc : upd (upd (upd H P (.tbl (ps ++ #[rawInt pos.line, rawInt pos.col, .ref c']))) c' (aH c' oc)) h'.objs.size (aH h'.objs.size (kla_obj name qual params body scope clos ((X.mg "__name__").getD .none) c' ctv)) c' = some (aH c' oc) := by
   rw [aG ncf, ak]
  have kf : upd (upd (upd H P (.tbl (ps ++ #[rawInt pos.line, rawInt pos.col, .ref c']))) c' (aH c' oc)) h'.objs.size (aH h'.objs.size (kla_obj name qual params body scope clos ((X.mg "__name__").getD .none) c' ctv)) h'.objs.size = some (aH h'.objs.size (kla_obj name qual params body scope clos ((X.mg "__name__").getD .none) c' ctv)) := ak
  generalize upd (upd (upd H P (.tbl (ps ++ #[rawInt pos.line, rawInt pos.col, .ref c']))) c' (aH c' oc)) h'.objs.size (aH h'.objs.size (kla_obj name qual params body scope clos ((X.mg "__name__").getD .none) c' ctv)) = H1 at *
  have old : ∀ b o, s.heap.get? b = some o → b ≠ P → (h'.push (kla_obj name qual params body scope clos ((X.mg "__name__").getD .none) c' ctv)).get? b = some o := fun b o e n => Heap.get?_push_of_some _ (hx b o n e)
  have tabP : (h'.push (kla_obj name qual params body scope clos ((X.mg "__name__").getD .none) c' ctv)).get? P = some (tabObj (ps ++ #[rawInt pos.line, rawInt pos.col, .ref c'])) := Heap.get?_push_of_some _ htb
  have hl : (ps ++ #[rawInt pos.line, rawInt pos.col, .ref c']).toList = ps.toList ++ [rawInt pos.line, rawInt pos.col, .ref c'] := by simp
  refine h h'.objs.size c' _ ctv oc vs t H1 _ (I.call' (ch := []) rfl ⟨fun b o e n hb hx' => ?_, fun b o e n hb hx' => ?_, fun b o e n hx' => ?_, fun b o e hx' => ?_, fun b xs e => ?_, fun b o u e => ?_, fun b qs e => ?_⟩ (fun b u e => ?_) I.bare fun b z => absurd z (by simp)) nf kS ⟨_, kP, by rw [hl]; exact TriplesOk_snoc _ _ _ _ htr, .inr ⟨c', oc, vs, t, by rw [hl]; exact codeAmong_snoc _ htr hnf, kc, hd, hv⟩⟩ kf kc hd hv
  ·exact old b o e fun z => by rw [z, hP] at n; cases n
  ·exact ⟨o.slots, old b o e fun z => by rw [z, hP] at n; cases n⟩
  ·rw [k1 b (fun z => by rw [z, hP] at n; cases n) (Nat.ne_of_lt (Nat.lt_of_lt_of_le (Heap.lt_size e) hge)) (Nat.ne_of_lt (Nat.lt_of_lt_of_le (Heap.lt_size e) (Nat.le_trans hge (Nat.le_of_lt hlt))))]
   exact n
  ·by_cases z : b = P
   ·exact ⟨_, by rw [z]; exact tabP⟩
   ·exact ⟨o, old b o e z⟩
  ·exact kS b _ e fun z => by rw [z, hP] at e; cases e
  ·exact kS b _ e fun z => by rw [z, hP] at e; cases e
  ·by_cases z : b = P
   ·rw [z, hP] at e
    cases e
    exact ⟨_, by rw [z]; exact kP⟩
   ·exact ⟨#[], by rw [kS b _ e z]; simp⟩
  ·by_cases z1 : b = h'.objs.size
   ·rw [z1, kf] at e
    cases e
    rw [z1]
    exact dh (Heap.get?_push_size _ rfl)
   by_cases z2 : b = c'
   ·rw [z2, kc] at e
    cases e
    rw [z2]
    exact dh (Heap.get?_push_of_some _ hoc)
   by_cases z3 : b = P
   ·rw [z3, kP] at e
    cases e
    rw [z3]
    exact tabP
   rw [k1 b z3 z2 z1] at e
   refine (I.hok b u e).stay (fun d o hd' q => old d o q ?_) (fun d q => kS d _ q ?_) fun d xs q => kS d _ q ?_
   ·rcases hd' with rfl | hd'
    ·exact z3
    ·exact fun z => by rw [z, hP] at hd'; cases hd'
   ·exact fun z => by rw [z, hP] at q; cases q
   ·exact fun z => by rw [z, hP] at q; cases q
 ·refine kla_makeFunctionHit (mg := X.mg) hcl I.ok.glob G hcode (C.keeps I.bk) hPs htr hf hbu fun ctv h' tk hk hsz => ?_
  have nf : H h'.objs.size = none := I.hok.fresh hsz
  have kS : ∀ b o, H b = some o → upd H h'.objs.size (aH h'.objs.size (kla_obj name qual params body scope clos ((X.mg "__name__").getD .none) cd ctv)) b = some o := fun b o e => by
   rw [aG (aO e nf)]
   exact e
  have old : ∀ b o, s.heap.get? b = some o → (h'.push (kla_obj name qual params body scope clos ((X.mg "__name__").getD .none) cd ctv)).get? b = some o := fun b o e => Heap.get?_push_of_some _ (hk b o e)
  refine h h'.objs.size cd _ ctv oc vs t _ _ (I.call' (ch := []) rfl (Un.laid old hsz nf) (fun b u e => ?_) I.bare fun b z => absurd z (by simp)) nf (fun b o e _ => kS b o e) ⟨ps, kS _ _ hP, htr, .inr ⟨cd, oc, vs, t, hf, kS _ _ hcd, hd, hv⟩⟩ ak (kS _ _ hcd) hd hv
  by_cases z1 : b = h'.objs.size
  ·rw [z1, ak] at e
   cases e
   rw [z1]
   exact dh (Heap.get?_push_size _ rfl)
  rw [aG z1] at e
  exact (I.hok b u e).stay (fun d o _ q => old d o q) (fun d q => kS d _ q) fun d xs q => kS d _ q
end
section
variable {CX : CXT} {P : Program} {w : World} {K : PySem.W.Frag} {mg : Str → Option Value} {base : Heap} {N : List Str} {qual : Str} {scope : Scope} {f c Pt : Addr} {A : Around} {outer : List Env} {s0 s : Shared} {H0 H : Hp} {E : XK} {σ : St} {Q : VK}
theorem zM {T : oG} {cs : List Addr} {fvs : List V} {pos p2 : Pos} (I : Inv (fM CX P w K mg base N qual scope f (.ref c) A outer s0 H0 E) [] σ H s) (bm : BMain mg base) (C : CodeHd base c Pt) (hT : TabAt H Pt pos T.qual)
  (hq : (envOfC qual scope s0.heap.objs.size f (.ref c)).qual ++ "<lambda>" = T.qual)
  (hcl : closureFor T.scope (envOfC qual scope s0.heap.objs.size f (.ref c)) = pure (T.xs.zip cs)) (hd0 : defaultsOf T.params (envOfC qual scope s0.heap.objs.size f (.ref c)) = ([], []))
  (hndC : cs.Nodup) (hlen : cs.length = T.xs.length) (hlenV : fvs.length = T.xs.length)
  (hfv : ∀ (j : Nat) (a : Addr), cs[j]? = some a → ∃ (x : Str) (m : Nat) (v : V), (envOfC qual scope s0.heap.objs.size f (.ref c)).cells.lookup x = some a ∧ scope.names.lookup x = some .cell ∧ N[m]? = some x ∧ σ[m]? = some (some v) ∧ fvs[j]? = some v)
  (hQ : ∀ (fi : Addr) (H2 : Hp), H fi = none → (∀ a ∈ cs, H a = none) → (∀ b o, H b = some o → b ≠ Pt → H2 b = some o) → TabAt H2 Pt pos T.qual → jl H2 fi T cs fvs → Q (.ref fi) H2) :
  wpAny (model P w) (A.deeper (envOfC qual scope s0.heap.objs.size f (.ref c))) (execs [.Return (some (.Lambda T.params T.body T.scope pos)) p2] (envOfC qual scope s0.heap.objs.size f (.ref c)))
   (fun fl s' => ∃ u, fl = .ret u ∧ CE outer P w H0 s0 Q u s') (fM CX P w K mg base N qual scope f (.ref c) A outer s0 H0 E).xe s := by
 refine wpAny_execs_cons (wpAny_Return_some (kla_eval hd0 ?_))
 rw [hq]
 refine ye (X := fM CX P w K mg base N qual scope f (.ref c) A outer s0 H0 E) (n := pos.line) I bm rfl C hT hcl fun fi cd pm ctv oc vs t H1 s1 I1 nfi keep hT1 hf1 hc1 hd hv => ?_
 refine ⟨.ref fi, rfl, .ref fi, fun b => if b ∈ cs then (s1.heap.get? b).map (aH b) else H1 b, I1.os, I1.bare, ?_, ?_, rfl, ?_⟩
 all_goals
  have cellsOf : ∀ a ∈ cs, ∃ x, (envOfC qual scope s0.heap.objs.size f (.ref c)).cells.lookup x = some a := fun a ha' => by
   obtain ⟨j, hj⟩ := List.getElem?_of_mem ha'
   obtain ⟨x, m, v, h1, _⟩ := hfv j a hj
   exact ⟨x, h1⟩
  have fresh : ∀ a ∈ cs, s0.heap.objs.size ≤ a := fun a ha' => by
   obtain ⟨x, hx⟩ := cellsOf a ha'
   exact I1.ok.cab x a rfl hx
  have gone : ∀ a ∈ cs, H1 a = none := fun a ha' => by
   obtain ⟨x, hx⟩ := cellsOf a ha'
   exact I1.freeC x a hx
  have out : ∀ b o, H1 b = some o → b ∉ cs := fun b o e z => by
   rw [gone b z] at e
   cases e
 ·have U : Un (frs outer) [] H0 H1 s0.heap s1.heap := I1.base
  refine ⟨U.keep, U.slot, fun b o e n hx' => ?_, U.there, fun b xs e => ?_, fun b o v e => ?_, fun b ps e => ?_⟩
  ·show (if b ∈ cs then _ else H1 b) = none
   rw [if_neg (fun z => absurd (Nat.lt_of_lt_of_le (Heap.lt_size e) (fresh b z)) (Nat.lt_irrefl _))]
   exact U.free b o e n hx'
  ·have e1 := U.tups b xs e
   show (if b ∈ cs then _ else H1 b) = _
   rw [if_neg (out b _ e1)]
   exact e1
  ·have e1 := U.frzs b o v e
   show (if b ∈ cs then _ else H1 b) = _
   rw [if_neg (out b _ e1)]
   exact e1
  ·obtain ⟨more, e1⟩ := U.tbls b ps e
   refine ⟨more, ?_⟩
   show (if b ∈ cs then _ else H1 b) = _
   rw [if_neg (out b _ e1)]
   exact e1
 ·intro b u' e
  have e : (if b ∈ cs then (s1.heap.get? b).map (aH b) else H1 b) = some u' := e
  by_cases hb : b ∈ cs
  ·rw [if_pos hb] at e
   cases q : s1.heap.get? b with
   | none => rw [q] at e; cases e
   | some o =>
    rw [q] at e
    cases e
    exact dh q
  ·rw [if_neg hb] at e
   refine (I1.hok b u' e).stay (fun _ _ _ q => q) (fun d q => ?_) fun d xs q => ?_
   ·show (if d ∈ cs then _ else H1 d) = _
    rw [if_neg (out d _ q)]
    exact q
   ·show (if d ∈ cs then _ else H1 d) = _
    rw [if_neg (out d _ q)]
    exact q
 ·have kp : ∀ b o, H1 b = some o → (fun b => if b ∈ cs then (s1.heap.get? b).map (aH b) else H1 b) b = some o := fun b o e => by
   show (if b ∈ cs then _ else H1 b) = _
   rw [if_neg (out b _ e)]
   exact e
  refine hQ fi _ nfi (fun a ha' => ?_) (fun b o e n => kp b o (keep b o e n)) ?_ ⟨⟨cd, pm, ctv, oc, vs, t, kp _ _ hf1, kp _ _ hc1, hd, hv⟩, fun j a hj => ?_, hndC, hlen, hlenV⟩
  ·obtain ⟨x, hx⟩ := cellsOf a ha'
   exact I.freeC x a hx
  ·obtain ⟨ps, e1, e2, e3⟩ := hT1
   refine ⟨ps, kp _ _ e1, e2, ?_⟩
   rcases e3 with e3 | ⟨cd', oc', vs', t', e4, e5, e6⟩
   ·exact .inl e3
   ·exact .inr ⟨cd', oc', vs', t', e4, kp _ _ e5, e6⟩
  ·obtain ⟨x, m, v, h1, h2, h3, h4, h5⟩ := hfv j a hj
   obtain ⟨mm, _, hl⟩ := I1.loc
   obtain ⟨u', r', l⟩ := hl m x v h3 h4 (.inr (.inl h2))
   have l' : ∃ c', (envOfC qual scope s0.heap.objs.size f (.ref c)).cells.lookup x = some c' ∧ s1.heap.IsCell c' (some u') := by
    rcases l with ⟨l1, _⟩ | ⟨_, l2⟩
    ·have l1 : scope.names.lookup x = some .local := l1
     rw [h2] at l1
     cases l1
    ·exact l2
   obtain ⟨c', l1, co, l2, l3⟩ := l'
   rw [h1] at l1
   cases l1
   refine ⟨co, v, u', h5, ?_, l3, r'⟩
   show (if a ∈ cs then (s1.heap.get? a).map (aH a) else H1 a) = _
   rw [if_pos (List.mem_of_getElem? hj), l2]
   rfl
end
structure yN (N : List Str) (qual : Str) (scope : Scope) (T : oG) (slots : List Nat) (csF : Addr → List Addr) : Prop where
 qn : ∀ (L f : Addr) (c : Value), (envOfC qual scope L f c).qual ++ "<lambda>" = T.qual
 cl : ∀ (L f : Addr) (c : Value), closureFor T.scope (envOfC qual scope L f c) = pure (T.xs.zip (csF L))
 d0 : ∀ (L f : Addr) (c : Value), defaultsOf T.params (envOfC qual scope L f c) = ([], [])
 ndC : ∀ L : Addr, (csF L).Nodup
 len : ∀ L : Addr, (csF L).length = T.xs.length
 fv : ∀ (L f : Addr) (c : Value) (j : Nat) (a : Addr), (csF L)[j]? = some a → ∃ (x : Str) (m : Nat), (envOfC qual scope L f c).cells.lookup x = some a ∧ scope.names.lookup x = some .cell ∧ N[m]? = some x ∧ slots[j]? = some m
def z7 (H : Hp) (Pt : Addr) (pos : Pos) (T : oG) (slots : List Nat) (σ : St) (Q : VK) : Prop :=
 TabAt H Pt pos T.qual ∧ ∃ fvs : List V, (∀ j m : Nat, slots[j]? = some m → ∃ v, σ[m]? = some (some v) ∧ fvs[j]? = some v) ∧ fvs.length = T.xs.length ∧
  ∀ (fi : Addr) (cs : List Addr) (H2 : Hp), H fi = none → (∀ a ∈ cs, H a = none) → (∀ b o, H b = some o → b ≠ Pt → H2 b = some o) → TabAt H2 Pt pos T.qual → jl H2 fi T cs fvs → Q (.ref fi) H2
section
variable {P : Program} {w : World} {K : PySem.W.Frag} {mg : Str → Option Value} {base : Heap} {x qual : Str} {st : Stmt} {f c Pt : Addr} {fd : FuncData} {N ps : List Str} {k i : Nat} {sp : Sp} {T : oG} {slots : List Nat} {csF : Addr → List Addr} {pos p1 p2 : Pos}
theorem wR {A : Around} {outer : List Env} {s s1 : Shared} {H H1 : Hp} {Q : VK} {E : XK} {σ : St} (M : yN N qual (defScope st) T slots csF) (bm : BMain mg base) (C : CodeHd base c Pt) (I : Inv (fM CX0 P w K mg base N qual (defScope st) f (.ref c) A outer s H E) [] σ H1 s1) (h : z7 H1 Pt pos T slots σ Q) :
  wpAny (model P w) (A.deeper (envOfC qual (defScope st) s.heap.objs.size f (.ref c))) (execs [.Return (some (.Lambda T.params T.body T.scope pos)) p2] (envOfC qual (defScope st) s.heap.objs.size f (.ref c)))
   (fun fl s' => ∃ u, fl = .ret u ∧ CE outer P w H s Q u s') (fM CX0 P w K mg base N qual (defScope st) f (.ref c) A outer s H E).xe s1 := by
 obtain ⟨hT, fvs, h1, h2, h3⟩ := h
 refine zM (cs := csF s.heap.objs.size) (fvs := fvs) I bm C hT (M.qn _ _ _) (M.cl _ _ _) (M.d0 _ _ _) (M.ndC _) (M.len _) h2 (fun j a e => ?_) (fun fi H2 n1 n2 n3 n4 n5 => h3 fi _ H2 n1 n2 n3 n4 n5)
 obtain ⟨y, m, e1, e2, e3, e4⟩ := M.fv s.heap.objs.size f (.ref c) j a e
 obtain ⟨v, e6, e7⟩ := h1 j m e4
 exact ⟨y, m, v, e1, e2, e3, e6, e7⟩
theorem Fun.makerL1 {st0 : Stmt} (F : Fun K x qual st f fd) (S : aD N ps (defScope st)) (M : yN N qual (defScope st) T slots csF) (bm : BMain mg base) (hcode : fd.code = .ref c) (C : CodeHd base c Pt) (len : ∀ vs H Q E, sp vs H Q E → vs.length = ps.length)
  (hb : defBody st = [st0, .Return (some (.Lambda T.params T.body T.scope pos)) p2])
  (h : ∀ (cdv : Value) (A : Around) (outer : List Env) (s : Shared) (H : Hp) (vs : List V) (Q : VK) (E : XK), cL k (A.deeper (envOfC qual (defScope st) s.heap.objs.size f cdv)) → sp vs H Q E →
   ∃ t, PS (fM CX0 P w K mg base N qual (defScope st) f cdv A outer s H E).nox st0 t ∧ t { nx := fun σ H' => z7 H' Pt pos T slots σ Q, rt := fun _ _ => False } (start N vs) H) : bh P w K mg base CX0 (k + 1) f fd ps sp := by
 obtain ⟨oc, od, kV, doc, pm, an, cdv, ct, osl, rfl, lk, hcd⟩ := F.ex
 obtain rfl : cdv = .ref c := hcode
 refine yg lk hcd S len fun A outer s H vs Q E s1 hr hsp I => ?_
 rw [hb]
 obtain ⟨t, h1, h2⟩ := h _ A outer s H vs Q E hr hsp
 refine wpAny_execs_cons (wpAny_mono (h1 [] s1 (start N vs) H _ (I.wish _) h2) (fun fl s2 q => ?_) fun _ _ z => False.elim z)
 cases fl with
 | next =>
  obtain ⟨σ, H1, I1, q⟩ := q
  exact wR M bm C I1.unwish q
 | ret u => obtain ⟨_, _, _, _, _, z⟩ := q; exact False.elim z
 | brk => obtain ⟨_, _, _, z⟩ := q; exact False.elim z
 | cont => obtain ⟨_, _, _, z⟩ := q; exact False.elim z
theorem Ai {sp : Addr → Sp} (S : pD N T) (hb : ∀ (cl : List (Str × Addr)) (pm cd ctv : Value) (us : List Value), us.length = T.ps.length → bindArgs (kla_fn "<lambda>" T.qual T.params T.body T.scope cl pm cd ctv) ⟨us, []⟩ = pure (T.ps.zip us))
  (h : ∀ (f : Addr) (vs : List V) (H : Hp) (Q : VK), sp f vs H Q E0 → vs.length = T.ps.length ∧ ∃ cs fvs, jl H f T cs fvs ∧
   ∀ (cd : Addr) (A : Around) (outer : List Env) (s : Shared), cL k (A.deeper (envX T.qual T.scope s.heap.objs.size f (.ref cd) (T.xs.zip cs))) → ∃ t, PE (mU P w K mg base N T.qual T.scope f (.ref cd) (T.xs.zip cs) A outer s (hide H cs)) T.body t ∧ t (start N (vs ++ fvs)) (hide H cs) fun v H' => Q v (over H cs H')) :
  m5 P w K mg base (k + 1) sp := by
 intro f A outer s H us vs Q hr e0 r hsp
 obtain ⟨hl, cs, fvs, ca, hbody⟩ := h f vs H Q hsp
 exact zL S hr e0 ca (fun cl pm cd ctv => hb cl pm cd ctv us (by rw [← r.length]; exact hl)) r hl fun cd hr' => hbody cd A outer s hr'
end
end L2
set_option Elab.async false
set_option linter.all false
set_option maxRecDepth 100000
set_option maxHeartbeats 4000000
namespace Tw
def brk : List Int → Int → List Int
 | [], u => List.replicate u.toNat 0
 | d :: r, u => List.replicate (u - d).toNat 0 ++ 1 :: brk r (d + 1)
end Tw
set_option Elab.async false
set_option linter.all false
set_option maxRecDepth 100000
set_option maxHeartbeats 4000000
namespace L2
open PySem PySem.Spec PyProof.Rows
end L2
namespace L2
open PySem PySem.Spec PyProof.Rows
section
variable (P : Program) (w : World)
end
section
variable {P : Program} {w : World} {H H' : Hp} {h h' : Heap} {a : Addr} {o : HO}
end
section
variable {P : Program} {w : World} {H : Hp} {h h' : Heap} {x e : Addr} {o' : HO}
end
section
variable {fs fs' ex ex' : List Addr} {H H1 H2 : Hp} {h h1 h2 h' : Heap} {a x e : Addr} {o : HO}
end
end L2
namespace L2
open PySem PySem.Spec PyProof.Rows
section
variable {X : Cx} {pins : List (Addr × Obj)} {σ : List (Option V)} {H H' : Hp} {s : Shared} {h' : Heap}
end
end L2
namespace L2
open PySem PySem.Spec PyProof.Rows
section
variable {X : Cx}
variable {a b : Expr} {ta tb : TE} {pos : Pos}
variable {tA tB' : TT} {rest : List Expr}
end
end L2
namespace L2
open PySem PySem.Spec PyProof.Rows
section
variable {X : Cx} {pins : List (Addr × Obj)} {σ : St} {H : Hp} {s : Shared} {a : Addr} {xs ys : List V}
end
section
variable {X : Cx} {pins : List (Addr × Obj)} {σ : St} {H : Hp} {s : Shared} {E : Value → Shared → Prop}
end
section
variable {X : Cx} {st : Stmt} {rest : List Stmt} {t u : TS} {e : Expr} {te : TE} {pos : Pos}
end
section
variable {X : Cx} {pos : Pos}
end
section
variable {X : Cx} {pos : Pos}
end
end L2
namespace L2
open PySem PySem.Spec PyProof.Rows
section
variable {X : Cx} {tg : Expr}
end
end L2
namespace L2
open PySem PySem.Spec PyProof.Rows
section
variable {X : Cx} {a b c : Expr} {ta tb tc : TE} {pos : Pos}
end
section
variable {X : Cx} {a b c : Expr} {ta tb tc : TE} {pos : Pos}
end
end L2
namespace L2
open PySem PySem.Spec PyProof.Rows
section
variable {prog : Program} {w : World} {A : Around} {E : Value → Shared → Prop} {s : Shared} {K : PySem.W.Frag} {x dx C f : Addr} {mA : Str → Option Value} {name : Str} {v : Value}
end
section
variable {P : Program} {w : World} {H H' : Hp} {h h' : Heap} {a C dx : Addr} {fs fs' : List (Str × V)}
end
section
variable {X : Cx} {pins : List (Addr × Obj)} {σ : St} {H : Hp} {s : Shared} {a C dx : Addr} {fs : List (Str × V)} {f : Str} {v : V} {A : Around} {E : Value → Shared → Prop}
end
section
variable {X : Cx} {o e value : Expr} {f : Str} {pos pos' tpos : Pos} {ta tv : TE}
end
section
variable {X : Cx} {pins : List (Addr × Obj)} {σ : St} {H : Hp} {s : Shared} {A : Around} {E : Value → Shared → Prop} {Q : Value → Shared → Prop} {c : Value} {b : Bool}
end
end L2
namespace L2
open PySem PySem.Spec PyProof.Rows
section
variable {X : Cx} {e : Expr} {es : List Expr} {te : TE} {t : TA} {pos : Pos}
end
section
variable {X : Cx} {pins : List (Addr × Obj)} {σ : St} {H : Hp} {s s' : Shared}
end
section
variable {X : Cx} {CX : CXT} {k : Nat} {f C : Addr} {fd : FuncData} {ps : List Str} {sp : Sp} {dvs : List V} {ds : List Value} {E : XK} {x m : Str} {p pos apos : Pos} {e o : Expr} {es : List Expr} {ta : TE} {t : TA}
end
section
variable {X : Cx} {CX : CXT} {k : Nat} {f C : Addr} {fd : FuncData} {ps ks : List Str} {sp : Sp} {E : XK} {x m : Str} {p pos apos kpos : Pos} {e o : Expr} {es : List Expr} {kws : List Keyword} {te ta : TE} {t tk : TA} {nm : Option Str}
variable {g : List Value → List Value → List Value} {gV : List V → List V → List V}
end
end L2
namespace L2
open PySem PySem.Spec PyProof.Rows
section
variable {X : Cx} {x : Str} {p pos : Pos} {e : Expr} {es : List Expr} {t : TA} {id T : String} {r : List V → Hp → VK → Prop}
end
end L2
namespace L2
open PySem PySem.Spec PyProof.Rows
section
variable {κ : Type} [DecidableEq κ]
def zU (kvs : List (κ × V)) (k : κ) : List (κ × V) := kvs.filter fun kv => decide (kv.1 ≠ k)
theorem KV.drop {kvs : List (κ × V)} {vs : List (κ × Value)} (r : KV kvs vs) (k : κ) : KV (zU kvs k) (without vs k) := by
 unfold KV at r ⊢
 unfold zU without
 induction r with
 | nil => exact .nil
 | @cons p q ps qs h t ih =>
  obtain ⟨h1, h2⟩ := h
  rw [List.filter_cons, List.filter_cons]
  by_cases e : p.1 = k
  ·have a : ¬ decide (p.1 ≠ k) = true := by simp [e]
   have b : ¬ decide (q.1 ≠ k) = true := by simp [h1.symm.trans e]
   rw [if_neg a, if_neg b]; exact ih
  ·have e' : ¬ q.1 = k := fun z => e (h1.trans z)
   have a : decide (p.1 ≠ k) = true := by simp [e]
   have b : decide (q.1 ≠ k) = true := by simp [e']
   rw [if_pos a, if_pos b]; exact .cons ⟨h1, h2⟩ ih
theorem KV.length {kvs : List (κ × V)} {vs : List (κ × Value)} (r : KV kvs vs) : kvs.length = vs.length := Paired.length r
end
section
variable {P : Program} {w : World} {H : Hp} {h : Heap} {a : Addr}
end
section
variable {X : Cx} {pins : List (Addr × Obj)} {σ : St} {H : Hp} {s : Shared} {a : Addr} {y v : V} {u r : Value} {o : Option V} {A : Around} {E : Value → Shared → Prop}
end
section
variable {X : Cx} {pins : List (Addr × Obj)} {σ : St} {H : Hp} {s : Shared} {a : Addr} {kvs : List (Key × V)} {k : Key} {u : Value} {A : Around} {E : Value → Shared → Prop}
end
section
variable {X : Cx} {o i e value : Expr} {pos pos' tpos : Pos} {td ty tv : TE}
end
section
variable {X : Cx} {pos : Pos}
end
structure M1 (X : Cx) (o : Expr) (m : Str) (apos : Pos) (e : Expr) (cpos : Pos) : Prop where
 base : attributeBase o m X.env (eval o X.env) = eval o X.env
 few : ((backTo cpos (starEach [e] X.env)).all (fun x => !x.1) && (backToKw cpos (keywordEach [] X.env)).all (fun x => x.1.isSome)
  && decide (([e] : List Expr).length + ([] : List Keyword).length + (if ([] : List Keyword).isEmpty then 0 else 1) < 30)) = true
 line : (apos.endLine == cpos.line) = true
 trees : backTo cpos (starEach [e] X.env) = [(false, eval e X.env)]
structure M2 (X : Cx) (o : Expr) (m : Str) (apos : Pos) (e f : Expr) (cpos : Pos) : Prop where
 base : attributeBase o m X.env (eval o X.env) = eval o X.env
 few : ((backTo cpos (starEach [e, f] X.env)).all (fun x => !x.1) && (backToKw cpos (keywordEach [] X.env)).all (fun x => x.1.isSome)
  && decide (([e, f] : List Expr).length + ([] : List Keyword).length + (if ([] : List Keyword).isEmpty then 0 else 1) < 30)) = true
 line : (apos.endLine == cpos.line) = true
 trees : backTo cpos (starEach [e, f] X.env) = [(false, eval e X.env), (false, eval f X.env)]
section
variable {X : Cx} {pins : List (Addr × Obj)} {σ : St} {H : Hp} {s : Shared} {a : Addr} {y d : V} {u r : Value} {o : Option V} {A : Around} {E : Value → Shared → Prop}
end
section
variable {X : Cx} {o e f : Expr} {apos cpos : Pos} {td ty tx : TE}
end
section
variable {X : Cx} {pins : List (Addr × Obj)} {σ : St} {H : Hp} {s : Shared} {a : Addr} {kvs : List (Key × V)} {A : Around} {E : Value → Shared → Prop}
end
section
variable {X : Cx} {pins : List (Addr × Obj)} {σ : St} {H : Hp} {s : Shared} {a : Addr} {y : V} {u : Value} {A : Around} {E : Value → Shared → Prop}
end
end L2
namespace Att
open PySem PySem.W PySem.Calls PyProof.Rows
section
variable {prog : Program} {w : World} {A : Around} {E : Value → Shared → Prop} {s : Shared} {K : Frag}
end
end Att
namespace L2
open PySem PySem.Spec PyProof.Rows
end L2
namespace L2
open PySem PySem.Spec PyProof.Rows
end L2
/- THE LAST THEOREM (shape; LID, My.* are yours):
   My.Adr: a structure of the addresses that your layer names (classes, functions); My.Txt K t: a structure (Prop) of the equations over K;
   My.txt_mk : {K} {implicit addresses ..} (e1 : nsIn K mainGlobals "law" = some (some (.ref f))) (e2 : K.lookup f = some ⟨oc, od, .func (fnOf "law" "law" params body scope dV kV doc pm an cdv ct), sl⟩) (e3 : codeIn K cdv "law" = true) .. : ∃ t, My.Txt K t
set_option maxRecDepth 100000 in
set_option maxHeartbeats 0 in
theorem PySem.Challenge.cw_LID_holds : PySem.Challenge.rw_LID.Holds := by
 w_on; o_law; k_head; (case hw => w_witness2)
 k_fill
 refine L2.walk_of (l := PySem.Challenge.rw_LID) (n := 63) (k := 40) (x := "script") (CX := fun w => ..) (sp := fun _ => My.sp_law) rfl (by decide) rfl ⟨rfl, by decide, by decide⟩ (fun w h Y => PySem.W.kIn_of Y) ?F ?S ?C
 case F =>
  intro w mg fa h KX G hmg
  have T : ∃ t, My.Txt (L2.KOf KX) t := by
   dsimp only [L2.KOf]                          -- K must stand as «<heap const> w.params» for k_is
   refine' My.txt_mk ?e1 ?e2 ?e3 ..
   (case e1 => PySem.W.k_is)                    -- in the order: a name -> its address -> its object -> its parts
   (case e2 => PySem.W.k_is)
   ..
  obtain ⟨t, T⟩ := T
  have e0 := hmg.symm.trans (PySem.W.mg_of KX G T.law)
  cases e0                                       -- fa is the law's own address
  exact ⟨_, fun s u => .of_eq rfl, fun base kb nb => My.law_fn T kb nb⟩     -- if «.of_eq rfl» comes too early: refine' ⟨_, ?b, fun base kb nb => My.law_fn T kb nb⟩; exact fun s u => .of_eq rfl
 case S => exact fun w H a ns hl hO hS => ..
 case C => exact ..
(the tactic k_is has no namespace: write k_is) -/
namespace L2
open PySem PySem.Spec PyProof.Rows
section
variable {P : Program} {w : World} {K : PySem.W.Frag} {mg : Str → Option Value} {base : Heap}
end
section
variable {X : Cx}
end
section
variable {κ : Type} [DecidableEq κ]
end
end L2
set_option Elab.async false
set_option linter.all false
set_option maxRecDepth 100000
set_option maxHeartbeats 4000000
namespace L2
open PySem PySem.Spec PyProof.Rows
section
variable {X : Cx} {st : Stmt} {rest : List Stmt} {t u : TS}
def Dd (t u : TS) : TS := fun D σ H => ∃ R : St → Hp → Prop, t { D with nx := R } σ H ∧ ∀ σ' H', R σ' H' → u D σ' H'
theorem qT (h1 : PS X st t) (h2 : PSs X rest u) : PSs X (st :: rest) (Dd t u) := by
 rintro pins s σ H D I ⟨R, h, hR⟩
 refine wpAny_execs_cons (thn (h1 pins s σ H { D with nx := R } I h) fun f s1 q => ?_)
 cases f with
 | next =>
  obtain ⟨σ', H', I', q⟩ := q
  exact h2 pins s1 σ' H' D I' (hR _ _ q)
 | ret v => exact q
 | brk => exact q
 | cont => exact q
def tEc (t : TE) : TE := fun σ H Q => ∃ R : VK, t σ H R ∧ ∀ v H', R v H' → Q v H'
theorem ou {e : Expr} {t : TE} (h : PE X e t) : PE X e (tEc t) := by
 rintro pins s σ H Q I ⟨R, q, hR⟩
 exact thn (h pins s σ H R I q) fun v s1 ⟨x, H1, I1, r1, q1⟩ => ⟨x, H1, I1, r1, hR _ _ q1⟩
theorem aB {CX : CXT} {x : Str} {sd : Stmt} {ps : List Str} {f : Addr} {fd : FuncData} {sp : Sp} {j k : Nat} {E : XK} {e : Expr} {es : List Expr} {p pos : Pos} {t : TA} (D : Tw.Df X.K X.mg x sd ps f fd) (F : bh X.prog X.w X.K X.mg X.base CX j f fd ps sp) (hj : j ≤ k) (hr : cL k X.A) (hx : il CX X E) (hg : Gl X x)
  (ha : PA X (e :: es) t) (hdb : (x == ("__debug__" : Str)) = false := by decide) (he : starEach (e :: es) X.env = (false, eval e X.env) :: starEach es X.env := by rfl) (hpl : (backTo pos (starEach es X.env)).any (·.1) = false := by rfl) :
  PE X (.Call (.Name x p) (e :: es) [] pos) (vV sp [] E t) := zz (F.mono hj) hr hg D.m D.F.kp D.b .nil hx ha hdb he hpl
end
end L2
namespace Tw
open PySem L2
end Tw
set_option Elab.async false
set_option linter.all false
set_option maxRecDepth 100000
set_option maxHeartbeats 4000000
namespace Tw
theorem sy : ∀ l : List Int, blk (l.map fun x => 1 - x) = 2 ^ l.length - 1 - blk l
 | [] => by simp [blk]
 | x :: l => by
  rw [List.map_cons, List.length_cons, Int.pow_succ]
  simp only [blk]
  rw [sy l]
  omega
theorem tW : ∀ (l : List Int) (k : Nat), k ≤ l.length → ((l.map fun x => 1 - x).take k).sum = k - (l.take k).sum
 | _, 0, _ => by simp
 | [], k + 1, h => by simp at h
 | x :: l, k + 1, h => by
  have := tW l k (by simpa using h)
  rw [List.map_cons, List.take_succ_cons, List.take_succ_cons, List.sum_cons, List.sum_cons, this]
  omega
theorem turned {b : Int} (h0 : 0 ≤ b) (h1 : b < 2 ^ 32) : (∀ k : Nat, k < 32 → bit (2 ^ 32 - 1 - b) k = 1 - bit b k) ∧ ∀ k : Nat, k ≤ 32 → ones (2 ^ 32 - 1 - b) k = k - ones b k := by
 have hb := ug b 32
 have e := sJ 32 b h0 h1
 have hl := iK b 32
 have ht : aK ((bits b 32).map fun x => 1 - x) := fun x hx => by
  obtain ⟨y, hy, rfl⟩ := List.mem_map.mp hx
  have := hb y hy
  omega
 have et : blk ((bits b 32).map fun x => 1 - x) = 2 ^ 32 - 1 - b := by rw [sy, hl, e]
 refine ⟨fun k hk => ?_, fun k hk => ?_⟩
 ·rw [← et, nY ht, List.getElem?_map, uq hk]
  rfl
 ·rw [← et, iQ ht, tW _ _ (by omega), ← iQ hb, e]
end Tw
set_option Elab.async false
set_option linter.all false
set_option maxRecDepth 100000
set_option maxHeartbeats 4000000
namespace Tw
open PySem L2
def UpN (ds : List Int) (j : Nat) (g : Int) (i : Nat) : Prop := i ≤ j ∧ ds[i]? = some g ∧ ∀ m x, i < m → m ≤ j → ds[m]? = some x → g < x
theorem UpN.trans {ds : List Int} {j i e : Nat} {g : Int} (h : UpN ds j g i) (h' : UpN ds i (g - 1) e) : UpN ds j (g - 1) e := by
 obtain ⟨a1, a2, a3⟩ := h
 obtain ⟨b1, b2, b3⟩ := h'
 refine ⟨by omega, b2, fun m x m1 m2 e => ?_⟩
 rcases Nat.lt_or_ge i m with z | z
 ·have := a3 m x z m2 e
  omega
 ·exact b3 m x m1 z e
def run (ds : List Int) (k : Nat) (g : Int) : Nat := ((ds.drop k).takeWhile fun x => decide (g < x)).length
end Tw
set_option Elab.async false
set_option linter.all false
set_option maxRecDepth 100000
set_option maxHeartbeats 4000000
namespace L2
open PySem PySem.Spec PyProof.Rows
structure fY (k : Nat) (A : Around) : Prop where
 dp : A.depth + 3 * k + 5 < recursionLimit
 un : A.units + 16 * k + 200 < cLine
theorem cL.hm {k : Nat} {A : Around} (r : cL k A) (v : Option Value) : fY k (A.mark v) := ⟨r.dp, r.un⟩
theorem fY.mono {j k : Nat} {A : Around} (r : fY k A) (h : j ≤ k) : fY j A := ⟨by have := r.dp; omega, by have := r.un; omega⟩
theorem fY.deeper {k : Nat} {A : Around} (r : fY (k + 1) A) (env : Env) : fY k (A.deeper env) :=
 ⟨by have := r.dp; show A.depth + 1 + 3 * k + 5 < _; omega, by have := r.un; show A.units + 3 + 16 * k + 200 < _; omega⟩
theorem fY.depth {k : Nat} {A : Around} (r : fY k A) : A.depth < recursionLimit := by have := r.dp; omega
structure nj (P : Program) (w : World) (K : PySem.W.Frag) (mg : Str → Option Value) (base : Heap) (CX : CXT) (k : Nat) (f : Addr) (fd : FuncData) (ps : List Str) (sp : Sp) : Prop where
 len : ∀ vs H Q E, sp vs H Q E → vs.length = ps.length
 run : ∀ (A : Around) (outer : List Env) (s : Shared) (H : Hp) (args : Args) (us : List Value) (vs : List V) (Q : VK) (E : XK), fY k A → rT P w K mg base A outer s H → BindsTo s fd args (ps.zip us) → Vals vs us → sp vs H Q E →
  codeAny (model P w) A (.call (.ref f) args) (CR CX outer P w H s Q E) s
theorem nj.mono {P : Program} {w : World} {K : PySem.W.Frag} {mg : Str → Option Value} {base : Heap} {CX : CXT} {j k : Nat} {f : Addr} {fd : FuncData} {ps : List Str} {sp : Sp} (F : nj P w K mg base CX j f fd ps sp) (h : j ≤ k) :
  nj P w K mg base CX k f fd ps sp := ⟨F.len, fun A outer s H args us vs Q E hr => F.run A outer s H args us vs Q E (hr.mono h)⟩
def qN (CX : CXT) (P : Program) (w : World) (K : PySem.W.Frag) (mg : Str → Option Value) (base : Heap) (N : List Str) (qual : Str) (scope : Scope) (f : Addr) (cd : Value) (A : Around) (outer : List Env) (s : Shared) (H : Hp) (E : XK) : Cx where
 prog := P
 w := w
 K := K
 mg := mg
 base := base
 A := A.deeper (envOfC qual scope s.heap.objs.size f cd)
 N := N
 s₀ := s
 H₀ := H
 env := envOfC qual scope s.heap.objs.size f cd
 outer := outer
 stack := envOfC qual scope s.heap.objs.size f cd :: outer
 ex := []
 calm := false
 fn := fun _ => true
 pn := []
 xe := fun e s' => wpAny (model P w) (A.deeper (envOfC qual scope s.heap.objs.size f cd)) (leaving (envOfC qual scope s.heap.objs.size f cd) e) (fun _ s'' => CX outer H s E e s'') (fun e' s'' => CX outer H s E e' s'') s'
theorem vm {CX : CXT} {P : Program} {w : World} {K : PySem.W.Frag} {mg : Str → Option Value} {base : Heap} {N ps : List Str} {qual : Str} {scope : Scope} {f : Addr} {cd : Value} {A : Around} {outer : List Env} {s s1 : Shared} {H : Hp} {E : XK} {us : List Value} {vs : List V}
  (S : aD N ps scope) (e0 : rT P w K mg base A outer s H) (hl : vs.length = ps.length) (r : Vals vs us)
  (x : InCallC s s.heap.objs.size (bindL (envOfC qual scope s.heap.objs.size f cd).kindOf (ps.zip us) fun _ => none) (cellsFrom (s.heap.objs.size + 1) scope.names []) (bindC (envOfC qual scope s.heap.objs.size f cd).kindOf (ps.zip us) fun _ => none) s1) :
  Inv (qN CX P w K mg base N qual scope f cd A outer s H E) [] (start N vs) H s1 := by
 have hpl : ps.length ≤ N.length := by have := congrArg List.length S.pre; rw [List.length_take] at this; omega
 obtain ⟨h1, tk, rfl, hk⟩ := x.done
 have noA : ∀ b : Addr, b ∉ (qN CX P w K mg base N qual scope f cd A outer s H E).ex := fun b z => absurd (show b ∈ ([] : List Addr) from z) (by simp)
 refine ⟨⟨e0.mod, S.kind, rfl, rfl, Nat.le_refl _, fun y z c h1 h2 => ?_, fun y hy => ?_, fun y c _ h => ?_, fun z => absurd z Bool.false_ne_true, Around.frames_deeper e0.frames, .inr ⟨rfl, rfl⟩, fun b z => absurd z (noA b), e0.bs, e0.bsz, fun b _ _ => noA b, fun b z => absurd z (noA b), e0.funs, e0.frf⟩,
  rfl, e0.bare, Un.kept hk, ⟨_, x.toInCall.ns, fun i y v h1 h2 h3 => ?_⟩, fun y c h => ⟨_, x.cell y c h⟩, e0.hok.fresh (Nat.le_refl _), fun y c h => ?_, fun p hp => absurd (show p ∈ ([] : List (Addr × Obj)) from hp) (by simp), e0.hok.kept hk, ?_⟩
 ·exact name_of_addr x.apart (PySem.mem_of_lookup h1) (PySem.mem_of_lookup h2)
 ·have hy : scope.names.lookup y = some .cell ∨ scope.names.lookup y = some .free := hy
  rcases hy with hy | hy
  ·exact lr hy
  ·exact absurd rfl (S.nofree _ (PySem.mem_of_lookup hy))
 ·exact Nat.le_of_lt (x.above y c (PySem.mem_of_lookup h))
 ·have hi : i < vs.length := by
   unfold start at h2
   by_cases hi : i < vs.length
   ·exact hi
   ·rw [List.getElem?_append_right (by simpa using hi)] at h2
    rw [List.getElem?_replicate] at h2
    split at h2 <;> cases h2
  have ha : vs[i]? = some v := by
   unfold start at h2
   rw [List.getElem?_append_left (by simpa using hi), List.getElem?_map] at h2
   cases e : vs[i]? with
   | none => rw [e] at h2; cases h2
   | some a => rw [e] at h2; cases h2; rfl
  obtain ⟨u, hu, rv⟩ := r.get ha
  have hp : ps[i]? = some y := by
   rw [← S.pre, List.getElem?_take_of_lt (by omega)]; exact h1
  have ndP : ps.Nodup := by rw [← S.pre]; exact S.nd.sublist (List.take_sublist _ _)
  refine ⟨u, rv, ?_⟩
  rcases S.par y (List.mem_of_getElem? hp) with k | k
  ·exact .inl ⟨k, lX ndP hp hu k⟩
  ·obtain ⟨c, e⟩ := lr (n := s.heap.objs.size + 1) k
   refine .inr ⟨.inl k, c, e, ?_⟩
   have q := x.cell y c e
   rw [lL ndP hp hu (by show scope.names.lookup y ≠ _; rw [k]; decide)] at q
   exact q
 ·exact e0.hok.fresh (Nat.le_of_lt (x.above y c (PySem.mem_of_lookup h)))
 ·unfold start
  show _ = N.length
  rw [List.length_append, List.length_map, List.length_replicate]
  omega
theorem Bh {CX : CXT} {P : Program} {w : World} {K : PySem.W.Frag} {mg : Str → Option Value} {base : Heap} {k : Nat} {f : Addr} {name qual : Str} {params : Arguments} {body : List Stmt} {scope : Scope} {dV kV doc pm cdv ct oc : Value} {an od : Option Addr}
  {osl : Array (Option Value)} {N ps : List Str} {sp : Sp} (lk : K.lookup f = some ⟨oc, od, .func (PySem.W.fnOf name qual params body scope dV kV doc pm an cdv ct), osl⟩) (hcd : PySem.W.codeIn K cdv qual = true) (S : aD N ps scope)
  (len : ∀ vs H Q E, sp vs H Q E → vs.length = ps.length)
  (hbody : ∀ (A : Around) (outer : List Env) (s : Shared) (H : Hp) (vs : List V) (Q : VK) (E : XK), fY k (A.deeper (envOfC qual scope s.heap.objs.size f cdv)) → sp vs H Q E →
   ∃ t, PSs (qN CX P w K mg base N qual scope f cdv A outer s H E) body t ∧ t { nx := fun _ H' => Q .non H', rt := Q } (start N vs) H) :
  nj P w K mg base CX (k + 1) f (PySem.W.fnOf name qual params body scope dV kV doc pm an cdv ct) ps sp := by
 refine ⟨len, fun A outer s H args us vs Q E hr e0 hb r hsp => ?_⟩
 have hl := len _ _ _ _ hsp
 have KX : K.In s.heap := e0.mod.kin.keeps fun b o e => (e0.bs b o e).1
 have lim : s.heap.NoLimit := e0.mod.nolimit.keeps fun b o e => (e0.bs b o e).1
 have hkind : ∀ y ∈ ps.zip us, scope.names.lookup y.1 = some .local ∨ (scope.names.lookup y.1 = some .cell ∧ ((cellsFrom (s.heap.objs.size + 1) scope.names []).lookup y.1).isSome = true) := fun ⟨n, v⟩ hy => by
  rcases S.par n (List.of_mem_zip hy).1 with q | q
  ·exact .inl q
  ·exact .inr ⟨q, PySem.W.cellsFrom_some _ _ _ (.inl q)⟩
 refine codeAny_call_function hr.depth (KX _ _ lk) rfl S.co S.gen rfl (PySem.W.codeRec_of KX hcd) (hb _ _ _ _ ?_)
 refine wpAny_newFunctionEnv_cells S.kind hkind fun env he s1 x => ?_
 subst he
 refine ⟨lim.keeps x.toInCall.keep, codeAny_func ?_⟩
 obtain ⟨t, ht, hq⟩ := hbody A outer s H vs Q E (hr.deeper _) hsp
 have I : Inv (qN CX P w K mg base N qual scope f cdv A outer s H E) [] (start N vs) H s1 := vm S e0 hl r x
 refine wpAny_mono (ht [] s1 (start N vs) H _ I hq) (fun fl s' hs => ?_) fun e s' hs => hs
 have fin : ∀ {σ' : St} {H' : Hp} {v : V} {u : Value}, Inv (qN CX P w K mg base N qual scope f cdv A outer s H E) [] σ' H' s' → RelV v u → Q v H' → CE outer P w H s Q u s' :=
  fun {σ' H' v u} J rv q => ⟨v, H', J.os, J.bare, J.base, J.hok, rv, q⟩
 cases fl with
 | ret u =>
  obtain ⟨v, σ', H', J, rv, q⟩ := hs
  exact fin J rv q
 | next =>
  obtain ⟨σ', H', J, q⟩ := hs
  exact fin (v := V.non) (u := Value.none) J rfl q
 | brk =>
  obtain ⟨_, _, _, q⟩ := hs
  exact False.elim q
 | cont =>
  obtain ⟨_, _, _, q⟩ := hs
  exact False.elim q
section
variable {X : Cx} {CX : CXT} {k : Nat} {f C : Addr} {fd : FuncData} {ps : List Str} {sp : Sp} {dvs : List V} {ds : List Value} {E : XK} {x m : Str} {p pos apos : Pos} {e o : Expr} {es : List Expr} {ta : TE} {t : TA}
theorem zx {pins : List (Addr × Obj)} {σ : St} {H : Hp} {s : Shared} {Q : VK} {us : List Value} {vs : List V} (F : nj X.prog X.w X.K X.mg X.base CX k f fd ps sp) (hr : fY k X.A) (hb : Binds X.K fd ps ds) (hd : Vals dvs ds) (hx : il CX X E)
  (I : Inv X pins σ H s) (r : Vals vs us) (h : sp (vs ++ dvs) H Q E) : wpAny (model X.prog X.w) X.A (call (.ref f) us) (EP X pins σ Q) X.xe s := by
 have r2 : Vals (vs ++ dvs) (us ++ ds) := r.append hd
 have hl : (us ++ ds).length = ps.length := by rw [← r2.length]; exact F.len _ _ _ _ h
 refine wpAny_call (codeAny_mono (F.run X.A X.stack s H ⟨us, []⟩ (us ++ ds) (vs ++ dvs) Q E hr I.env0 (hb s us I.kIn hl) r2 h) fun r s' hq => ?_)
 cases r with
 | error e => exact hx pins σ H s e s' I hq
 | ok fl =>
  cases fl with
  | ret u => exact I.after hq
  | next => exact False.elim hq
  | brk => exact False.elim hq
  | cont => exact False.elim hq
theorem sU (F : nj X.prog X.w X.K X.mg X.base CX k f fd ps sp) (hr : fY k X.A) (hg : Gl X x) (hm : X.mg x = some (.ref f)) (hk : PySem.W.keepIn X.K (.ref f) = true) (hb : Binds X.K fd ps ds) (hd : Vals dvs ds) (hx : il CX X E)
  (ha : PA X (e :: es) t) (hdb : (x == ("__debug__" : Str)) = false := by decide) (he : starEach (e :: es) X.env = (false, eval e X.env) :: starEach es X.env := by rfl) (hpl : (backTo pos (starEach es X.env)).any (·.1) = false := by rfl) :
  PE X (.Call (.Name x p) (e :: es) [] pos) (vV sp dvs E t) := by
 intro pins s σ H Q I h
 refine wpAny_Call_Name_kw (gW I hg hm ?_ hdb)
 refine PySem.W.callWith_K (h₀ := X.base) I.ok.mod.kin hk (thn (ha pos pins s σ H _ I h) fun us s1 ⟨vs, H1, I1, r, q⟩ => ⟨I1.kIn, ?_⟩) he hpl
 exact zx F hr hb hd hx I1 r q
end
section
variable {P : Program} {w : World} {K : PySem.W.Frag} {mg : Str → Option Value} {base : Heap}
theorem Fun.okH {x qual : Str} {st : Stmt} {f : Addr} {fd : FuncData} {N ps : List Str} {k : Nat} {sp : Sp} (F : Fun K x qual st f fd) (S : aD N ps (defScope st)) (len : ∀ vs H Q E, sp vs H Q E → vs.length = ps.length)
  (hbody : ∀ (cdv : Value) (A : Around) (outer : List Env) (s : Shared) (H : Hp) (vs : List V) (Q : VK) (E : XK), fY k (A.deeper (envOfC qual (defScope st) s.heap.objs.size f cdv)) → sp vs H Q E →
   ∃ t, PSs (qN CX0 P w K mg base N qual (defScope st) f cdv A outer s H E).nox (defBody st) t ∧ t { nx := fun _ H' => Q .non H', rt := Q } (start N vs) H) : nj P w K mg base CX0 (k + 1) f fd ps sp := by
 obtain ⟨oc, od, kV, doc, pm, an, cdv, ct, osl, rfl, lk, hcd⟩ := F.ex
 refine Bh lk hcd S len fun A outer s H vs Q E hr hsp => ?_
 obtain ⟨t, h, q⟩ := hbody cdv A outer s H vs Q E hr hsp
 exact ⟨t, h.nox, q⟩
end
end L2
set_option Elab.async false
set_option maxRecDepth 100000
set_option maxHeartbeats 4000000
namespace Tw
open PySem L2
def top (i : Nat) : Stmt := PySem.Challenge.pw_thinwood_k37_no_such_brackets.main.body.getD i (.Pass ⟨0, 0, 0, 0⟩)
abbrev oM : Stmt := top 14
theorem wH : aD ["bits"] ["bits"] (defScope oM) := ⟨rfl, rfl, rfl, by decide +kernel, rfl, by decide +kernel, by decide +kernel⟩
abbrev iV : Stmt := top 15
theorem lB : aD ["bits", "bit"] ["bits"] (defScope iV) := ⟨rfl, rfl, rfl, by decide +kernel, rfl, by decide +kernel, by decide +kernel⟩
abbrev jD : Stmt := top 16
theorem fX : aD ["bits", "block", "bit"] ["bits"] (defScope jD) := ⟨rfl, rfl, rfl, by decide +kernel, rfl, by decide +kernel, by decide +kernel⟩
abbrev pF : Stmt := top 17
theorem wD : aD ["block", "k"] ["block", "k"] (defScope pF) := ⟨rfl, rfl, rfl, by decide +kernel, rfl, by decide +kernel, by decide +kernel⟩
abbrev lR : Stmt := top 18
theorem vC : aD ["block", "upto"] ["block", "upto"] (defScope lR) := ⟨rfl, rfl, rfl, by decide +kernel, rfl, by decide +kernel, by decide +kernel⟩
abbrev mC : Stmt := top 19
theorem uO : aD ["block", "upto"] ["block", "upto"] (defScope mC) := ⟨rfl, rfl, rfl, by decide +kernel, rfl, by decide +kernel, by decide +kernel⟩
abbrev lK : Stmt := top 20
theorem fQ : aD ["block", "upto", "nets", "net", "bit"] ["block", "upto"] (defScope lK) := ⟨rfl, rfl, rfl, by decide +kernel, rfl, by decide +kernel, by decide +kernel⟩
abbrev oN : Stmt := top 21
theorem xK : aD ["block", "upto"] ["block", "upto"] (defScope oN) := ⟨rfl, rfl, rfl, by decide +kernel, rfl, by decide +kernel, by decide +kernel⟩
abbrev fu : Stmt := top 22
theorem dW : aD ["block", "start", "stop", "goal", "k", "net"] ["block", "start", "stop", "goal"] (defScope fu) := ⟨rfl, rfl, rfl, by decide +kernel, rfl, by decide +kernel, by decide +kernel⟩
abbrev gm : Stmt := top 23
theorem cD : aD ["block", "start", "stop", "goal", "found", "k", "net"] ["block", "start", "stop", "goal"] (defScope gm) := ⟨rfl, rfl, rfl, by decide +kernel, rfl, by decide +kernel, by decide +kernel⟩
abbrev lV : Stmt := top 26
theorem iy : aD ["numbers", "size", "nodes", "node"] ["numbers"] (defScope lV) := ⟨rfl, rfl, rfl, by decide +kernel, rfl, by decide +kernel, by decide +kernel⟩
abbrev lW : Stmt := top 27
theorem jO : aD ["many", "size"] ["many"] (defScope lW) := ⟨rfl, rfl, rfl, by decide +kernel, rfl, by decide +kernel, by decide +kernel⟩
abbrev jj : Stmt := top 28
theorem qR : aD ["one", "other"] ["one", "other"] (defScope jj) := ⟨rfl, rfl, rfl, by decide +kernel, rfl, by decide +kernel, by decide +kernel⟩
abbrev jJ : Stmt := top 29
theorem t8 : aD ["many", "look", "start", "stop"] ["many", "look", "start", "stop"] (defScope jJ) := ⟨rfl, rfl, rfl, by decide +kernel, rfl, by decide +kernel, by decide +kernel⟩
abbrev dX : Stmt := top 30
theorem gF : aD ["many", "look", "start", "goal", "node"] ["many", "look", "start", "goal"] (defScope dX) := ⟨rfl, rfl, rfl, by decide +kernel, rfl, by decide +kernel, by decide +kernel⟩
abbrev fO : Stmt := top 31
theorem iI : aD ["many", "look", "stop", "goal", "node"] ["many", "look", "stop", "goal"] (defScope fO) := ⟨rfl, rfl, rfl, by decide +kernel, rfl, by decide +kernel, by decide +kernel⟩
abbrev eG : Stmt := top 32
theorem cH : aD ["size", "look", "node", "goal", "side", "found"] ["size", "look", "node", "goal", "side"] (defScope eG) := ⟨rfl, rfl, rfl, by decide +kernel, rfl, by decide +kernel, by decide +kernel⟩
abbrev dZ : Stmt := top 33
theorem mG : aD ["many", "start", "stop"] ["many", "start", "stop"] (defScope dZ) := ⟨rfl, rfl, rfl, by decide +kernel, rfl, by decide +kernel, by decide +kernel⟩
abbrev rC : Stmt := top 34
theorem cN : aD ["many", "start", "stop", "size", "low", "high", "lefts", "rights"] ["many", "start", "stop"] (defScope rC) := ⟨rfl, rfl, rfl, by decide +kernel, rfl, by decide +kernel, by decide +kernel⟩
abbrev jF : Stmt := top 36
theorem mY : aD ["bits", "blocks"] ["bits"] (defScope jF) := ⟨rfl, rfl, rfl, by decide +kernel, rfl, by decide +kernel, by decide +kernel⟩
abbrev jH : Stmt := top 37
theorem jk : aD ["blocks", "ahead", "block"] ["blocks"] (defScope jH) := ⟨rfl, rfl, rfl, by decide +kernel, rfl, by decide +kernel, by decide +kernel⟩
abbrev gq : Stmt := top 38
theorem nZ : aD ["at", "most"] ["at", "most"] (defScope gq) := ⟨rfl, rfl, rfl, by decide +kernel, rfl, by decide +kernel, by decide +kernel⟩
abbrev pQ : Stmt := top 39
theorem xg : aD ["tables", "look", "at"] ["tables", "look", "at"] (defScope pQ) := ⟨rfl, rfl, rfl, by decide +kernel, rfl, by decide +kernel, by decide +kernel⟩
abbrev lH : Stmt := top 40
theorem fW : aD ["tables", "look", "at", "many", "ahead", "number", "within"] ["tables", "look", "at"] (defScope lH) := ⟨rfl, rfl, rfl, by decide +kernel, rfl, by decide +kernel, by decide +kernel⟩
abbrev my : Stmt := top 42
theorem fj : aD ["bits", "level", "at", "bit"] ["bits"] (defScope my) := ⟨rfl, rfl, rfl, by decide +kernel, rfl, by decide +kernel, by decide +kernel⟩
abbrev dF : Stmt := top 43
theorem j4 : aD ["bits"] ["bits"] (defScope dF) := ⟨rfl, rfl, rfl, by decide +kernel, rfl, by decide +kernel, by decide +kernel⟩
abbrev eO : Stmt := top 44
theorem bZ : aD ["bits", "row", "tables", "blocks", "lows"] ["bits"] (defScope eO) := ⟨rfl, rfl, rfl, by decide +kernel, rfl, by decide +kernel, by decide +kernel⟩
abbrev oY : Stmt := top 45
theorem xm : aD ["tables", "number", "block"] ["tables", "number", "block"] (defScope oY) := ⟨rfl, rfl, rfl, by decide +kernel, rfl, by decide +kernel, by decide +kernel⟩
abbrev mO : Stmt := top 46
theorem uE : aD ["tables", "number"] ["tables", "number"] (defScope mO) := ⟨rfl, rfl, rfl, by decide +kernel, rfl, by decide +kernel, by decide +kernel⟩
abbrev fH : Stmt := top 47
theorem nH : aD ["number", "at"] ["number", "at"] (defScope fH) := ⟨rfl, rfl, rfl, by decide +kernel, rfl, by decide +kernel, by decide +kernel⟩
abbrev iz : Stmt := top 48
theorem pR : aD ["number", "upto"] ["number", "upto"] (defScope iz) := ⟨rfl, rfl, rfl, by decide +kernel, rfl, by decide +kernel, by decide +kernel⟩
abbrev gk : Stmt := top 49
theorem pM : aD ["tables"] ["tables"] (defScope gk) := ⟨rfl, rfl, rfl, by decide +kernel, rfl, by decide +kernel, by decide +kernel⟩
abbrev bR : Stmt := top 50
theorem j5 : aD ["tables", "nodes"] ["tables"] (defScope bR) := ⟨rfl, rfl, rfl, by decide +kernel, rfl, by decide +kernel, by decide +kernel⟩
abbrev pB : Stmt := top 51
theorem wI : aD ["tables", "look", "at"] ["tables", "look", "at"] (defScope pB) := ⟨rfl, rfl, rfl, by decide +kernel, rfl, by decide +kernel, by decide +kernel⟩
abbrev oA : Stmt := top 52
theorem jm : aD ["tables", "look", "at", "upto", "first", "last", "lows"] ["tables", "look", "at", "upto"] (defScope oA) := ⟨rfl, rfl, rfl, by decide +kernel, rfl, by decide +kernel, by decide +kernel⟩
abbrev dO : Stmt := top 53
theorem gB : aD ["tables", "look", "number", "at", "upto", "nets"] ["tables", "look", "number", "at", "upto"] (defScope dO) := ⟨rfl, rfl, rfl, by decide +kernel, rfl, by decide +kernel, by decide +kernel⟩
abbrev ik : Stmt := top 54
theorem dH : aD ["tables", "look", "at", "goal", "number", "found", "further"] ["tables", "look", "at", "goal"] (defScope ik) := ⟨rfl, rfl, rfl, by decide +kernel, rfl, by decide +kernel, by decide +kernel⟩
abbrev fV : Stmt := top 55
theorem dR : aD ["tables", "look", "number", "at", "goal", "start", "stop"] ["tables", "look", "number", "at", "goal"] (defScope fV) := ⟨rfl, rfl, rfl, by decide +kernel, rfl, by decide +kernel, by decide +kernel⟩
abbrev fK : Stmt := top 56
theorem nJ : aD ["number", "within"] ["number", "within"] (defScope fK) := ⟨rfl, rfl, rfl, by decide +kernel, rfl, by decide +kernel, by decide +kernel⟩
abbrev ji : Stmt := top 57
theorem kZ : aD ["tables", "look", "at", "goal", "found"] ["tables", "look", "at", "goal"] (defScope ji) := ⟨rfl, rfl, rfl, by decide +kernel, rfl, by decide +kernel, by decide +kernel⟩
abbrev eF : Stmt := top 58
theorem cF : aD ["tables", "look", "upto", "goal", "number", "found", "further"] ["tables", "look", "upto", "goal"] (defScope eF) := ⟨rfl, rfl, rfl, by decide +kernel, rfl, by decide +kernel, by decide +kernel⟩
abbrev gn : Stmt := top 59
theorem iY : aD ["tables", "look", "number", "upto", "goal", "stop"] ["tables", "look", "number", "upto", "goal"] (defScope gn) := ⟨rfl, rfl, rfl, by decide +kernel, rfl, by decide +kernel, by decide +kernel⟩
abbrev eE : Stmt := top 60
theorem mF : aD ["tables", "look", "at", "bit"] ["tables", "look", "at", "bit"] (defScope eE) := ⟨rfl, rfl, rfl, by decide +kernel, rfl, by decide +kernel, by decide +kernel⟩
abbrev mD : Stmt := top 61
theorem ux : aD ["tables", "look", "at"] ["tables", "look", "at"] (defScope mD) := ⟨rfl, rfl, rfl, by decide +kernel, rfl, by decide +kernel, by decide +kernel⟩
abbrev lN : Stmt := top 62
theorem u5 : aD ["tables", "look", "at"] ["tables", "look", "at"] (defScope lN) := ⟨rfl, rfl, rfl, by decide +kernel, rfl, by decide +kernel, by decide +kernel⟩
abbrev gf : Stmt := top 63
theorem oW : aD ["tables", "look", "at", "pairs"] ["tables", "look", "at", "pairs"] (defScope gf) := ⟨rfl, rfl, rfl, by decide +kernel, rfl, by decide +kernel, by decide +kernel⟩
abbrev gh : Stmt := top 65
theorem n6 : aD ["_law_script", "_law_k"] ["_law_script", "_law_k"] (defScope gh) := ⟨rfl, rfl, rfl, by decide +kernel, rfl, by decide +kernel, by decide +kernel⟩
abbrev eH : Stmt := top 66
theorem aQ : aD ["_law_script", "_law_bits", "_law_high", "_law_cell", "_law_rest", "_law_ups", "_law_flat", "_law_downs"] ["_law_script"] (defScope eH) := ⟨rfl, rfl, rfl, by decide +kernel, rfl, by decide +kernel, by decide +kernel⟩
abbrev bF : Stmt := top 67
theorem jf : aD ["_law_blocks", "_law_look"] ["_law_blocks"] (defScope bF) := ⟨rfl, rfl, rfl, by decide +kernel, rfl, by decide +kernel, by decide +kernel⟩
abbrev jE : Stmt := top 68
theorem tE : aD ["_law_way", "_law_tables", "_law_look_here", "_law_at", "_law_more"] ["_law_way", "_law_tables", "_law_look_here", "_law_at", "_law_more"] (defScope jE) := ⟨rfl, rfl, rfl, by decide +kernel, rfl, by decide +kernel, by decide +kernel⟩
abbrev iR : Stmt := top 69
theorem kJ : aD ["_law_e", "_law_kinds_here"] ["_law_e"] (defScope iR) := ⟨rfl, rfl, rfl, by decide +kernel, rfl, by decide +kernel, by decide +kernel⟩
abbrev gw : Stmt := top 70
theorem cY : aD ["_law_way", "_law_tables", "_law_look_here", "_law_at", "_law_more", "_law_kind", "_law_kept", "_law_e"] ["_law_way", "_law_tables", "_law_look_here", "_law_at", "_law_more", "_law_kind"] (defScope gw) := ⟨rfl, rfl, rfl, by decide +kernel, rfl, by decide +kernel, by decide +kernel⟩
abbrev fJ : Stmt := top 71
theorem cu : aD ["_law_bits", "_law_kind", "_law_handed", "_law_kept", "_law_e"] ["_law_bits", "_law_kind"] (defScope fJ) := ⟨rfl, rfl, rfl, by decide +kernel, rfl, by decide +kernel, by decide +kernel⟩
abbrev cB : Stmt := top 72
theorem aU : aD ["_law_tables", "_law_look_here", "_law_far", "_law_goal", "_law_many", "_law_way", "_law_at", "_law_spot", "_law_upto"] ["_law_tables", "_law_look_here", "_law_far", "_law_goal"] (defScope cB) := ⟨rfl, rfl, rfl, by decide +kernel, rfl, by decide +kernel, by decide +kernel⟩
abbrev cT : Stmt := top 73
theorem bx : aD ["_law_bits", "_law_script", "_law_turned", "_law_at", "_law_cell", "_law_odd", "_law_spot", "_law_long"] ["_law_bits", "_law_script"] (defScope cT) := ⟨rfl, rfl, rfl, by decide +kernel, rfl, by decide +kernel, by decide +kernel⟩
abbrev fD : Stmt := top 74
theorem cP : aD ["_law_tables", "_law_blocks", "_law_look_here"] [] (defScope fD) := ⟨rfl, rfl, rfl, by decide +kernel, rfl, by decide +kernel, by decide +kernel⟩
abbrev yw : Stmt := top 75
theorem gb : aD ["_law_script", "_law_bits", "_law_tables", "_law_blocks", "_law_look_here", "_law_far", "_law_cell", "_law_at", "_law_way", "_law_last"] ["_law_script"] (defScope yw) := ⟨rfl, rfl, rfl, by decide +kernel, rfl, by decide +kernel, by decide +kernel⟩
abbrev bu : Stmt := (defBody bR).getD 1 (.Pass ⟨0, 0, 0, 0⟩)
abbrev aN : oG := lamOf bu "heap_look.<locals>.<lambda>" ["node"] ["nodes"]
theorem lD : pD ["node", "nodes"] aN := ⟨rfl, rfl, rfl, by decide +kernel, rfl, by decide +kernel, by decide +kernel, by decide +kernel, by decide +kernel⟩
theorem rE : yN ["tables", "nodes"] "heap_look" (defScope bR) aN [1] (fun L => [L + 1]) := ⟨fun _ _ _ => rfl, fun _ _ _ => rfl, fun _ _ _ => rfl, fun L => by simp, fun _ => rfl, fun L f c j a h => match j, h with | 0, h => ⟨"nodes", 1, by cases h; rfl, by decide +kernel, rfl, rfl⟩ | j + 1, h => absurd h (by simp)⟩
abbrev bI : Stmt := (defBody bF).getD 0 (.Pass ⟨0, 0, 0, 0⟩)
abbrev bV : pC := Bp bI "_law_look_of.<locals>._law_look" ["_law_number"] ["_law_blocks"]
theorem tK : pK ["_law_number", "_law_blocks"] bV := ⟨rfl, rfl, rfl, by decide +kernel, rfl, by decide +kernel, by decide +kernel, by decide +kernel, by decide +kernel⟩
theorem o9 : Az ["_law_blocks", "_law_look"] "_law_look_of" (defScope bF) bV 1 [0] (fun L => [L + 1]) := ⟨jf.nd, rfl, by decide +kernel, fun _ _ _ => rfl, fun _ _ _ => rfl, rfl, rfl, fun _ _ _ => rfl, fun L => by simp, fun _ => rfl, fun L f c j a h => match j, h with | 0, h => ⟨"_law_blocks", 0, by cases h; rfl, by decide +kernel, rfl, rfl, by decide⟩ | j + 1, h => absurd h (by simp), by decide, by decide⟩
structure FI (K : PySem.W.Frag) (n : Str) (st : Stmt) (f : Addr) (fd : FuncData) : Prop where
 a : PySem.W.nsIn K mainGlobals n = some (some (.ref f))
 F : Fun K n n st f fd
theorem Bm {α : Type} {C : List α → Prop} {us : List α} (hl : us.length = 0) (h : C []) : C us := match us, hl with | [], _ => h
theorem df0 {K : PySem.W.Frag} {h : Heap} {mg : Str → Option Value} {n : Str} {st : Stmt} {f : Addr} {fd : FuncData} (X : K.In h) (G : h.Ns mainGlobals mg) (d : FI K n st f fd) (b : ∀ (kV doc pm : Value) (an : Option Addr) (cdv ct : Value) , bindArgs (PySem.W.fnOf n n (defArgs st) (defBody st) (defScope st) .none kV doc pm an cdv ct) ⟨[], []⟩ = pure (List.zip [] [])) : Df K mg n st [] f fd := ⟨d.F, d.F.binds (ps := []) fun kV doc pm an cdv ct us hl => Bm (C := fun us => bindArgs _ ⟨us, []⟩ = pure (List.zip ([] : List Str) us)) hl (b kV doc pm an cdv ct), PySem.W.mg_of X G d.a⟩
theorem yV {α : Type} {C : List α → Prop} {us : List α} (hl : us.length = 1) (h : ∀ x0, C [x0]) : C us := match us, hl with | [_], _ => h _
theorem df1 {K : PySem.W.Frag} {h : Heap} {mg : Str → Option Value} {n p0 : Str} {st : Stmt} {f : Addr} {fd : FuncData} (X : K.In h) (G : h.Ns mainGlobals mg) (d : FI K n st f fd) (b : ∀ (kV doc pm : Value) (an : Option Addr) (cdv ct : Value) (x0 : Value), bindArgs (PySem.W.fnOf n n (defArgs st) (defBody st) (defScope st) .none kV doc pm an cdv ct) ⟨[x0], []⟩ = pure (List.zip [p0] [x0])) : Df K mg n st [p0] f fd := ⟨d.F, d.F.binds (ps := [p0]) fun kV doc pm an cdv ct us hl => yV (C := fun us => bindArgs _ ⟨us, []⟩ = pure (List.zip ([p0] : List Str) us)) hl (b kV doc pm an cdv ct), PySem.W.mg_of X G d.a⟩
theorem Ce {α : Type} {C : List α → Prop} {us : List α} (hl : us.length = 2) (h : ∀ x0 x1, C [x0, x1]) : C us := match us, hl with | [_, _], _ => h _ _
theorem df2 {K : PySem.W.Frag} {h : Heap} {mg : Str → Option Value} {n p0 p1 : Str} {st : Stmt} {f : Addr} {fd : FuncData} (X : K.In h) (G : h.Ns mainGlobals mg) (d : FI K n st f fd) (b : ∀ (kV doc pm : Value) (an : Option Addr) (cdv ct : Value) (x0 x1 : Value), bindArgs (PySem.W.fnOf n n (defArgs st) (defBody st) (defScope st) .none kV doc pm an cdv ct) ⟨[x0, x1], []⟩ = pure (List.zip [p0, p1] [x0, x1])) : Df K mg n st [p0, p1] f fd := ⟨d.F, d.F.binds (ps := [p0, p1]) fun kV doc pm an cdv ct us hl => Ce (C := fun us => bindArgs _ ⟨us, []⟩ = pure (List.zip ([p0, p1] : List Str) us)) hl (b kV doc pm an cdv ct), PySem.W.mg_of X G d.a⟩
theorem Bw {α : Type} {C : List α → Prop} {us : List α} (hl : us.length = 3) (h : ∀ x0 x1 x2, C [x0, x1, x2]) : C us := match us, hl with | [_, _, _], _ => h _ _ _
theorem df3 {K : PySem.W.Frag} {h : Heap} {mg : Str → Option Value} {n p0 p1 p2 : Str} {st : Stmt} {f : Addr} {fd : FuncData} (X : K.In h) (G : h.Ns mainGlobals mg) (d : FI K n st f fd) (b : ∀ (kV doc pm : Value) (an : Option Addr) (cdv ct : Value) (x0 x1 x2 : Value), bindArgs (PySem.W.fnOf n n (defArgs st) (defBody st) (defScope st) .none kV doc pm an cdv ct) ⟨[x0, x1, x2], []⟩ = pure (List.zip [p0, p1, p2] [x0, x1, x2])) : Df K mg n st [p0, p1, p2] f fd := ⟨d.F, d.F.binds (ps := [p0, p1, p2]) fun kV doc pm an cdv ct us hl => Bw (C := fun us => bindArgs _ ⟨us, []⟩ = pure (List.zip ([p0, p1, p2] : List Str) us)) hl (b kV doc pm an cdv ct), PySem.W.mg_of X G d.a⟩
theorem Ck {α : Type} {C : List α → Prop} {us : List α} (hl : us.length = 4) (h : ∀ x0 x1 x2 x3, C [x0, x1, x2, x3]) : C us := match us, hl with | [_, _, _, _], _ => h _ _ _ _
theorem df4 {K : PySem.W.Frag} {h : Heap} {mg : Str → Option Value} {n p0 p1 p2 p3 : Str} {st : Stmt} {f : Addr} {fd : FuncData} (X : K.In h) (G : h.Ns mainGlobals mg) (d : FI K n st f fd) (b : ∀ (kV doc pm : Value) (an : Option Addr) (cdv ct : Value) (x0 x1 x2 x3 : Value), bindArgs (PySem.W.fnOf n n (defArgs st) (defBody st) (defScope st) .none kV doc pm an cdv ct) ⟨[x0, x1, x2, x3], []⟩ = pure (List.zip [p0, p1, p2, p3] [x0, x1, x2, x3])) : Df K mg n st [p0, p1, p2, p3] f fd := ⟨d.F, d.F.binds (ps := [p0, p1, p2, p3]) fun kV doc pm an cdv ct us hl => Ck (C := fun us => bindArgs _ ⟨us, []⟩ = pure (List.zip ([p0, p1, p2, p3] : List Str) us)) hl (b kV doc pm an cdv ct), PySem.W.mg_of X G d.a⟩
theorem Bo {α : Type} {C : List α → Prop} {us : List α} (hl : us.length = 5) (h : ∀ x0 x1 x2 x3 x4, C [x0, x1, x2, x3, x4]) : C us := match us, hl with | [_, _, _, _, _], _ => h _ _ _ _ _
theorem df5 {K : PySem.W.Frag} {h : Heap} {mg : Str → Option Value} {n p0 p1 p2 p3 p4 : Str} {st : Stmt} {f : Addr} {fd : FuncData} (X : K.In h) (G : h.Ns mainGlobals mg) (d : FI K n st f fd) (b : ∀ (kV doc pm : Value) (an : Option Addr) (cdv ct : Value) (x0 x1 x2 x3 x4 : Value), bindArgs (PySem.W.fnOf n n (defArgs st) (defBody st) (defScope st) .none kV doc pm an cdv ct) ⟨[x0, x1, x2, x3, x4], []⟩ = pure (List.zip [p0, p1, p2, p3, p4] [x0, x1, x2, x3, x4])) : Df K mg n st [p0, p1, p2, p3, p4] f fd := ⟨d.F, d.F.binds (ps := [p0, p1, p2, p3, p4]) fun kV doc pm an cdv ct us hl => Bo (C := fun us => bindArgs _ ⟨us, []⟩ = pure (List.zip ([p0, p1, p2, p3, p4] : List Str) us)) hl (b kV doc pm an cdv ct), PySem.W.mg_of X G d.a⟩
theorem Cp {α : Type} {C : List α → Prop} {us : List α} (hl : us.length = 6) (h : ∀ x0 x1 x2 x3 x4 x5, C [x0, x1, x2, x3, x4, x5]) : C us := match us, hl with | [_, _, _, _, _, _], _ => h _ _ _ _ _ _
theorem df6 {K : PySem.W.Frag} {h : Heap} {mg : Str → Option Value} {n p0 p1 p2 p3 p4 p5 : Str} {st : Stmt} {f : Addr} {fd : FuncData} (X : K.In h) (G : h.Ns mainGlobals mg) (d : FI K n st f fd) (b : ∀ (kV doc pm : Value) (an : Option Addr) (cdv ct : Value) (x0 x1 x2 x3 x4 x5 : Value), bindArgs (PySem.W.fnOf n n (defArgs st) (defBody st) (defScope st) .none kV doc pm an cdv ct) ⟨[x0, x1, x2, x3, x4, x5], []⟩ = pure (List.zip [p0, p1, p2, p3, p4, p5] [x0, x1, x2, x3, x4, x5])) : Df K mg n st [p0, p1, p2, p3, p4, p5] f fd := ⟨d.F, d.F.binds (ps := [p0, p1, p2, p3, p4, p5]) fun kV doc pm an cdv ct us hl => Cp (C := fun us => bindArgs _ ⟨us, []⟩ = pure (List.zip ([p0, p1, p2, p3, p4, p5] : List Str) us)) hl (b kV doc pm an cdv ct), PySem.W.mg_of X G d.a⟩
set_option genInjectivity false in
set_option genSizeOf false in
structure Ad where
 tc_heap_look : Addr
 tP_heap_look : Addr
 tc_law_look_of : Addr
 tP_law_look_of : Addr
 f_packed : Addr
 fd_packed : FuncData
 f_check_row : Addr
 fd_check_row : FuncData
 f_block_of : Addr
 fd_block_of : FuncData
 f_bit_in : Addr
 fd_bit_in : FuncData
 f_bits_of : Addr
 fd_bits_of : FuncData
 f_ones_in : Addr
 fd_ones_in : FuncData
 f_nets_of : Addr
 fd_nets_of : FuncData
 f_low_in : Addr
 fd_low_in : FuncData
 f_first_low_in : Addr
 fd_first_low_in : FuncData
 f_last_low_in : Addr
 fd_last_low_in : FuncData
 f_heap_of : Addr
 fd_heap_of : FuncData
 f_size_of : Addr
 fd_size_of : FuncData
 f_lesser_of : Addr
 fd_lesser_of : FuncData
 f_least_of : Addr
 fd_least_of : FuncData
 f_first_at_most : Addr
 fd_first_at_most : FuncData
 f_last_at_most : Addr
 fd_last_at_most : FuncData
 f_place_beneath : Addr
 fd_place_beneath : FuncData
 f_check_stretch : Addr
 fd_check_stretch : FuncData
 f_cover : Addr
 fd_cover : FuncData
 f_kept_row : Addr
 fd_kept_row : FuncData
 f_ahead_of : Addr
 fd_ahead_of : FuncData
 f_check_place : Addr
 fd_check_place : FuncData
 f_bit_at : Addr
 fd_bit_at : FuncData
 f_ones_at : Addr
 fd_ones_at : FuncData
 f_is_tree : Addr
 fd_is_tree : FuncData
 f_check_brackets : Addr
 fd_check_brackets : FuncData
 f_kept_brackets : Addr
 fd_kept_brackets : FuncData
 f_low_of : Addr
 fd_low_of : FuncData
 f_base_of : Addr
 fd_base_of : FuncData
 f_start_within : Addr
 fd_start_within : FuncData
 f_end_within : Addr
 fd_end_within : FuncData
 f_block_count : Addr
 fd_block_count : FuncData
 f_heap_look : Addr
 fd_heap_look : FuncData
 f_height : Addr
 fd_height : FuncData
 f_lowest : Addr
 fd_lowest : FuncData
 f_lowest_within : Addr
 fd_lowest_within : FuncData
 f_low_behind : Addr
 fd_low_behind : FuncData
 f_first_within : Addr
 fd_first_within : FuncData
 f_place_of_bit : Addr
 fd_place_of_bit : FuncData
 f_low_ahead : Addr
 fd_low_ahead : FuncData
 f_last_low_upto : Addr
 fd_last_low_upto : FuncData
 f_last_within : Addr
 fd_last_within : FuncData
 f_check_bracket : Addr
 fd_check_bracket : FuncData
 f_closing : Addr
 fd_closing : FuncData
 f_opening : Addr
 fd_opening : FuncData
 f_further_out : Addr
 fd_further_out : FuncData
 f_law_cell_at : Addr
 fd_law_cell_at : FuncData
 f_law_tree_bits : Addr
 fd_law_tree_bits : FuncData
 f_law_look_of : Addr
 fd_law_look_of : FuncData
 f_law_told : Addr
 fd_law_told : FuncData
 f_law_kinds : Addr
 fd_law_kinds : FuncData
 f_law_refused : Addr
 fd_law_refused : FuncData
 f_law_not_kept : Addr
 fd_law_not_kept : FuncData
 f_law_places_refused : Addr
 fd_law_places_refused : FuncData
 f_law_rows_refused : Addr
 fd_law_rows_refused : FuncData
 f_law_greatest : Addr
 fd_law_greatest : FuncData
 f_law : Addr
 fd_law : FuncData
 t_BLOCK_BITS : Tok
 t_MOST_BITS : Tok
 t_MOST_NUMBERS : Tok
 c_NoBit : Addr
 c_NoNode : Addr
 c_NoOctets : Addr
 c_NoPlace : Addr
 c_NoSign : Addr
 c_NoTree : Addr
 c_NoWord : Addr
 c_TooMany : Addr
 c_Twice : Addr
 c_WoodError : Addr
structure Tx (K : PySem.W.Frag) (mg : Str → Option Value) (a : Ad) : Prop where
 D_packed : Df K mg "packed" oM ["bits"] a.f_packed a.fd_packed
 D_check_row : Df K mg "check_row" iV ["bits"] a.f_check_row a.fd_check_row
 D_block_of : Df K mg "block_of" jD ["bits"] a.f_block_of a.fd_block_of
 D_bit_in : Df K mg "bit_in" pF ["block", "k"] a.f_bit_in a.fd_bit_in
 D_bits_of : Df K mg "bits_of" lR ["block", "upto"] a.f_bits_of a.fd_bits_of
 D_ones_in : Df K mg "ones_in" mC ["block", "upto"] a.f_ones_in a.fd_ones_in
 D_nets_of : Df K mg "nets_of" lK ["block", "upto"] a.f_nets_of a.fd_nets_of
 D_low_in : Df K mg "low_in" oN ["block", "upto"] a.f_low_in a.fd_low_in
 D_first_low_in : Df K mg "first_low_in" fu ["block", "start", "stop", "goal"] a.f_first_low_in a.fd_first_low_in
 D_last_low_in : Df K mg "last_low_in" gm ["block", "start", "stop", "goal"] a.f_last_low_in a.fd_last_low_in
 D_heap_of : Df K mg "heap_of" lV ["numbers"] a.f_heap_of a.fd_heap_of
 D_size_of : Df K mg "size_of" lW ["many"] a.f_size_of a.fd_size_of
 D_lesser_of : Df K mg "lesser_of" jj ["one", "other"] a.f_lesser_of a.fd_lesser_of
 D_least_of : Df K mg "least_of" jJ ["many", "look", "start", "stop"] a.f_least_of a.fd_least_of
 D_first_at_most : Df K mg "first_at_most" dX ["many", "look", "start", "goal"] a.f_first_at_most a.fd_first_at_most
 D_last_at_most : Df K mg "last_at_most" fO ["many", "look", "stop", "goal"] a.f_last_at_most a.fd_last_at_most
 D_place_beneath : Df K mg "place_beneath" eG ["size", "look", "node", "goal", "side"] a.f_place_beneath a.fd_place_beneath
 D_check_stretch : Df K mg "check_stretch" dZ ["many", "start", "stop"] a.f_check_stretch a.fd_check_stretch
 D_cover : Df K mg "cover" rC ["many", "start", "stop"] a.f_cover a.fd_cover
 D_kept_row : Df K mg "kept_row" jF ["bits"] a.f_kept_row a.fd_kept_row
 D_ahead_of : Df K mg "ahead_of" jH ["blocks"] a.f_ahead_of a.fd_ahead_of
 D_check_place : Df K mg "check_place" gq ["at", "most"] a.f_check_place a.fd_check_place
 D_bit_at : Df K mg "bit_at" pQ ["tables", "look", "at"] a.f_bit_at a.fd_bit_at
 D_ones_at : Df K mg "ones_at" lH ["tables", "look", "at"] a.f_ones_at a.fd_ones_at
 D_is_tree : Df K mg "is_tree" my ["bits"] a.f_is_tree a.fd_is_tree
 D_check_brackets : Df K mg "check_brackets" dF ["bits"] a.f_check_brackets a.fd_check_brackets
 D_kept_brackets : Df K mg "kept_brackets" eO ["bits"] a.f_kept_brackets a.fd_kept_brackets
 D_low_of : Df K mg "low_of" oY ["tables", "number", "block"] a.f_low_of a.fd_low_of
 D_base_of : Df K mg "base_of" mO ["tables", "number"] a.f_base_of a.fd_base_of
 D_start_within : Df K mg "start_within" fH ["number", "at"] a.f_start_within a.fd_start_within
 D_end_within : Df K mg "end_within" iz ["number", "upto"] a.f_end_within a.fd_end_within
 D_block_count : Df K mg "block_count" gk ["tables"] a.f_block_count a.fd_block_count
 D_heap_look : Df K mg "heap_look" bR ["tables"] a.f_heap_look a.fd_heap_look
 D_height : Df K mg "height" pB ["tables", "look", "at"] a.f_height a.fd_height
 D_lowest : Df K mg "lowest" oA ["tables", "look", "at", "upto"] a.f_lowest a.fd_lowest
 D_lowest_within : Df K mg "lowest_within" dO ["tables", "look", "number", "at", "upto"] a.f_lowest_within a.fd_lowest_within
 D_low_behind : Df K mg "low_behind" ik ["tables", "look", "at", "goal"] a.f_low_behind a.fd_low_behind
 D_first_within : Df K mg "first_within" fV ["tables", "look", "number", "at", "goal"] a.f_first_within a.fd_first_within
 D_place_of_bit : Df K mg "place_of_bit" fK ["number", "within"] a.f_place_of_bit a.fd_place_of_bit
 D_low_ahead : Df K mg "low_ahead" ji ["tables", "look", "at", "goal"] a.f_low_ahead a.fd_low_ahead
 D_last_low_upto : Df K mg "last_low_upto" eF ["tables", "look", "upto", "goal"] a.f_last_low_upto a.fd_last_low_upto
 D_last_within : Df K mg "last_within" gn ["tables", "look", "number", "upto", "goal"] a.f_last_within a.fd_last_within
 D_check_bracket : Df K mg "check_bracket" eE ["tables", "look", "at", "bit"] a.f_check_bracket a.fd_check_bracket
 D_closing : Df K mg "closing" mD ["tables", "look", "at"] a.f_closing a.fd_closing
 D_opening : Df K mg "opening" lN ["tables", "look", "at"] a.f_opening a.fd_opening
 D_further_out : Df K mg "further_out" gf ["tables", "look", "at", "pairs"] a.f_further_out a.fd_further_out
 D_law_cell_at : Df K mg "_law_cell_at" gh ["_law_script", "_law_k"] a.f_law_cell_at a.fd_law_cell_at
 D_law_tree_bits : Df K mg "_law_tree_bits" eH ["_law_script"] a.f_law_tree_bits a.fd_law_tree_bits
 D_law_look_of : Df K mg "_law_look_of" bF ["_law_blocks"] a.f_law_look_of a.fd_law_look_of
 D_law_told : Df K mg "_law_told" jE ["_law_way", "_law_tables", "_law_look_here", "_law_at", "_law_more"] a.f_law_told a.fd_law_told
 D_law_kinds : Df K mg "_law_kinds" iR ["_law_e"] a.f_law_kinds a.fd_law_kinds
 D_law_refused : Df K mg "_law_refused" gw ["_law_way", "_law_tables", "_law_look_here", "_law_at", "_law_more", "_law_kind"] a.f_law_refused a.fd_law_refused
 D_law_not_kept : Df K mg "_law_not_kept" fJ ["_law_bits", "_law_kind"] a.f_law_not_kept a.fd_law_not_kept
 D_law_places_refused : Df K mg "_law_places_refused" cB ["_law_tables", "_law_look_here", "_law_far", "_law_goal"] a.f_law_places_refused a.fd_law_places_refused
 D_law_rows_refused : Df K mg "_law_rows_refused" cT ["_law_bits", "_law_script"] a.f_law_rows_refused a.fd_law_rows_refused
 D_law_greatest : Df K mg "_law_greatest" fD [] a.f_law_greatest a.fd_law_greatest
 D_law : Df K mg "law" yw ["_law_script"] a.f_law a.fd_law
 b_ValueError : mg "ValueError" = none
 b_enumerate : mg "enumerate" = none
 b_isinstance : mg "isinstance" = none
 b_len : mg "len" = none
 b_list : mg "list" = none
 b_max : mg "max" = none
 b_min : mg "min" = none
 b_range : mg "range" = none
 b_reversed : mg "reversed" = none
 b_sum : mg "sum" = none
 b_tuple : mg "tuple" = none
 c_BLOCK_BITS : mg "BLOCK_BITS" = some (.int 32 a.t_BLOCK_BITS)
 c_MOST_BITS : mg "MOST_BITS" = some (.int 4096 a.t_MOST_BITS)
 c_MOST_NUMBERS : mg "MOST_NUMBERS" = some (.int 4096 a.t_MOST_NUMBERS)
 g_NoBit : mg "NoBit" = some (.ref a.c_NoBit)
 g_NoNode : mg "NoNode" = some (.ref a.c_NoNode)
 g_NoOctets : mg "NoOctets" = some (.ref a.c_NoOctets)
 g_NoPlace : mg "NoPlace" = some (.ref a.c_NoPlace)
 g_NoSign : mg "NoSign" = some (.ref a.c_NoSign)
 g_NoTree : mg "NoTree" = some (.ref a.c_NoTree)
 g_NoWord : mg "NoWord" = some (.ref a.c_NoWord)
 g_TooMany : mg "TooMany" = some (.ref a.c_TooMany)
 g_Twice : mg "Twice" = some (.ref a.c_Twice)
 g_WoodError : mg "WoodError" = some (.ref a.c_WoodError)
 x_NoBit : Exc K mg "NoBit" a.c_NoBit
 k_NoBit : kE K a.c_NoBit
 i_NoBit_NoBit : PySem.W.kitOne K (.ref a.c_NoBit) (.ref a.c_NoBit) = some true
 i_NoBit_NoNode : PySem.W.kitOne K (.ref a.c_NoBit) (.ref a.c_NoNode) = some false
 i_NoBit_NoOctets : PySem.W.kitOne K (.ref a.c_NoBit) (.ref a.c_NoOctets) = some false
 i_NoBit_NoPlace : PySem.W.kitOne K (.ref a.c_NoBit) (.ref a.c_NoPlace) = some false
 i_NoBit_NoSign : PySem.W.kitOne K (.ref a.c_NoBit) (.ref a.c_NoSign) = some false
 i_NoBit_NoTree : PySem.W.kitOne K (.ref a.c_NoBit) (.ref a.c_NoTree) = some false
 i_NoBit_NoWord : PySem.W.kitOne K (.ref a.c_NoBit) (.ref a.c_NoWord) = some false
 i_NoBit_TooMany : PySem.W.kitOne K (.ref a.c_NoBit) (.ref a.c_TooMany) = some false
 i_NoBit_Twice : PySem.W.kitOne K (.ref a.c_NoBit) (.ref a.c_Twice) = some false
 i_NoBit_WoodError : PySem.W.kitOne K (.ref a.c_NoBit) (.ref a.c_WoodError) = some true
 i_NoBit_ValueError : PySem.W.kitOne K (.ref a.c_NoBit) (.type "ValueError") = some true
 x_NoNode : Exc K mg "NoNode" a.c_NoNode
 k_NoNode : kE K a.c_NoNode
 i_NoNode_NoBit : PySem.W.kitOne K (.ref a.c_NoNode) (.ref a.c_NoBit) = some false
 i_NoNode_NoNode : PySem.W.kitOne K (.ref a.c_NoNode) (.ref a.c_NoNode) = some true
 i_NoNode_NoOctets : PySem.W.kitOne K (.ref a.c_NoNode) (.ref a.c_NoOctets) = some false
 i_NoNode_NoPlace : PySem.W.kitOne K (.ref a.c_NoNode) (.ref a.c_NoPlace) = some false
 i_NoNode_NoSign : PySem.W.kitOne K (.ref a.c_NoNode) (.ref a.c_NoSign) = some false
 i_NoNode_NoTree : PySem.W.kitOne K (.ref a.c_NoNode) (.ref a.c_NoTree) = some false
 i_NoNode_NoWord : PySem.W.kitOne K (.ref a.c_NoNode) (.ref a.c_NoWord) = some false
 i_NoNode_TooMany : PySem.W.kitOne K (.ref a.c_NoNode) (.ref a.c_TooMany) = some false
 i_NoNode_Twice : PySem.W.kitOne K (.ref a.c_NoNode) (.ref a.c_Twice) = some false
 i_NoNode_WoodError : PySem.W.kitOne K (.ref a.c_NoNode) (.ref a.c_WoodError) = some true
 i_NoNode_ValueError : PySem.W.kitOne K (.ref a.c_NoNode) (.type "ValueError") = some true
 x_NoPlace : Exc K mg "NoPlace" a.c_NoPlace
 k_NoPlace : kE K a.c_NoPlace
 i_NoPlace_NoBit : PySem.W.kitOne K (.ref a.c_NoPlace) (.ref a.c_NoBit) = some false
 i_NoPlace_NoNode : PySem.W.kitOne K (.ref a.c_NoPlace) (.ref a.c_NoNode) = some false
 i_NoPlace_NoOctets : PySem.W.kitOne K (.ref a.c_NoPlace) (.ref a.c_NoOctets) = some false
 i_NoPlace_NoPlace : PySem.W.kitOne K (.ref a.c_NoPlace) (.ref a.c_NoPlace) = some true
 i_NoPlace_NoSign : PySem.W.kitOne K (.ref a.c_NoPlace) (.ref a.c_NoSign) = some false
 i_NoPlace_NoTree : PySem.W.kitOne K (.ref a.c_NoPlace) (.ref a.c_NoTree) = some false
 i_NoPlace_NoWord : PySem.W.kitOne K (.ref a.c_NoPlace) (.ref a.c_NoWord) = some false
 i_NoPlace_TooMany : PySem.W.kitOne K (.ref a.c_NoPlace) (.ref a.c_TooMany) = some false
 i_NoPlace_Twice : PySem.W.kitOne K (.ref a.c_NoPlace) (.ref a.c_Twice) = some false
 i_NoPlace_WoodError : PySem.W.kitOne K (.ref a.c_NoPlace) (.ref a.c_WoodError) = some true
 i_NoPlace_ValueError : PySem.W.kitOne K (.ref a.c_NoPlace) (.type "ValueError") = some true
 x_NoTree : Exc K mg "NoTree" a.c_NoTree
 k_NoTree : kE K a.c_NoTree
 i_NoTree_NoBit : PySem.W.kitOne K (.ref a.c_NoTree) (.ref a.c_NoBit) = some false
 i_NoTree_NoNode : PySem.W.kitOne K (.ref a.c_NoTree) (.ref a.c_NoNode) = some false
 i_NoTree_NoOctets : PySem.W.kitOne K (.ref a.c_NoTree) (.ref a.c_NoOctets) = some false
 i_NoTree_NoPlace : PySem.W.kitOne K (.ref a.c_NoTree) (.ref a.c_NoPlace) = some false
 i_NoTree_NoSign : PySem.W.kitOne K (.ref a.c_NoTree) (.ref a.c_NoSign) = some false
 i_NoTree_NoTree : PySem.W.kitOne K (.ref a.c_NoTree) (.ref a.c_NoTree) = some true
 i_NoTree_NoWord : PySem.W.kitOne K (.ref a.c_NoTree) (.ref a.c_NoWord) = some false
 i_NoTree_TooMany : PySem.W.kitOne K (.ref a.c_NoTree) (.ref a.c_TooMany) = some false
 i_NoTree_Twice : PySem.W.kitOne K (.ref a.c_NoTree) (.ref a.c_Twice) = some false
 i_NoTree_WoodError : PySem.W.kitOne K (.ref a.c_NoTree) (.ref a.c_WoodError) = some true
 i_NoTree_ValueError : PySem.W.kitOne K (.ref a.c_NoTree) (.type "ValueError") = some true
 x_TooMany : Exc K mg "TooMany" a.c_TooMany
 k_TooMany : kE K a.c_TooMany
 i_TooMany_NoBit : PySem.W.kitOne K (.ref a.c_TooMany) (.ref a.c_NoBit) = some false
 i_TooMany_NoNode : PySem.W.kitOne K (.ref a.c_TooMany) (.ref a.c_NoNode) = some false
 i_TooMany_NoOctets : PySem.W.kitOne K (.ref a.c_TooMany) (.ref a.c_NoOctets) = some false
 i_TooMany_NoPlace : PySem.W.kitOne K (.ref a.c_TooMany) (.ref a.c_NoPlace) = some false
 i_TooMany_NoSign : PySem.W.kitOne K (.ref a.c_TooMany) (.ref a.c_NoSign) = some false
 i_TooMany_NoTree : PySem.W.kitOne K (.ref a.c_TooMany) (.ref a.c_NoTree) = some false
 i_TooMany_NoWord : PySem.W.kitOne K (.ref a.c_TooMany) (.ref a.c_NoWord) = some false
 i_TooMany_TooMany : PySem.W.kitOne K (.ref a.c_TooMany) (.ref a.c_TooMany) = some true
 i_TooMany_Twice : PySem.W.kitOne K (.ref a.c_TooMany) (.ref a.c_Twice) = some false
 i_TooMany_WoodError : PySem.W.kitOne K (.ref a.c_TooMany) (.ref a.c_WoodError) = some true
 i_TooMany_ValueError : PySem.W.kitOne K (.ref a.c_TooMany) (.type "ValueError") = some true
 x_WoodError : Exc K mg "WoodError" a.c_WoodError
 k_WoodError : kE K a.c_WoodError
 i_WoodError_NoBit : PySem.W.kitOne K (.ref a.c_WoodError) (.ref a.c_NoBit) = some false
 i_WoodError_NoNode : PySem.W.kitOne K (.ref a.c_WoodError) (.ref a.c_NoNode) = some false
 i_WoodError_NoOctets : PySem.W.kitOne K (.ref a.c_WoodError) (.ref a.c_NoOctets) = some false
 i_WoodError_NoPlace : PySem.W.kitOne K (.ref a.c_WoodError) (.ref a.c_NoPlace) = some false
 i_WoodError_NoSign : PySem.W.kitOne K (.ref a.c_WoodError) (.ref a.c_NoSign) = some false
 i_WoodError_NoTree : PySem.W.kitOne K (.ref a.c_WoodError) (.ref a.c_NoTree) = some false
 i_WoodError_NoWord : PySem.W.kitOne K (.ref a.c_WoodError) (.ref a.c_NoWord) = some false
 i_WoodError_TooMany : PySem.W.kitOne K (.ref a.c_WoodError) (.ref a.c_TooMany) = some false
 i_WoodError_Twice : PySem.W.kitOne K (.ref a.c_WoodError) (.ref a.c_Twice) = some false
 i_WoodError_WoodError : PySem.W.kitOne K (.ref a.c_WoodError) (.ref a.c_WoodError) = some true
 i_WoodError_ValueError : PySem.W.kitOne K (.ref a.c_WoodError) (.type "ValueError") = some true
 w_heap_look : a.fd_heap_look.code = .ref a.tc_heap_look
 w_law_look_of : a.fd_law_look_of.code = .ref a.tc_law_look_of
structure Bs (mg : Str → Option Value) (base : Heap) (a : Ad) : Prop where
 bm : BMain mg base
 C_heap_look : PySem.W.CodeHd base a.tc_heap_look a.tP_heap_look
 C_law_look_of : PySem.W.CodeHd base a.tc_law_look_of a.tP_law_look_of
 N_heap_look_law_look_of : a.tP_heap_look ≠ a.tP_law_look_of
theorem iW.out {H : Hp} {f b : Addr} {c : pC} {cs : List Addr} {fvs : List V} {xs : List V} (h : iW H f c cs fvs) (e : H b = some (.lst xs)) : b ∉ cs := fun z => by
 obtain ⟨i, hi⟩ := List.getElem?_of_mem z
 obtain ⟨co, v, u, _, e2, _⟩ := h.cells i b hi
 rw [e] at e2
 cases e2
theorem TabAt.same {H H' : Hp} {P : Addr} {pos : Pos} {q : Str} (h : TabAt H P pos q) (s : aR H H') : TabAt H' P pos q := by
 obtain ⟨ps, h1, h2, h3⟩ := h
 refine ⟨ps, s _ _ h1, h2, ?_⟩
 rcases h3 with h3 | ⟨cd, oc, vs, t, h4, h5, h6⟩
 ·exact .inl h3
 ·exact .inr ⟨cd, oc, vs, t, h4, s _ _ h5, h6⟩
def jA (P : Addr) (H H' : Hp) : Prop := ∀ b o, H b = some o → b ≠ P → H' b = some o
theorem jA.trans {P : Addr} {H H1 H2 : Hp} (s : jA P H H1) (s2 : jA P H1 H2) : jA P H H2 := fun b o e n => s2 b o (s b o e n) n
theorem TabAt.ne {H : Hp} {P b : Addr} {pos : Pos} {q : Str} {o : HO} (h : TabAt H P pos q) (e : H b = some o) (n : ∀ ps, o ≠ .tbl ps) : b ≠ P := fun z => by
 obtain ⟨ps, h1, _⟩ := h
 rw [z, h1] at e
 cases e
 exact n _ rfl
theorem TabAt.upd {H : Hp} {P x : Addr} {pos : Pos} {q : Str} {xs ys : List V} (h : TabAt H P pos q) (e : H x = some (.lst xs)) : TabAt (L2.upd H x (.lst ys)) P pos q := by
 obtain ⟨ps, h1, h2, h3⟩ := h
 have ne : ∀ b o, H b = some o → (∀ zs, o ≠ .lst zs) → L2.upd H x (.lst ys) b = some o := fun b o e2 n => by
  rw [aG (fun z => by rw [z, e] at e2; cases e2; exact n _ rfl)]
  exact e2
 refine ⟨ps, ne _ _ h1 nofun, h2, ?_⟩
 rcases h3 with h3 | ⟨cd, oc, vs, t, h4, h5, h6⟩
 ·exact .inl h3
 ·exact .inr ⟨cd, oc, vs, t, h4, ne _ _ h5 nofun, h6⟩
theorem jA.free {P : Addr} {H H1 : Hp} (s : jA P H H1) {l : Addr} (hP : ∃ o, H1 P = some o) (h : H1 l = none) : H l = none := by
 cases e : H l with
 | none => rfl
 | some o =>
  by_cases z : l = P
  ·obtain ⟨o, ho⟩ := hP
   rw [z, ho] at h
   cases h
  ·rw [s l o e z] at h
   cases h
theorem rm {n j : Nat} (h : j < n) : ixN n (j : Int) = some j := by
 unfold ixN
 simp
 omega
theorem jq (k : Nat) (v : Int) : (List.replicate k [V.int v]).flatten = (List.replicate k v).map V.int := by
 induction k with
 | zero => rfl
 | succ k ih => rw [List.replicate_succ, List.flatten_cons, ih, List.replicate_succ]; rfl
structure LK where
 f : Addr
 wr : Option Addr
 bl : Addr
 off : Nat
 all : List V
def LK.put (L : LK) (H : Hp) (ss : List Int) : Hp := match L.wr with
 | some sn => upd H sn (.lst (ss.map V.int))
 | none => H
def iH (H : Hp) (L : LK) : Prop := L.wr = none ∧ L.off = 0 ∧ ∃ cs, iW H L.f bV cs [.ref L.bl]
theorem iH.fn {H : Hp} {L : LK} (h : iH H L) : ∃ o fd, H L.f = some (aH L.f o) ∧ o.data = .func fd := by
 obtain ⟨_, _, cs, ca⟩ := h
 obtain ⟨cd, doc, pm, ctv, oc, vs, t, h1, _⟩ := ca.ex
 exact ⟨_, _, h1, rfl⟩
theorem iH.same {H H' : Hp} {L : LK} (h : iH H L) (s : aR H H') : iH H' L := by
 obtain ⟨h1, h2, cs, ca⟩ := h
 exact ⟨h1, h2, cs, ca.same fun b o e => s _ _ e⟩
theorem iH.kept {H H' : Hp} {L : LK} (h : iH H L) (s : ∀ b o, H b = some o → (∀ ps, o ≠ .tbl ps) → (∀ ps, o ≠ .lst ps) → H' b = some o) : iH H' L := by
 obtain ⟨h1, h2, cs, ca⟩ := h
 exact ⟨h1, h2, cs, ca.same fun b o e => s _ _ e nofun nofun⟩
theorem iH.upd {H : Hp} {L : LK} {b : Addr} {xs ys : List V} (h : iH H L) (e : H b = some (.lst xs)) : iH (L2.upd H b (.lst ys)) L := by
 obtain ⟨h1, h2, cs, ca⟩ := h
 refine ⟨h1, h2, cs, ca.same fun c o e2 => ?_⟩
 rw [aG (fun z => by rw [z, e] at e2; cases e2)]
 exact e2
structure Asks (H : Hp) (L : LK) (ss : List Int) : Prop where
 look : iH H L
 seen : ∀ sn, L.wr = some sn → H sn = some (.lst (ss.map V.int)) ∧ sn ≠ L.bl
 nodes : H L.bl = some (.lst L.all)
 few : ss.length ≤ 1000
theorem Asks.same {H H' : Hp} {L : LK} {ss : List Int} (h : Asks H L ss) (s : aR H H') : Asks H' L ss := ⟨h.look.same s, fun sn e => ⟨s _ _ (h.seen sn e).1, (h.seen sn e).2⟩, s _ _ h.nodes, h.few⟩
theorem LK.put_none {L : LK} (e : L.wr = none) (H : Hp) (ss : List Int) : L.put H ss = H := by unfold LK.put; rw [e]
theorem LK.put_some {L : LK} {sn : Addr} (e : L.wr = some sn) (H : Hp) (ss : List Int) : L.put H ss = upd H sn (.lst (ss.map V.int)) := by unfold LK.put; rw [e]
theorem LK.put_ne {L : LK} {b : Addr} (n : L.wr ≠ some b) (H : Hp) (ss : List Int) : L.put H ss b = H b := by
 cases e : L.wr with
 | none => rw [LK.put_none e]
 | some sn => rw [LK.put_some e, aG (fun z => n (by rw [e, z]))]
theorem Asks.id {H : Hp} {L : LK} {ss : List Int} (h : Asks H L ss) : L.put H ss = H := by
 cases e : L.wr with
 | none => rw [LK.put_none e]
 | some sn => rw [LK.put_some e]; exact Aw (h.seen sn e).1
theorem Asks.putN {H : Hp} {L : LK} {ss tt : List Int} {b : Addr} {o : HO} (h : Asks H L ss) (e : H b = some o) (n : ∀ xs, o ≠ .lst xs) : L.put H tt b = some o := by
 rw [LK.put_ne (fun z => ?_)]
 ·exact e
 ·rw [(h.seen b z).1] at e
  cases e
  exact n _ rfl
theorem Asks.putT {H : Hp} {L : LK} {ss tt : List Int} {b : Addr} {xs : List V} (h : Asks H L ss) (e : H b = some (.tup xs)) : L.put H tt b = some (.tup xs) := h.putN e nofun
theorem Asks.put {H : Hp} {L : LK} {ss tt : List Int} (h : Asks H L ss) (hl : tt.length ≤ 1000) : Asks (L.put H tt) L tt := by
 cases e : L.wr with
 | none =>
  rw [LK.put_none e]
  exact ⟨h.look, fun sn z => (by rw [e] at z; cases z), h.nodes, hl⟩
 | some sn =>
  obtain ⟨h1, h2⟩ := h.seen sn e
  rw [LK.put_some e]
  refine ⟨h.look.upd h1, fun sn' z => ?_, by rw [aG (Ne.symm h2)]; exact h.nodes, hl⟩
  rw [e] at z
  cases z
  exact ⟨ak, h2⟩
theorem Asks.more {H : Hp} {L : LK} {ss tt : List Int} (h : Asks H L ss) (hl : tt.length ≤ 1000) : Asks (L.put H tt) L tt := h.put hl
def zJ : Addr → Sp := fun f vs H Q _ => ∃ (L : LK) (ss : List Int) (n : Nat) (x : V), f = L.f ∧ vs = [.int (n : Int)] ∧ Asks H L ss ∧ ss.length < 1000 ∧ L.all[L.off + n]? = some x ∧ Q x (L.put H (ss ++ [((L.off + n : Nat) : Int)]))
theorem jz : bootBuiltins "ValueError" = some (.type "ValueError") := by decide +kernel
section
variable {P : Program} {w : World} {K : PySem.W.Frag} {mg : Str → Option Value} {base : Heap} {a : Ad}
def uH (K : PySem.W.Frag) : Sp := fun vs H Q _ => ∃ (p : Addr) (zs : List Int) (k : Nat), vs = [.ref p, .int (k : Int)] ∧ SqL K H p (zs.map V.int) ∧ Q (.int ((zs[k]?).getD 0)) H
theorem bK (T : Tx K mg a) : bh P w K mg base CX0 1 a.f_law_cell_at a.fd_law_cell_at ["_law_script", "_law_k"] (uH K) := by
 refine T.D_law_cell_at.F.ok n6 (fun vs H Q E h => ?_) (fun cdv A outer s H vs Q E hr h => ?_)
 ·obtain ⟨p, zs, k, rfl, _⟩ := h
  rfl
 obtain ⟨p, zs, k, rfl, hS, q⟩ := h
 refine ⟨_, (aq (aX (aM m9 (pv 1) (aW aZ rfl T.b_len Tw.dg (aa (pv 0) aj)) (aP _)) (az (aC (bH cR (pv 0) (pv 1) (fun _ _ => rfl)))) aJ)
  (az (aC ao))), ?_⟩
 refine ⟨_, rfl, _, rfl, p, _, rfl, .inl hS, _, _, rfl, rfl, _, rfl, aV (fun c => ?_) fun c => ?_⟩
 ·have c := of_decide_eq_true c
  rw [List.length_map] at c
  have hk : zs[k]? = some zs[k] := List.getElem?_eq_getElem (by omega)
  rw [hk] at q
  exact ⟨_, rfl, _, rfl, p, _, _, _, rfl, rfl, hS, j8 hk, q⟩
 ·have c : ¬ (k : Int) < ((zs.map V.int).length : Int) := fun z => c (decide_eq_true z)
  rw [List.length_map] at c
  rw [List.getElem?_eq_none (by omega)] at q
  exact q
theorem xZ (x : Int) : Builtin.bitAnd x 1 = x % 2 := by
 unfold Builtin.bitAnd
 by_cases hx : 0 ≤ x
 ·simp [hx]
  omega
 ·simp [hx]
  unfold Builtin.bitNot
  omega
def xG : Sp := fun vs H Q _ => ∃ (b k : Int), vs = [.int b, .int k] ∧ 0 ≤ k ∧ Q (.int (bit b k.toNat)) H
theorem qw (T : Tx K mg a) : bh P w K mg base CX0 1 a.f_bit_in a.fd_bit_in ["block", "k"] xG := by
 refine T.D_bit_in.F.ok wD (fun vs H Q E h => ?_) (fun cdv A outer s H vs Q E hr h => ?_)
 ·obtain ⟨b, k, rfl, _⟩ := h
  rfl
 obtain ⟨b, k, rfl, h0, q⟩ := h
 refine ⟨_, (az (aC (aA Ag (aA Ac (pv 0) (pv 1)) ao))), ?_⟩
 refine ⟨_, rfl, _, rfl, _, _, rfl, rfl, h0, _, _, rfl, rfl, ?_⟩
 have e : Builtin.bitAnd (b / 2 ^ k.toNat) 1 = bit b k.toNat := xZ _
 show Q (.int (Builtin.bitAnd (b / 2 ^ k.toNat) 1)) H
 rw [e]
 exact q
def uB : Sp := fun vs H Q _ => ∃ (b n : Int), vs = [.int b, .int n] ∧ 0 ≤ n ∧ n ≤ 32 ∧ ∀ r, H r = none → Q (.ref r) (upd H r (.lst ((bits b n.toNat).map V.int)))
theorem pg (T : Tx K mg a) : bh P w K mg base CX0 2 a.f_bits_of a.fd_bits_of ["block", "upto"] uB := by
 refine T.D_bits_of.F.ok vC (fun vs H Q E h => ?_) (fun cdv A outer s H vs Q E hr h => ?_)
 ·obtain ⟨b, n, rfl, _⟩ := h
  rfl
 obtain ⟨b, n, rfl, h0, h1, q⟩ := h
 refine ⟨_, (az (aC (kh rfl (eQ.one (j := 0) rfl (Or.inl rfl) rfl rfl (Or.inl rfl)) (lY rfl T.b_range (aa (pv 1) aj)) (fun _ _ _ _ => jX) (fun _ _ _ _ => (aB T.D_bit_in (qw T) (by decide) hr aL rfl (aa (pv 1) (aa (pv 0) aj))))))), ?_⟩
 refine ⟨_, rfl, n, rfl, by omega, by omega, ?_⟩
 refine wK (fun j => bit b j) (by rw [sizeLine_eq]; omega) (fun _ _ _ q => q) (fun j H' Q hj sm q => ⟨_, rfl, _, rfl, _, _, rfl, by omega, ?_⟩) fun D hD => q D hD
 rw [show ((0 : Int) + (j : Int)).toNat = j from by omega]
 exact q
def vd : Sp := fun vs H Q _ => ∃ (b n : Int), vs = [.int b, .int n] ∧ 0 ≤ n ∧ n ≤ 32 ∧ ∀ H', aR H H' → Q (.int (ones b n.toNat)) H'
theorem oF (T : Tx K mg a) : bh P w K mg base CX0 3 a.f_ones_in a.fd_ones_in ["block", "upto"] vd := by
 refine T.D_ones_in.F.ok uO (fun vs H Q E h => ?_) (fun cdv A outer s H vs Q E hr h => ?_)
 ·obtain ⟨b, n, rfl, _⟩ := h
  rfl
 obtain ⟨b, n, rfl, h0, h1, q⟩ := h
 refine ⟨_, (az (aC (aW (yF rfl) rfl T.b_sum Tw.Ak (aa (aB T.D_bits_of (pg T) (by decide) hr aL rfl (aa (pv 0) (aa (pv 1) aj))) aj)))), ?_⟩
 exact ⟨_, rfl, _, rfl, b, n, rfl, h0, h1, fun r hr' => ⟨r, bits b n.toNat, rfl, SqL.of ak, q _ (au hr' _)⟩⟩
def rY (K : PySem.W.Frag) : Sp := fun vs H Q _ => ∃ (p : Addr) (ns : List Int), vs = [.ref p] ∧ SqL K H p (ns.map V.int) ∧ Q (.int (blk ns)) H
theorem tY (T : Tx K mg a) : bh P w K mg base CX0 1 a.f_block_of a.fd_block_of ["bits"] (rY K) := by
 refine T.D_block_of.F.ok fX (fun vs H Q E h => ?_) (fun cdv A outer s H vs Q E hr h => ?_)
 ·obtain ⟨p, ns, rfl, _⟩ := h
  rfl
 obtain ⟨p, ns, rfl, hS, q⟩ := h
 refine ⟨_, (aq (aF (i := 1) fX.nd rfl (Or.inl rfl) ao)
  (aq (cA PassesOwn.never rfl (yX rfl T.b_reversed (aa (pv 0) aj) Tw.jh) (bc (i := 2) fX.nd rfl (Or.inl rfl)) (az (aF (i := 1) fX.nd rfl (Or.inl rfl) (aA bC (aA cC ao (pv 1)) (pv 2)))))
  (az (aC (pv 1))))), ?_⟩
 refine ⟨_, rfl, p, _, rfl, hS, ?_⟩
 refine vO (xs := ns.map V.int) (fun i σ H' => (∃ k, σ = [some (.ref p), some (.int (blk (ns.drop (ns.length - i)))), k]) ∧ H' = H) ?_ ?_ ?_ ?_
 ·refine ⟨⟨none, ?_⟩, rfl⟩
  rw [Nat.sub_zero, List.drop_length]
  rfl
 ·rintro i σ H' _ ⟨_, rfl⟩
  exact hS
 ·rintro i x σ H' hi hx ⟨⟨k, rfl⟩, rfl⟩
  obtain ⟨c, hc, rfl⟩ := int_at hx
  rw [List.length_map] at hi hc
  refine ⟨_, rfl, _, _, rfl, rfl, .inl ⟨by decide, by decide⟩, _, rfl, _, _, rfl, rfl, ⟨some (.int c), ?_⟩, rfl⟩
  have e : ns.drop (ns.length - (i + 1)) = c :: ns.drop (ns.length - i) := by
   have e1 : ns.length - (i + 1) = ns.length - 1 - i := by omega
   have e2 : ns.length - i = ns.length - 1 - i + 1 := by omega
   rw [e1, e2, List.drop_eq_getElem_cons (by omega)]
   congr 1
   have := List.getElem?_eq_some_iff.mp hc
   exact this.2
  rw [e]
  rfl
 ·rintro σ H' ⟨⟨k, rfl⟩, rfl⟩
  rw [List.length_map, Nat.sub_self, List.drop_zero]
  exact ⟨_, rfl, q⟩
def rN (K : PySem.W.Frag) (C1 C2 : Addr) : Sp := fun vs H Q E => ∃ (p : Addr) (ns : List Int), vs = [.ref p] ∧ SqL K H p (ns.map V.int) ∧
 ((ns.length ≤ 4096 ∧ aK ns ∧ Q .non H) ∨ (4096 < ns.length ∧ E (.ref C1) none H) ∨ (ns.length ≤ 4096 ∧ ¬ aK ns ∧ E (.ref C2) none H))
theorem jW (T : Tx K mg a) : bh P w K mg base (CX1 P w) 1 a.f_check_row a.fd_check_row ["bits"] (rN K a.c_TooMany a.c_NoBit) := by
 refine T.D_check_row.F.ok1 lB (fun vs H Q E h => ?_) (fun cdv A outer s H vs Q E hr h => ?_)
 ·obtain ⟨p, ns, rfl, _⟩ := h
  rfl
 obtain ⟨p, ns, rfl, hS, h⟩ := h
 refine ⟨_, (aq (aX (aM jC (aW aZ rfl T.b_len Tw.dg (aa (pv 0) aj)) (bw (v := .int 4096) rfl T.c_MOST_BITS ⟨_, rfl⟩) (aP _)) (az (gM T.x_TooMany rfl (aa lE aj))) aJ)
  (az (cA zF rfl (cI (pv 0)) (bc (i := 1) lB.nd rfl (Or.inl rfl)) (az (aX (PW.pt (jL (aM mV (pv 1) ao (aP _)) (jo (aM mV (pv 1) ao (aP _))))) (az (gM T.x_NoBit rfl (aa lE aj))) aJ))))), ?_⟩
 refine ⟨_, rfl, p, _, rfl, .inl hS, _, _, rfl, rfl, _, rfl, aV (fun c => ?_) fun c => ?_⟩
 ·have c := of_decide_eq_true c
  rw [List.length_map] at c
  rcases h with ⟨h1, _⟩ | ⟨_, q⟩ | ⟨h1, _⟩
  ·omega
  ·exact ⟨(by show 1 ≤ sizeLine; decide), q⟩
  ·omega
 have c : ¬ (4096 : Int) < ((ns.map V.int).length : Int) := fun z => c (decide_eq_true z)
 rw [List.length_map] at c
 refine ⟨_, rfl, p, rfl, ⟨_, hS⟩, ?_⟩
 refine cj (xs := ns.map V.int) (fun i σ H' => (∃ k, σ = [some (.ref p), k]) ∧ H' = H ∧ aK (ns.take i)) ⟨⟨none, rfl⟩, rfl, fun x hx => by simp at hx⟩ ?_ ?_ ?_
 ·rintro i σ H' _ ⟨_, rfl, _⟩
  exact hS
 ·rintro i x σ H' hx ⟨⟨k, rfl⟩, rfl, hb⟩
  obtain ⟨c, hc, rfl⟩ := int_at hx
  have nxt : c = 0 ∨ c = 1 → aK (ns.take (i + 1)) := fun e x hx => by
   rw [List.take_add_one, hc] at hx
   rcases List.mem_append.mp hx with hx | hx
   ·exact hb x hx
   ·rw [List.mem_singleton.mp hx]
    exact e
  by_cases c0 : c = 0
  ·subst c0
   exact ⟨_, rfl, rfl, _, rfl, lu rfl (cW ⟨⟨_, rfl⟩, rfl, nxt (.inl rfl)⟩)⟩
  by_cases c1 : c = 1
  ·subst c1
   refine ⟨_, rfl, rfl, _, rfl, aV (fun _ => ⟨_, rfl, rfl, _, rfl, lu rfl ⟨⟨_, rfl⟩, rfl, nxt (.inr rfl)⟩⟩) fun z => absurd ?_ z⟩
   decide
  refine ⟨_, rfl, rfl, _, rfl, aV (fun _ => ⟨_, rfl, rfl, _, rfl, aV (fun _ => ?_) fun z => absurd ?_ z⟩) fun z => absurd ?_ z⟩
  ·rcases h with ⟨_, h1, _⟩ | ⟨h1, _⟩ | ⟨_, _, q⟩
   ·rcases h1 c (List.mem_of_getElem? hc) with e | e
    ·exact absurd e c0
    ·exact absurd e c1
   ·omega
   ·exact ⟨(by show 1 ≤ sizeLine; decide), q⟩
  ·rw [nW]
   simp [c1]
  ·rw [nW]
   simp [c0]
 ·rintro σ H' ⟨_, rfl, hb⟩
  rw [List.length_map, List.take_length] at hb
  rcases h with ⟨_, _, q⟩ | ⟨h1, _⟩ | ⟨_, h1, _⟩
  ·exact q
  ·omega
  ·exact absurd hb h1
def xj (K : PySem.W.Frag) (C1 C2 : Addr) : Sp := fun vs H Q E => ∃ (p : Addr) (ns : List Int), vs = [.ref p] ∧ SqL K H p (ns.map V.int) ∧
 ((ns.length ≤ 4096 ∧ aK ns ∧ ∀ r H', H r = none → aR H H' → H' r = some (.lst ((cZ ns).map V.int)) → Q (.ref r) H') ∨ (4096 < ns.length ∧ E (.ref C1) none H) ∨ (ns.length ≤ 4096 ∧ ¬ aK ns ∧ E (.ref C2) none H))
theorem xx (T : Tx K mg a) : bh P w K mg base (CX1 P w) 2 a.f_packed a.fd_packed ["bits"] (xj K a.c_TooMany a.c_NoBit) := by
 refine T.D_packed.F.ok1 wH (fun vs H Q E h => ?_) (fun cdv A outer s H vs Q E hr h => ?_)
 ·obtain ⟨p, ns, rfl, _⟩ := h
  rfl
 obtain ⟨p, ns, rfl, hS, h⟩ := h
 refine ⟨_, (aq (bL (aB T.D_check_row (jW T) (by decide) hr bY rfl (aa (pv 0) aj)))
  (az (aC (kh rfl (eQ.one (j := 0) rfl (Or.inl rfl) rfl rfl (Or.inl rfl)) (wu rfl T.b_range (aa ao (aa (aW aZ rfl T.b_len Tw.dg (aa (pv 0) aj)) (aa (bw (v := .int 32) rfl T.c_BLOCK_BITS ⟨_, rfl⟩) aj)))) (fun _ _ _ _ => jX) (fun _ _ _ _ => (aB T.D_block_of (tY T) (by decide) hr aL rfl (aa (iZ (show SlR _ (BX K) from lq) (pv 1) (jr (pv 0)) (jr (aA bC (pv 0) (bw (v := .int 32) rfl T.c_BLOCK_BITS ⟨_, rfl⟩)))) aj))))))), ?_⟩
 rcases h with ⟨hl, hb, q⟩ | h | h
 rotate_left
 ·exact ⟨_, rfl, p, ns, rfl, hS, .inr (.inl h)⟩
 ·exact ⟨_, rfl, p, ns, rfl, hS, .inr (.inr h)⟩
 refine ⟨_, rfl, p, ns, rfl, hS, .inl ⟨hl, hb, ?_⟩⟩
 refine ⟨_, rfl, p, _, rfl, .inl hS, (ns.map V.int).length, rfl, ?_, ?_⟩
 ·rw [List.length_map]
  exact Nat.lt_of_le_of_lt hl (by decide)
 rw [List.length_map]
 intro D hD
 refine ⟨fun i m ys H1 => m = many ns.length - i ∧ i ≤ many ns.length ∧ ys = ((List.range i).map (bM ns)).map V.int ∧ aR H H1 ∧ H1 D = some (.lst ys), ⟨_, rfl, Nat.zero_le _, rfl, au hD _, ak⟩, ?_⟩
 rintro i m ys H1 ⟨rfl, hi, rfl, sm, hD1⟩
 by_cases hlt : i < many ns.length
 ·refine .inr ⟨hlt, fun v H2 y => ?_⟩
  obtain ⟨rfl, rfl⟩ := y
  unfold zV
  refine ir ?_
  refine ⟨_, rfl, _, rfl, _, rfl, _, rfl, _, _, rfl, rfl, _, rfl, p, _, rfl, sm.seq hS, fun p2 hp2 => ?_⟩
  have e1 : (0 : Int) + (i : Int) * 32 = ((32 * i : Nat) : Int) := by omega
  have e2 : (0 : Int) + (i : Int) * 32 + 32 = ((32 * i + 32 : Nat) : Int) := by omega
  rw [e1, show ((32 * i : Nat) : Int) + 32 = ((32 * i + 32 : Nat) : Int) from by omega, zA, Nat.add_sub_cancel_left]
  refine ⟨p2, _, rfl, SqL.of ak, ?_⟩
  have ne : D ≠ p2 := aO hD1 hp2
  refine ⟨by rw [aG ne]; exact hD1, ?_, many ns.length - (i + 1), by omega, rfl, hlt, ?_, cO (sm.trans (au hp2 _)) hD _, ak⟩
  ·rw [List.length_map, List.length_map, List.length_range]
   unfold many at hlt
   exact small (by omega)
  ·rw [List.range_succ, List.map_append, List.map_append]
   rfl
 ·have e : i = many ns.length := by omega
  subst e
  exact .inl ⟨Nat.le_refl _, q D H1 hD sm hD1⟩
def ue (K : PySem.W.Frag) : Sp := fun vs H Q _ => ∃ (p : Addr) (bs : List Int), vs = [.ref p] ∧ SqL K H p (bs.map V.int) ∧ bs.length ≤ 4096 ∧ ∀ r H', H r = none → aR H H' → H' r = some (.tup ((dU bs bs.length).map V.int)) → Q (.ref r) H'
theorem sr (T : Tx K mg a) : bh P w K mg base CX0 4 a.f_ahead_of a.fd_ahead_of ["blocks"] (ue K) := by
 refine T.D_ahead_of.F.ok jk (fun vs H Q E h => ?_) (fun cdv A outer s H vs Q E hr h => ?_)
 ·obtain ⟨p, bs, rfl, _⟩ := h
  rfl
 obtain ⟨p, bs, rfl, hS, hl, q⟩ := h
 refine ⟨_, (aq (aF (i := 1) jk.nd rfl (Or.inl rfl) (aY (aa ao aj)))
  (aq (cA PassesOwn.never rfl (cI (pv 0)) (bc (i := 2) jk.nd rfl (Or.inl rfl)) (az (bL (o7 PySem.F.plainAttrs_list PySem.F.slot_list_append PySem.F.type_list_append cV (pv 1) (aa (aA bC (bH cR (pv 1) (yD uP ao) (fun _ _ => rfl)) (aB T.D_ones_in (oF T) (by decide) hr aL rfl (aa (pv 2) (aa (bw (v := .int 32) rfl T.c_BLOCK_BITS ⟨_, rfl⟩) aj)))) aj)))))
  (az (aC (dz jw rfl T.b_tuple Tw.um (aa (pv 1) aj)))))), ?_⟩
 refine ⟨(by show 1 ≤ sizeLine; decide), fun r hr' => ?_⟩
 refine ⟨_, rfl, p, rfl, ⟨_, (au hr' _).seq hS⟩, ?_⟩
 refine cj (xs := bs.map V.int) (fun i σ H' => (∃ k, σ = [some (.ref p), some (.ref r), k]) ∧ aR H H' ∧ H' r = some (.lst ((dU bs i).map V.int))) ?_ ?_ ?_ ?_
 ·exact ⟨⟨none, rfl⟩, au hr' _, ak⟩
 ·rintro i σ H' _ ⟨_, sm, _⟩
  exact sm.seq hS
 ·rintro i x σ H' hx ⟨⟨k, rfl⟩, sm, hr1⟩
  obtain ⟨b, hb, rfl⟩ := int_at hx
  have hi := (List.getElem?_eq_some_iff.mp hb).1
  have hla : atI ((dU bs i).map V.int) (-1) = some (.int (gr bs i)) := by
   rw [sG, List.map_append]
   exact yQ _ _
  refine ⟨_, rfl, .inl ⟨rfl, _, SqL.of hr1⟩, _, rfl, _, rfl, r, _, _, _, rfl, rfl, SqL.of hr1, hla, _, rfl, b, 32, rfl, by decide, by decide, fun H2 sm2 => ⟨_, _, rfl, rfl, r, _, _, rfl, rfl, sm2 _ _ hr1, ?_, ⟨_, rfl⟩, cO (sm.trans sm2) hr' _, ?_⟩⟩
  ·rw [List.length_map, p6]
   exact small (by omega)
  ·rw [ak, sW, List.map_append, m8 hb]
   rfl
 ·rintro σ H' ⟨⟨k, rfl⟩, sm, hr1⟩
  rw [List.length_map] at hr1
  exact ⟨_, rfl, r, _, rfl, .inl ⟨SqL.of hr1, fun l hl => q l _ (sm.free hl) (sm.trans (au hl _)) ak⟩⟩
def vB : Sp := fun vs H Q _ => ∃ (b n : Int), vs = [.int b, .int n] ∧ 0 ≤ n ∧ n ≤ 32 ∧ ∀ r H', H r = none → aR H H' → H' r = some (.lst ((nets b n.toNat).map V.int)) → Q (.ref r) H'
theorem ie (T : Tx K mg a) : bh P w K mg base CX0 3 a.f_nets_of a.fd_nets_of ["block", "upto"] vB := by
 refine T.D_nets_of.F.ok fQ (fun vs H Q E h => ?_) (fun cdv A outer s H vs Q E hr h => ?_)
 ·obtain ⟨b, n, rfl, _⟩ := h
  rfl
 obtain ⟨b, n, rfl, h0, h1, q⟩ := h
 refine ⟨_, (aq (aF (i := 2) fQ.nd rfl (Or.inl rfl) (aY aj))
  (aq (aF (i := 3) fQ.nd rfl (Or.inl rfl) ao)
  (aq (cA PassesOwn.never rfl (cI (aB T.D_bits_of (pg T) (by decide) hr aL rfl (aa (pv 0) (aa (pv 1) aj)))) (bc (i := 4) fQ.nd rfl (Or.inl rfl)) (aq (aF (i := 3) fQ.nd rfl (Or.inl rfl) (aA bz (aA bC (pv 3) (aA cC ao (pv 4))) ao))
  (az (bL (o7 PySem.F.plainAttrs_list PySem.F.slot_list_append PySem.F.type_list_append cV (pv 2) (aa (pv 3) aj))))))
  (az (aC (pv 2)))))), ?_⟩
 refine ⟨(by show 0 ≤ sizeLine; decide), fun r hr' => ?_⟩
 refine ⟨_, rfl, _, rfl, b, n, rfl, h0, h1, fun p hp => ⟨p, rfl, ⟨_, SqL.of ak⟩, ?_⟩⟩
 have ne : r ≠ p := aO ak hp
 refine cj (xs := (bits b n.toNat).map V.int) (fun i σ H' => (∃ k, σ = [some (.int b), some (.int n), some (.ref r), some (.int (net b i)), k]) ∧ aR H H' ∧ H' r = some (.lst ((nets b i).map V.int)) ∧ H' p = some (.lst ((bits b n.toNat).map V.int))) ?_ ?_ ?_ ?_
 ·refine ⟨⟨none, by rw [yG]; rfl⟩, (au hr' _).trans (au hp _), ?_, ak⟩
  rw [aG ne, ak]
  rfl
 ·rintro i σ H' _ ⟨_, _, _, hp'⟩
  exact SqL.of hp'
 ·rintro i x σ H' hx ⟨⟨k, rfl⟩, sm, hr1, hp1⟩
  obtain ⟨c, hc, rfl⟩ := int_at hx
  have hi : i < n.toNat := by
   have := (List.getElem?_eq_some_iff.mp hc).1
   rw [iK] at this
   exact this
  have ec : c = bit b i := by
   rw [uq hi] at hc
   exact (Option.some.inj hc).symm
  subst ec
  refine ⟨_, rfl, _, rfl, _, _, rfl, rfl, .inl ⟨by decide, by decide⟩, _, _, rfl, rfl, _, _, rfl, rfl, ?_⟩
  refine ⟨_, rfl, .inl ⟨rfl, _, SqL.of hr1⟩, _, rfl, r, _, _, rfl, rfl, hr1, ?_, ?_⟩
  ·rw [List.length_map, b7]
   exact small (by omega)
  ·refine ⟨⟨some (.int (bit b i)), by rw [ud]; rfl⟩, cO sm hr' _, ?_, ?_⟩
   ·rw [ak, wY, ud, List.map_append]
    rfl
   ·rw [aG (Ne.symm ne)]
    exact hp1
 ·rintro σ H' ⟨⟨k, rfl⟩, sm, hr1, hp1⟩
  rw [List.length_map, iK] at hr1
  exact ⟨_, rfl, q r H' hr' sm hr1⟩
def xH : Sp := fun vs H Q _ => ∃ (b n : Int), vs = [.int b, .int n] ∧ 1 ≤ n ∧ n ≤ 32 ∧ ∀ M H', oH M (nets b n.toNat) → aR H H' → Q (.int M) H'
theorem wy (T : Tx K mg a) : bh P w K mg base CX0 4 a.f_low_in a.fd_low_in ["block", "upto"] xH := by
 refine T.D_low_in.F.ok xK (fun vs H Q E h => ?_) (fun cdv A outer s H vs Q E hr h => ?_)
 ·obtain ⟨b, n, rfl, _⟩ := h
  rfl
 obtain ⟨b, n, rfl, h0, h1, q⟩ := h
 refine ⟨_, (az (aC (zq rfl rfl T.b_min (aa (aB T.D_nets_of (ie T) (by decide) hr aL rfl (aa (pv 0) (aa (pv 1) aj))) aj) ao Tw.jG))), ?_⟩
 refine ⟨_, rfl, _, rfl, b, n, rfl, by omega, h1, fun p H' hp sm h' => ⟨p, _, rfl, SqL.of h', ?_, fun M hM => q M H' hM sm⟩⟩
 rw [b7]
 omega
def nu : Sp := fun vs H Q _ => ∃ (b : Int) (st sp : Nat) (g : Int), vs = [.int b, .int (st : Int), .int (sp : Int), .int g] ∧ sp ≤ 32 ∧
 (∀ H' (k : Nat), aR H H' → Due b st sp g k → (∀ j, Due b st sp g j → k ≤ j) → Q (.int (k : Int)) H') ∧ ∀ H', aR H H' → (∀ k, ¬ Due b st sp g k) → Q .non H'
theorem nO (T : Tx K mg a) : bh P w K mg base CX0 4 a.f_first_low_in a.fd_first_low_in ["block", "start", "stop", "goal"] nu := by
 refine T.D_first_low_in.F.ok dW (fun vs H Q E h => ?_) (fun cdv A outer s H vs Q E hr h => ?_)
 ·obtain ⟨b, st, sp, g, rfl, _⟩ := h
  rfl
 obtain ⟨b, st, sp, g, rfl, hsp, q1, q2⟩ := h
 refine ⟨_, (aq (cA PassesOwn.never rfl (tU rfl T.b_enumerate (aa (aB T.D_nets_of (ie T) (by decide) hr aL rfl (aa (pv 0) (aa (pv 2) aj))) aj) ao) (jM rfl (bT (bc (i := 4) dW.nd rfl (Or.inl rfl)) (bT (bc (i := 5) dW.nd rfl (Or.inl rfl)) gU))) (az (aX (PW.pt (jL (aM jC (pv 4) (pv 1) (aP _)) (jo (aM jB (pv 5) (pv 3) (aP _))))) (az (aC (pv 4))) aJ)))
  (az (aC dY))), ?_⟩
 refine ⟨_, rfl, _, rfl, b, (sp : Int), rfl, by omega, by omega, fun r H1 hr1 sm1 h1 => ?_⟩
 rw [Int.toNat_natCast] at h1
 refine ⟨r, _, rfl, rfl, SqL.of h1, ?_⟩
 refine qi (xs := (nets b sp).map V.int) (fun i σ H' => (∃ k n, σ = [some (.int b), some (.int (st : Int)), some (.int (sp : Int)), some (.int g), k, n]) ∧ aR H1 H' ∧ ∀ j, j ≤ i → ¬ Due b st sp g j) ?_ ?_ ?_ ?_
 ·exact ⟨⟨none, none, rfl⟩, aR.refl _, fun j hj d => by have := d.1; omega⟩
 ·rintro i σ H' _ ⟨_, sm, _⟩
  exact SqL.of (sm _ _ h1)
 ·rintro i x σ H' p hx ⟨⟨k, n, rfl⟩, sm, no⟩ hp
  obtain ⟨c, hc, rfl⟩ := int_at hx
  have hi : i < sp := by
   have := (List.getElem?_eq_some_iff.mp hc).1
   rw [b7] at this
   exact this
  have ec : c = net b (i + 1) := by
   rw [kO hi] at hc
   exact (Option.some.inj hc).symm
  subst ec
  have sm' : aR H1 (upd H' p (.tup [.int ((i + 1 : Nat) : Int), .int (net b (i + 1))])) := sm.trans (au hp _)
  have go : ¬ Due b st sp g (i + 1) → ∀ j, j ≤ i + 1 → ¬ Due b st sp g j := fun h j hj => by
   rcases Nat.lt_or_ge i j with l | l
   ·have : j = i + 1 := by omega
    subst this
    exact h
   ·exact no j l
  refine ⟨p, _, rfl, SqT.of ak, rfl, _, _, rfl, _, _, rfl, rfl, ?_⟩
  refine ⟨_, rfl, _, rfl, _, _, rfl, rfl, _, rfl, aV (fun c1 => ?_) fun c1 => ?_⟩
  ·have c1 := of_decide_eq_true c1
   refine ⟨_, rfl, _, rfl, _, _, rfl, rfl, _, rfl, aV (fun c2 => ?_) fun c2 => ?_⟩
   ·have c2 := of_decide_eq_true c2
    exact ⟨_, rfl, q1 _ (i + 1) (sm1.trans sm') ⟨by omega, by omega, c2⟩ fun j d => by
     rcases Nat.lt_or_ge i j with l | l
     ·exact l
     ·exact absurd d (no j l)⟩
   ·have c2 : ¬ net b (i + 1) ≤ g := fun z => c2 (decide_eq_true z)
    exact ⟨⟨_, _, rfl⟩, sm', go fun d => c2 d.2.2⟩
  ·have c1 : ¬ (st : Int) < ((i + 1 : Nat) : Int) := fun z => c1 (decide_eq_true z)
   exact cW ⟨⟨_, _, rfl⟩, sm', go fun d => by have := d.1; omega⟩
 ·rintro σ H' ⟨_, sm, no⟩
  refine q2 _ (sm1.trans sm) fun k d => no k ?_ d
  rw [List.length_map, b7]
  exact d.2.1
def pP : Sp := fun vs H Q _ => ∃ (b : Int) (st sp : Nat) (g : Int), vs = [.int b, .int (st : Int), .int (sp : Int), .int g] ∧ sp ≤ 32 ∧
 (∀ H' (k : Nat), aR H H' → Due b st sp g k → (∀ j, Due b st sp g j → j ≤ k) → Q (.int (k : Int)) H') ∧ ∀ H', aR H H' → (∀ k, ¬ Due b st sp g k) → Q .non H'
theorem oK (T : Tx K mg a) : bh P w K mg base CX0 4 a.f_last_low_in a.fd_last_low_in ["block", "start", "stop", "goal"] pP := by
 refine T.D_last_low_in.F.ok cD (fun vs H Q E h => ?_) (fun cdv A outer s H vs Q E hr h => ?_)
 ·obtain ⟨b, st, sp, g, rfl, _⟩ := h
  rfl
 obtain ⟨b, st, sp, g, rfl, hsp, q1, q2⟩ := h
 refine ⟨_, (aq (aF (i := 4) cD.nd rfl (Or.inl rfl) dY)
  (aq (cA PassesOwn.never rfl (tU rfl T.b_enumerate (aa (aB T.D_nets_of (ie T) (by decide) hr aL rfl (aa (pv 0) (aa (pv 2) aj))) aj) ao) (jM rfl (bT (bc (i := 5) cD.nd rfl (Or.inl rfl)) (bT (bc (i := 6) cD.nd rfl (Or.inl rfl)) gU))) (az (aX (PW.pt (jL (aM jC (pv 5) (pv 1) (aP _)) (jo (aM jB (pv 6) (pv 3) (aP _))))) (az (aF (i := 4) cD.nd rfl (Or.inl rfl) (pv 5))) aJ)))
  (az (aC (pv 4))))), ?_⟩
 refine ⟨_, rfl, _, rfl, b, (sp : Int), rfl, by omega, by omega, fun r H1 hr1 sm1 h1 => ?_⟩
 rw [Int.toNat_natCast] at h1
 refine ⟨r, _, rfl, rfl, SqL.of h1, ?_⟩
 refine qi (xs := (nets b sp).map V.int) (fun i σ H' => ∃ f, (∃ k n, σ = [some (.int b), some (.int (st : Int)), some (.int (sp : Int)), some (.int g), some f, k, n]) ∧ aR H1 H' ∧
  ((f = .non ∧ ∀ j, j ≤ i → ¬ Due b st sp g j) ∨ ∃ k : Nat, f = .int (k : Int) ∧ k ≤ i ∧ Due b st sp g k ∧ ∀ j, j ≤ i → Due b st sp g j → j ≤ k)) ?_ ?_ ?_ ?_
 ·exact ⟨.non, ⟨none, none, rfl⟩, aR.refl _, .inl ⟨rfl, fun j hj d => by have := d.1; omega⟩⟩
 ·rintro i σ H' _ ⟨_, _, sm, _⟩
  exact SqL.of (sm _ _ h1)
 ·rintro i x σ H' p hx ⟨f, ⟨k, n, rfl⟩, sm, hf⟩ hp
  obtain ⟨c, hc, rfl⟩ := int_at hx
  have hi : i < sp := by
   have := (List.getElem?_eq_some_iff.mp hc).1
   rw [b7] at this
   exact this
  have ec : c = net b (i + 1) := by
   rw [kO hi] at hc
   exact (Option.some.inj hc).symm
  subst ec
  have sm' : aR H1 (upd H' p (.tup [.int ((i + 1 : Nat) : Int), .int (net b (i + 1))])) := sm.trans (au hp _)
  have old : ¬ Due b st sp g (i + 1) → (f = .non ∧ ∀ j, j ≤ i + 1 → ¬ Due b st sp g j) ∨ ∃ k : Nat, f = .int (k : Int) ∧ k ≤ i + 1 ∧ Due b st sp g k ∧ ∀ j, j ≤ i + 1 → Due b st sp g j → j ≤ k := fun h => by
   rcases hf with ⟨e, no⟩ | ⟨k, e, k1, d, mx⟩
   ·refine .inl ⟨e, fun j hj => ?_⟩
    rcases Nat.lt_or_ge i j with l | l
    ·have : j = i + 1 := by omega
     subst this
     exact h
    ·exact no j l
   ·refine .inr ⟨k, e, by omega, d, fun j hj dj => ?_⟩
    rcases Nat.lt_or_ge i j with l | l
    ·have : j = i + 1 := by omega
     subst this
     exact absurd dj h
    ·exact mx j l dj
  refine ⟨p, _, rfl, SqT.of ak, rfl, _, _, rfl, _, _, rfl, rfl, ?_⟩
  refine ⟨_, rfl, _, rfl, _, _, rfl, rfl, _, rfl, aV (fun c1 => ?_) fun c1 => ?_⟩
  ·have c1 := of_decide_eq_true c1
   refine ⟨_, rfl, _, rfl, _, _, rfl, rfl, _, rfl, aV (fun c2 => ?_) fun c2 => ?_⟩
   ·have c2 := of_decide_eq_true c2
    exact ⟨_, rfl, _, ⟨_, _, rfl⟩, sm', .inr ⟨i + 1, rfl, Nat.le_refl _, ⟨by omega, by omega, c2⟩, fun j hj _ => hj⟩⟩
   ·have c2 : ¬ net b (i + 1) ≤ g := fun z => c2 (decide_eq_true z)
    exact ⟨f, ⟨_, _, rfl⟩, sm', old fun d => c2 d.2.2⟩
  ·have c1 : ¬ (st : Int) < ((i + 1 : Nat) : Int) := fun z => c1 (decide_eq_true z)
   exact cW ⟨f, ⟨_, _, rfl⟩, sm', old fun d => by have := d.1; omega⟩
 ·rintro σ H' ⟨f, ⟨k, n, rfl⟩, sm, hf⟩
  rw [List.length_map, b7] at hf
  refine ⟨_, rfl, ?_⟩
  rcases hf with ⟨rfl, no⟩ | ⟨k, rfl, k1, d, mx⟩
  ·exact q2 _ (sm1.trans sm) fun k d => no k d.2.1 d
  ·exact q1 _ k (sm1.trans sm) d fun j dj => mx j dj.2.1 dj
def vp : Sp := fun vs H Q _ => ∃ n : Nat, vs = [.int (n : Int)] ∧ n ≤ 100000 ∧ ∀ S, gQ n S → Q (.int (S : Int)) H
theorem iw (T : Tx K mg a) : bh P w K mg base CX0 1 a.f_size_of a.fd_size_of ["many"] vp := by
 refine T.D_size_of.F.ok jO (fun vs H Q E h => ?_) (fun cdv A outer s H vs Q E hr h => ?_)
 ·obtain ⟨n, rfl, _⟩ := h
  rfl
 obtain ⟨n, rfl, hn, q⟩ := h
 refine ⟨_, (aq (aF (i := 1) jO.nd rfl (Or.inl rfl) ao)
  (aq (pH PassesOwn.never (aM m9 (pv 1) (pv 0) (aP _)) (az (aF (i := 1) jO.nd rfl (Or.inl rfl) (aA cC ao (pv 1)))))
  (az (aC (pv 1))))), ?_⟩
 refine ⟨fun m σ H' => ∃ h : Nat, σ = [some (.int (n : Int)), some (.int ((2 ^ h : Nat) : Int))] ∧ H' = H ∧ m = n - 2 ^ h ∧ ∀ j, j < h → 2 ^ j < n, ⟨_, 0, rfl, rfl, rfl, fun j hj => absurd hj (Nat.not_lt_zero _)⟩, ?_⟩
 rintro m σ H' ⟨h, rfl, rfl, rfl, hj⟩
 refine ⟨_, rfl, _, rfl, _, _, rfl, rfl, _, rfl, aV (fun c => ?_) fun c => ?_⟩
 ·have c : ((2 ^ h : Nat) : Int) < (n : Int) := of_decide_eq_true c
  have hp : 0 < 2 ^ h := Nat.two_pow_pos h
  refine ⟨_, fun σ' H2 z => z, _, rfl, _, _, rfl, rfl, .inl ⟨by decide, by decide⟩, n - 2 ^ (h + 1), by rw [Nat.pow_succ]; omega, h + 1, ?_, rfl, rfl, fun j hj2 => ?_⟩
  ·have e : (2 : Int) * ((2 ^ h : Nat) : Int) = ((2 ^ (h + 1) : Nat) : Int) := by rw [Nat.pow_succ]; omega
   rw [← e]
   rfl
  ·rcases Nat.lt_or_ge j h with l | l
   ·exact hj j l
   ·have : j = h := by omega
    subst this
    omega
 ·have c : ¬ ((2 ^ h : Nat) : Int) < (n : Int) := fun z => c (decide_eq_true z)
  exact ⟨_, rfl, q (2 ^ h) ⟨h, rfl, by omega, hj⟩⟩
abbrev nats (l : List Nat) : List V := l.map fun n : Nat => V.int (n : Int)
def mJ : Sp := fun vs H Q _ => ∃ n st sp : Nat, vs = [.int (n : Int), .int (st : Int), .int (sp : Int)] ∧ st ≤ sp ∧ sp ≤ n ∧ Q .non H
theorem mQ (T : Tx K mg a) : bh P w K mg base CX0 1 a.f_check_stretch a.fd_check_stretch ["many", "start", "stop"] mJ := by
 refine T.D_check_stretch.F.ok mG (fun vs H Q E h => ?_) (fun cdv A outer s H vs Q E hr h => ?_)
 ·obtain ⟨n, st, sp, rfl, _⟩ := h
  rfl
 obtain ⟨n, st, sp, rfl, h1, h2, q⟩ := h
 refine ⟨_, (az (aX (eU (qj jB jB jB ao (pv 1) (pv 2) (pv 0))) (az su) aJ)), ?_⟩
 refine ⟨_, rfl, _, _, rfl, rfl, _, rfl, aV (fun _ => ?_) fun z => absurd (decide_eq_true (show (0 : Int) ≤ (st : Int) from by omega)) z⟩
 refine ⟨_, rfl, _, _, rfl, rfl, _, rfl, aV (fun _ => ?_) fun z => absurd (decide_eq_true (show (st : Int) ≤ (sp : Int) from by omega)) z⟩
 refine ⟨_, rfl, _, _, rfl, rfl, _, rfl, ?_⟩
 rw [decide_eq_true (show (sp : Int) ≤ (n : Int) from by omega)]
 exact cW q
def yx : Sp := fun vs H Q _ => ∃ many st sp : Nat, vs = [.int (many : Int), .int (st : Int), .int (sp : Int)] ∧ st ≤ sp ∧ sp ≤ many ∧ many ≤ 4096 ∧ ∀ S r H', gQ many S → H r = none → aR H H' → H' r = some (.lst (nats (cover S st sp))) → Q (.ref r) H'
theorem oZ (T : Tx K mg a) : bh P w K mg base CX0 2 a.f_cover a.fd_cover ["many", "start", "stop"] yx := by
 refine T.D_cover.F.ok cN (fun vs H Q E h => ?_) (fun cdv A outer s H vs Q E hr h => ?_)
 ·obtain ⟨n, st, sp, rfl, _⟩ := h
  rfl
 obtain ⟨n, st, sp, rfl, h1, h2, h3, q⟩ := h
 refine ⟨_, (aq (bL (aB T.D_check_stretch (mQ T) (by decide) hr aL rfl (aa (pv 0) (aa (pv 1) (aa (pv 2) aj)))))
  (aq (aF (i := 3) cN.nd rfl (Or.inl rfl) (aB T.D_size_of (iw T) (by decide) hr aL rfl (aa (pv 0) aj)))
  (aq (aF (i := 4) cN.nd rfl (Or.inl rfl) (aA bC (pv 3) (pv 1)))
  (aq (aF (i := 5) cN.nd rfl (Or.inl rfl) (aA bC (pv 3) (pv 2)))
  (aq (aF (i := 6) cN.nd rfl (Or.inl rfl) (aY aj))
  (aq (aF (i := 7) cN.nd rfl (Or.inl rfl) (aY aj))
  (aq (pH PassesOwn.never (aM m9 (pv 4) (pv 5) (aP _)) (aq (aX (aM cM (aA bD (pv 4) ao) ao (aP _)) (aq (bL (o7 PySem.F.plainAttrs_list PySem.F.slot_list_append PySem.F.type_list_append cV (pv 6) (aa (pv 4) aj)))
  (az (aF (i := 4) cN.nd rfl (Or.inl rfl) (aA bC (pv 4) ao)))) aJ)
  (aq (aX (aM cM (aA bD (pv 5) ao) ao (aP _)) (aq (aF (i := 5) cN.nd rfl (Or.inl rfl) (aA bz (pv 5) ao))
  (az (bL (o7 PySem.F.plainAttrs_list PySem.F.slot_list_append PySem.F.type_list_append cV (pv 7) (aa (pv 5) aj))))) aJ)
  (aq (aF (i := 4) cN.nd rfl (Or.inl rfl) (aA bO (pv 4) ao))
  (az (aF (i := 5) cN.nd rfl (Or.inl rfl) (aA bO (pv 5) ao)))))))
  (az (aC (aA c7 (pv 6) (uJ rfl rfl T.b_list Tw.jn rfl T.b_reversed Tw.jh (aa (pv 7) aj)))))))))))), ?_⟩
 refine ⟨_, rfl, _, rfl, _, rfl, n, st, sp, rfl, h1, h2, ?_⟩
 refine ⟨_, rfl, n, rfl, by omega, fun S hS => ?_⟩
 refine ⟨_, rfl, _, rfl, _, _, rfl, rfl, ?_⟩
 refine ⟨_, rfl, _, rfl, _, _, rfl, rfl, ?_⟩
 refine ⟨(by show 0 ≤ sizeLine; decide), fun lf hlf => ?_⟩
 refine ⟨(by show 0 ≤ sizeLine; decide), fun rg hrg => ?_⟩
 have nlr : lf ≠ rg := aO ak hrg
 have hrg0 := (au hlf (.lst [])).free hrg
 have smA := (au hlf (.lst [])).trans (au hrg (.lst []))
 have hS4 := hS.le h3
 refine ⟨fun m σ H' => ∃ (low high f : Nat) (ls rs : List Nat), σ = [some (.int (n : Int)), some (.int (st : Int)), some (.int (sp : Int)), some (.int (S : Int)), some (.int (low : Int)), some (.int (high : Int)), some (.ref lf), some (.ref rg)] ∧ m = high - low ∧ aR H H' ∧ H' lf = some (.lst (nats ls)) ∧ H' rg = some (.lst (nats rs)) ∧ high - low ≤ f ∧ pW f low high ls rs = cover S st sp ∧ ls.length + rs.length + 2 * f ≤ 20000,
  ⟨_, S + st, S + sp, sp - st, [], [], rfl, rfl, smA, by rw [aG nlr, ak]; rfl, ak, by omega, rfl, by simp; omega⟩, ?_⟩
 rintro m σ H' ⟨low, high, f, ls, rs, rfl, rfl, sm, hl, hrr, hf, hw, hz⟩
 refine ⟨_, rfl, _, rfl, _, _, rfl, rfl, _, rfl, aV (fun c => ?_) fun c => ?_⟩
 ·have c : (low : Int) < (high : Int) := of_decide_eq_true c
  obtain ⟨f, rfl⟩ : ∃ g, f = g + 1 := ⟨f - 1, by omega⟩
  unfold pW at hw
  rw [if_pos (by omega)] at hw
  refine ⟨_, fun σ' H2 z => z, ?_⟩
  refine ⟨_, rfl, _, _, rfl, rfl, (by show (0 : Int) < 2; decide), rfl, _, rfl, ?_⟩
  refine vK (fun σ H2 => ∃ (ls2 : List Nat), σ = [some (.int (n : Int)), some (.int (st : Int)), some (.int (sp : Int)), some (.int (S : Int)), some (.int ((low + low % 2 : Nat) : Int)), some (.int (high : Int)), some (.ref lf), some (.ref rg)] ∧ ls2 = (if low % 2 = 1 then ls ++ [low] else ls) ∧ aR H H2 ∧ H2 lf = some (.lst (nats ls2)) ∧ H2 rg = some (.lst (nats rs))) (fun d => ?_) ?_ (fun d m => ?_)
  ·have d : ¬ (low : Int) % 2 = 1 := fun z => d (decide_eq_true (congrArg V.int z))
   refine ⟨ls, ?_, by rw [if_neg (by omega)], sm, hl, hrr⟩
   rw [show low + low % 2 = low from by omega]
  rotate_left
  ·have d : V.int ((low : Int) % 2) = V.int 1 := of_decide_eq_true d
   injection d with d
   refine ⟨_, rfl, .inl ⟨rfl, _, SqL.of hl⟩, _, rfl, lf, _, _, rfl, rfl, hl, ?_, ?_⟩
   ·rw [List.length_map, sizeLine_eq]
    omega
   refine ⟨_, rfl, _, _, rfl, rfl, m _ _ ⟨ls ++ [low], ?_, by rw [if_pos (by omega)], cO sm hlf _, ?_, ?_⟩⟩
   ·rw [show ((low + low % 2 : Nat) : Int) = (low : Int) + 1 from by omega]
    rfl
   ·rw [ak]
    unfold nats
    rw [List.map_append]
    rfl
   ·rw [aG nlr.symm]
    exact hrr
  rintro σ2 H2 ⟨ls2, rfl, e2, sm2, hl2, hr2⟩
  refine ⟨_, rfl, _, _, rfl, rfl, (by show (0 : Int) < 2; decide), rfl, _, rfl, ?_⟩
  refine vK (fun σ H3 => ∃ (rs2 : List Nat), σ = [some (.int (n : Int)), some (.int (st : Int)), some (.int (sp : Int)), some (.int (S : Int)), some (.int ((low + low % 2 : Nat) : Int)), some (.int ((high - high % 2 : Nat) : Int)), some (.ref lf), some (.ref rg)] ∧ rs2 = (if high % 2 = 1 then rs ++ [high - 1] else rs) ∧ aR H H3 ∧ H3 lf = some (.lst (nats ls2)) ∧ H3 rg = some (.lst (nats rs2))) (fun d => ?_) ?_ (fun d m => ?_)
  ·have d : ¬ (high : Int) % 2 = 1 := fun z => d (decide_eq_true (congrArg V.int z))
   refine ⟨rs, ?_, by rw [if_neg (by omega)], sm2, hl2, hr2⟩
   rw [show high - high % 2 = high from by omega]
  rotate_left
  ·have d : V.int ((high : Int) % 2) = V.int 1 := of_decide_eq_true d
   injection d with d
   refine ⟨_, rfl, _, _, rfl, rfl, ?_⟩
   refine ⟨_, rfl, .inl ⟨rfl, _, SqL.of hr2⟩, _, rfl, rg, _, _, rfl, rfl, hr2, ?_, m _ _ ⟨rs ++ [high - 1], ?_, by rw [if_pos (by omega)], cO sm2 hrg0 _, ?_, ?_⟩⟩
   ·rw [List.length_map, sizeLine_eq]
    omega
   ·rw [show ((high - high % 2 : Nat) : Int) = (high : Int) - 1 from by omega]
    rfl
   ·rw [aG nlr]
    exact hl2
   ·rw [ak]
    unfold nats
    rw [List.map_append]
    exact congrArg (fun v => some (HO.lst (rs.map (fun n : Nat => V.int (n : Int)) ++ [v]))) (congrArg V.int (show (high : Int) - 1 = ((high - 1 : Nat) : Int) from by omega))
  rintro σ3 H3 ⟨rs2, rfl, e3, sm3, hl3, hr3⟩
  rw [← e2, ← e3] at hw
  have z2 : ls2.length ≤ ls.length + 1 := by
   rw [e2]
   split <;> simp
  have z3 : rs2.length ≤ rs.length + 1 := by
   rw [e3]
   split <;> simp
  refine ⟨_, rfl, _, _, rfl, rfl, ⟨by decide, by decide⟩, ?_⟩
  refine ⟨_, rfl, _, _, rfl, rfl, ⟨by decide, by decide⟩, (high - high % 2) / 2 - (low + low % 2) / 2, by omega, (low + low % 2) / 2, (high - high % 2) / 2, f, ls2, rs2, ?_, rfl, sm3, hl3, hr3, by omega, hw, by omega⟩
  rw [show (((low + low % 2) / 2 : Nat) : Int) = ((low + low % 2 : Nat) : Int) / 2 from by omega, show (((high - high % 2) / 2 : Nat) : Int) = ((high - high % 2 : Nat) : Int) / 2 from by omega]
  rfl
 ·have c : ¬ (low : Int) < (high : Int) := fun z => c (decide_eq_true z)
  rw [yH (by omega)] at hw
  refine ⟨_, rfl, _, rfl, rg, _, rfl, SqL.of hrr, fun l hl2 => ?_⟩
  have s2 := au hl2 (.lst (nats rs).reverse)
  refine ⟨lf, l, _, _, rfl, rfl, s2 _ _ hl, ak, ?_, fun r hr2 => ?_⟩
  ·rw [List.length_reverse, List.length_map, List.length_map, sizeLine_eq]
   omega
  refine q S r _ hS ((sm.trans s2).free hr2) (sm.trans (s2.trans (au hr2 _))) ?_
  rw [ak, ← hw]
  unfold nats
  rw [List.map_append, List.map_reverse]
def xU : Sp := fun vs H Q _ => ∃ x y : V, vs = [x, y] ∧ NI x ∧ NI y ∧ Q (qC x y) H
theorem qP (T : Tx K mg a) : bh P w K mg base CX0 1 a.f_lesser_of a.fd_lesser_of ["one", "other"] xU := by
 refine T.D_lesser_of.F.ok qR (fun vs H Q E h => ?_) (fun cdv A outer s H vs Q E hr h => ?_)
 ·obtain ⟨x, y, rfl, _⟩ := h
  rfl
 obtain ⟨x, y, rfl, hx, hy, q⟩ := h
 refine ⟨_, (aq (aX (iM (mq (pv 0))) (az (aC (pv 1))) aJ)
  (aq (aX (iM (mq (pv 1))) (az (aC (pv 0))) aJ)
  (az (aC (aW (lM rfl) rfl T.b_min Tw.jG (aa (pv 0) (aa (pv 1) aj))))))), ?_⟩
 rcases hx with rfl | ⟨i, rfl⟩
 ·rw [qO] at q
  exact ⟨_, rfl, _, rfl, ir ⟨_, rfl, q⟩⟩
 refine ⟨_, rfl, _, rfl, cW ?_⟩
 rcases hy with rfl | ⟨j, rfl⟩
 ·exact ⟨_, rfl, _, rfl, ir ⟨_, rfl, q⟩⟩
 exact ⟨_, rfl, _, rfl, cW ⟨_, rfl, _, rfl, i, j, rfl, q⟩⟩
def uW (K : PySem.W.Frag) : Sp := fun vs H Q E => ∃ (p : Addr) (ns : List Int), vs = [.ref p] ∧ SqL K H p (ns.map V.int) ∧
 ns.length ≤ 4096 ∧ ∀ S r H' xs, gQ ns.length S → H r = none → aR H H' → H' r = some (.lst xs) → eY ns S 1 xs → Q (.ref r) H'
theorem uK (T : Tx K mg a) : bh P w K mg base CX0 2 a.f_heap_of a.fd_heap_of ["numbers"] (uW K) := by
 refine T.D_heap_of.F.ok iy (fun vs H Q E h => ?_) (fun cdv A outer s H vs Q E hr h => ?_)
 ·obtain ⟨p, ns, rfl, _⟩ := h
  rfl
 obtain ⟨p, ns, rfl, hS, hl, q⟩ := h
 refine ⟨_, (aq (aX (aM jC (aW aZ rfl T.b_len Tw.dg (aa (pv 0) aj)) (bw (v := .int 4096) rfl T.c_MOST_NUMBERS ⟨_, rfl⟩) (aP _)) (az su) aJ)
  (aq (aF (i := 1) iy.nd rfl (Or.inl rfl) (aB T.D_size_of (iw T) (by decide) hr aL rfl (aa (aW aZ rfl T.b_len Tw.dg (aa (pv 0) aj)) aj)))
  (aq (aF (i := 2) iy.nd rfl (Or.inl rfl) (aA c7 (aA c7 (aA fB (aY (aa dY aj)) (pv 1)) (dz du rfl T.b_list Tw.jn (aa (pv 0) aj))) (aA fB (aY (aa dY aj)) (aA bz (pv 1) (aW aZ rfl T.b_len Tw.dg (aa (pv 0) aj))))))
  (aq (cA PassesOwn.never rfl (uF rfl T.b_range (aa (aA bz (pv 1) ao) (aa ao (aa (yD uP ao) aj)))) (bc (i := 3) iy.nd rfl (Or.inl rfl)) (az (o8 (aB T.D_lesser_of (qP T) (by decide) hr aL rfl (aa (bH cR (pv 2) (aA cC ao (pv 3)) (fun _ _ => rfl)) (aa (bH cR (pv 2) (aA bC (aA cC ao (pv 3)) ao) (fun _ _ => rfl)) aj))) (vA (pv 2) (pv 3) set_list))))
  (az (aC (pv 2))))))), ?_⟩
 have ern : (ns.map V.int).length = ns.length := List.length_map ..
 refine ⟨_, rfl, p, _, rfl, .inl hS, _, _, rfl, rfl, _, rfl, aV (fun z => ?_) fun _ => ?_⟩
 ·have z : (4096 : Int) < ((ns.map V.int).length : Int) := of_decide_eq_true z
  omega
 refine ⟨_, rfl, p, _, rfl, .inl hS, ns.length, ?_, by omega, fun S hSz => ?_⟩
 ·rw [ern]
  rfl
 have hS0 := hSz.pos
 have hS4 := hSz.le hl
 have hlS : ns.length ≤ S := by
  obtain ⟨_, _, z, _⟩ := hSz
  exact z
 refine jV (t := wg (tC .non) yf) (σ := [some (.ref p), some (.int (S : Int)), none, none]) (i := 1) (k := (S : Int)) (xs := [.non]) (fun Q' q => q) rfl (by omega) (by decide) (by omega) fun p1 H1 hp1 s1 x1 => ?_
 refine ⟨_, rfl, p, _, rfl, .inl (s1.seq hS), fun l2 hl2 => ?_⟩
 have s2 := au hl2 (.lst (ns.map V.int))
 have e1 : (List.replicate (S : Int).toNat [V.non]).flatten = List.replicate S V.non := by
  rw [Int.toNat_natCast]
  simp
 rw [e1] at x1
 refine ⟨p1, l2, _, _, rfl, rfl, s2 _ _ x1, ak, ?_, fun p3 hp3 => ?_⟩
 ·rw [ern, List.length_replicate, sizeLine_eq]
  omega
 have s3 := au hp3 (.lst (List.replicate S V.non ++ ns.map V.int))
 refine ⟨(by show 1 ≤ sizeLine; decide), fun l4 hl4 => ?_⟩
 have s4 := au hl4 (.lst [.non])
 have s14 := s1.trans (s2.trans (s3.trans s4))
 refine ⟨_, rfl, _, rfl, p, _, rfl, .inl (s14.seq hS), _, _, rfl, rfl, l4, ((S - ns.length : Nat) : Int), [.non], rfl, ?_, ak, by omega, by omega, ?_, fun p5 hp5 => ?_⟩
 ·show V.int ((S : Int) - ((ns.map V.int).length : Int)) = _
  rw [ern]
  exact congrArg V.int (by omega)
 ·rw [sizeLine_eq]
  show 1 * _ ≤ _
  omega
 have e5 : (List.replicate ((S - ns.length : Nat) : Int).toNat [V.non]).flatten = List.replicate (S - ns.length) V.non := by
  rw [Int.toNat_natCast]
  simp
 rw [e5]
 have s5 := au hp5 (.lst (List.replicate (S - ns.length) V.non))
 refine ⟨p3, p5, _, _, rfl, rfl, s5 _ _ (s4 _ _ ak), ak, ?_, fun r hr' => ?_⟩
 ·rw [List.length_append, ern, List.length_replicate, List.length_replicate, sizeLine_eq]
  omega
 have s15 := s14.trans s5
 have hr0 := s15.free hr'
 have s6 := s15.trans (au hr' (.lst (List.replicate S V.non ++ ns.map V.int ++ List.replicate (S - ns.length) V.non)))
 refine ⟨_, rfl, _, _, rfl, rfl, _, rfl, S - 1, 0, ?_, by omega, by omega, ?_⟩
 ·rw [show ((S - 1 : Nat) : Int) = (S : Int) - 1 from by omega]
  rfl
 refine yJ (n := S - 1 - 0) (fun i σ H' => (∃ k3, σ = [some (.ref p), some (.int (S : Int)), some (.ref r), k3]) ∧ aR H H' ∧ ∃ xs, H' r = some (.lst xs) ∧ eY ns S (S - i) xs) ⟨⟨none, rfl⟩, s6, _, ak, eY.start hS0 hlS⟩ ?_ ?_
 ·rintro i σ H' hi ⟨⟨k3, rfl⟩, sm, xs, hr1, hv⟩
  obtain ⟨k, rfl⟩ : ∃ k, S = k + i + 1 := ⟨S - i - 1, by omega⟩
  have ek : ((k + i + 1 - 1 : Nat) : Int) + (i : Int) * (-1) = (k : Int) := by omega
  rw [show k + i + 1 - i = k + 1 from by omega] at hv
  have hlen := hv.len
  have hx : xs[2 * k]? = some xs[2 * k] := List.getElem?_eq_getElem (by omega)
  have hy : xs[2 * k + 1]? = some xs[2 * k + 1] := List.getElem?_eq_getElem (by omega)
  have ha : atI xs (2 * (((k + i + 1 - 1 : Nat) : Int) + (i : Int) * (-1))) = some xs[2 * k] := by
   rw [ek, show 2 * (k : Int) = ((2 * k : Nat) : Int) from by omega]
   exact vJ hx
  have hb : atI xs (2 * (((k + i + 1 - 1 : Nat) : Int) + (i : Int) * (-1)) + 1) = some xs[2 * k + 1] := by
   rw [ek, show 2 * (k : Int) + 1 = ((2 * k + 1 : Nat) : Int) from by omega]
   exact vJ hy
  have hix : ixN xs.length (((k + i + 1 - 1 : Nat) : Int) + (i : Int) * (-1)) = some k := by
   rw [ek]
   exact rm (by omega)
  refine ⟨_, rfl, _, rfl, _, _, rfl, rfl, .inl ⟨by decide, by decide⟩, r, _, _, _, rfl, rfl, SqL.of hr1, ha, ?_⟩
  refine ⟨_, rfl, _, rfl, _, _, rfl, rfl, .inl ⟨by decide, by decide⟩, _, _, rfl, rfl, r, _, _, _, rfl, rfl, SqL.of hr1, hb, ?_⟩
  refine ⟨_, _, rfl, hv.ni _ (List.getElem_mem _), hv.ni _ (List.getElem_mem _), ?_⟩
  refine ⟨_, rfl, _, rfl, r, _, _, k, rfl, rfl, hr1, hix, ⟨_, rfl⟩, cO sm hr0 _, _, ak, ?_⟩
  rw [show k + i + 1 - (i + 1) = k from by omega]
  exact hv.step (by omega) (by omega) hx hy
 ·rintro σ H' ⟨⟨k3, rfl⟩, sm, xs, hr1, hv⟩
  rw [show S - (S - 1 - 0) = 1 from by omega] at hv
  exact ⟨_, rfl, q S r H' xs hSz hr0 sm hr1 hv⟩
def vG (K : PySem.W.Frag) : Sp := fun vs H Q _ => ∃ (p : Addr) (ns : List Int), vs = [.ref p] ∧ SqL K H p (ns.map V.int) ∧ ∀ b H', (b = true ↔ Tree ns) → aR H H' → Q (.bl b) H'
theorem vf (T : Tx K mg a) : bh P w K mg base CX0 1 a.f_is_tree a.fd_is_tree ["bits"] (vG K) := by
 refine T.D_is_tree.F.ok fj (fun vs H Q E h => ?_) (fun cdv A outer s H vs Q E hr h => ?_)
 ·obtain ⟨p, ns, rfl, _⟩ := h
  rfl
 obtain ⟨p, ns, rfl, hS, q⟩ := h
 refine ⟨_, (aq (aF (i := 1) fj.nd rfl (Or.inl rfl) ao)
  (aq (cA PassesOwn.never rfl (vY rfl T.b_enumerate (aa (pv 0) aj)) (jM rfl (bT (bc (i := 2) fj.nd rfl (Or.inl rfl)) (bT (bc (i := 3) fj.nd rfl (Or.inl rfl)) gU))) (aq (aX (PW.pt (jL (aM jC (pv 2) ao (aP _)) (jo (aM jB (pv 1) ao (aP _))))) (az (aC fG)) aJ)
  (az (aF (i := 1) fj.nd rfl (Or.inl rfl) (aA bz (aA bC (pv 1) (aA cC ao (pv 3))) ao)))))
  (az (aC (oE (dJ zZ (aW aZ rfl T.b_len Tw.dg (aa (pv 0) aj)) ao (aP _)) (oO (dJ cM (pv 1) ao (aP _)))))))), ?_⟩
 refine ⟨_, rfl, p, _, rfl, hS, ?_⟩
 refine yK (xs := ns.map V.int) (fun i σ H' => (∃ k2 k3, σ = [some (.ref p), some (.int (ht ns i)), k2, k3]) ∧ aR H H' ∧ ∀ k, 0 < k → k < i → 0 < ht ns k) ⟨⟨none, none, by rw [eX]; rfl⟩, aR.refl _, fun k _ h => absurd h (Nat.not_lt_zero _)⟩ ?_ ?_ ?_
 ·rintro i σ H' _ ⟨_, sm, _⟩
  exact sm.seq hS
 ·rintro i x σ H' pt hx ⟨⟨k2, k3, rfl⟩, sm, up⟩ hpt
  obtain ⟨b, hb, rfl⟩ := int_at hx
  have hi := (List.getElem?_eq_some_iff.mp hb).1
  have sm' := sm.trans (au hpt (.tup [.int (i : Int), .int b]))
  refine ⟨pt, _, rfl, SqT.of ak, rfl, _, _, rfl, _, _, rfl, rfl, ?_⟩
  have go : (0 < i → 0 < ht ns i) → (∃ k2 k3, [some (V.ref p), some (.int (ht ns i + 2 * b - 1)), some (.int (i : Int)), some (.int b)] = [some (.ref p), some (.int (ht ns (i + 1))), k2, k3]) ∧ aR H (upd H' pt (.tup [.int (i : Int), .int b])) ∧ ∀ k, 0 < k → k < i + 1 → 0 < ht ns k := fun h =>
   ⟨⟨_, _, by rw [kj hb]⟩, sm', fun k k0 k1 => by
    rcases Nat.lt_or_ge k i with l | l
    ·exact up k k0 l
    ·have : k = i := by omega
     subst this
     exact h k0⟩
  refine ⟨_, rfl, _, _, rfl, rfl, _, rfl, aV (fun c1 => ?_) fun c1 => ?_⟩
  ·have c1 : (0 : Int) < (i : Int) := of_decide_eq_true c1
   refine ⟨_, rfl, _, _, rfl, rfl, _, rfl, aV (fun c2 => ?_) fun c2 => ?_⟩
   ·have c2 : ht ns i ≤ 0 := of_decide_eq_true c2
    exact q false _ ⟨fun z => absurd z Bool.false_ne_true, fun t => by have := t.2.2 i (by omega) hi; omega⟩ sm'
   ·have c2 : ¬ ht ns i ≤ 0 := fun z => c2 (decide_eq_true z)
    exact ⟨_, rfl, _, rfl, _, _, rfl, rfl, .inl ⟨by decide, by decide⟩, _, _, rfl, rfl, _, _, rfl, rfl, go fun _ => by omega⟩
  ·have c1 : ¬ (0 : Int) < (i : Int) := fun z => c1 (decide_eq_true z)
   refine cW ?_
   exact ⟨_, rfl, _, rfl, _, _, rfl, rfl, .inl ⟨by decide, by decide⟩, _, _, rfl, rfl, _, _, rfl, rfl, go fun z => by omega⟩
 ·rintro σ H' ⟨⟨k2, k3, rfl⟩, sm, up⟩
  rw [List.length_map] at up ⊢
  refine ⟨_, rfl, p, _, rfl, .inl (sm.seq hS), _, _, rfl, rfl, _, rfl, aV (fun c1 => ?_) fun c1 => ?_⟩
  ·have c1 : (2 : Int) ≤ ((ns.map V.int).length : Int) := of_decide_eq_true c1
   rw [List.length_map] at c1
   refine ⟨_, rfl, rfl, ?_⟩
   refine q _ H' ?_ sm
   rw [decide_eq_true_iff]
   exact ⟨fun z => ⟨by omega, V.int.inj z, up⟩, fun t => congrArg V.int t.2.1⟩
  ·have c1 : ¬ (2 : Int) ≤ ((ns.map V.int).length : Int) := fun z => c1 (decide_eq_true z)
   rw [List.length_map] at c1
   exact q false H' ⟨fun z => absurd z Bool.false_ne_true, fun t => by have := t.1; omega⟩ sm
structure Tab (H : Hp) (t ah : Addr) (ns : List Int) (rest : List V) : Prop where
 tup : H t = some (.tup (.int (ns.length : Int) :: .ref ah :: rest))
 ahs : H ah = some (.tup ((ahd ns (many ns.length)).map V.int))
 few : rest.length ≤ 1
theorem Tab.same {H H' : Hp} {t ah : Addr} {ns : List Int} {rest : List V} (h : Tab H t ah ns rest) (s : aR H H') : Tab H' t ah ns rest := ⟨s _ _ h.tup, s _ _ h.ahs, h.few⟩
theorem nT (x y : V) : ∀ rest : List V, rest.length ≤ 1 → atI (x :: y :: rest) 0 = some x
 | [], _ => rfl
 | [_], _ => rfl
 | _ :: _ :: _, h => absurd h (by simp)
theorem rz (x y : V) : ∀ rest : List V, rest.length ≤ 1 → atI (x :: y :: rest) 1 = some y
 | [], _ => rfl
 | [_], _ => rfl
 | _ :: _ :: _, h => absurd h (by simp)
theorem za {ns : List Int} {n j : Nat} (h : j ≤ n) : atI ((ahd ns n).map V.int) (j : Int) = some (.int (ns.take (32 * j)).sum) := j8 (zQ h)
def sH (K : PySem.W.Frag) (C1 C2 : Addr) : Sp := fun vs H Q E => ∃ (p : Addr) (ns : List Int), vs = [.ref p] ∧ SqL K H p (ns.map V.int) ∧
 ((ns.length ≤ 4096 ∧ aK ns ∧ ∀ r b t ah H', H b = none → aR H H' → H' r = some (.tup [.ref t, .ref b]) → H' t = some (.tup [.int (ns.length : Int), .ref ah]) → H' ah = some (.tup ((ahd ns (many ns.length)).map V.int)) → H' b = some (.lst ((cZ ns).map V.int)) → Q (.ref r) H') ∨ (4096 < ns.length ∧ E (.ref C1) none H) ∨ (ns.length ≤ 4096 ∧ ¬ aK ns ∧ E (.ref C2) none H))
theorem sY (T : Tx K mg a) : bh P w K mg base (CX1 P w) 5 a.f_kept_row a.fd_kept_row ["bits"] (sH K a.c_TooMany a.c_NoBit) := by
 refine T.D_kept_row.F.ok1 mY (fun vs H Q E h => ?_) (fun cdv A outer s H vs Q E hr h => ?_)
 ·obtain ⟨p, ns, rfl, _⟩ := h
  rfl
 obtain ⟨p, ns, rfl, hS, h⟩ := h
 refine ⟨_, (aq (aF (i := 1) mY.nd rfl (Or.inl rfl) (aB T.D_packed (xx T) (by decide) hr bY rfl (aa (pv 0) aj)))
  (az (aC (gj (aa (gj (aa (aW aZ rfl T.b_len Tw.dg (aa (pv 0) aj)) (aa (aB T.D_ahead_of (sr T) (by decide) hr aL rfl (aa (pv 1) aj)) aj))) (aa (pv 1) aj)))))), ?_⟩
 rcases h with ⟨hl, hb, q⟩ | h | h
 rotate_left
 ·exact ⟨_, rfl, p, ns, rfl, hS, .inr (.inl h)⟩
 ·exact ⟨_, rfl, p, ns, rfl, hS, .inr (.inr h)⟩
 refine ⟨_, rfl, p, ns, rfl, hS, .inl ⟨hl, hb, fun b H1 hb0 sm1 h1 => ?_⟩⟩
 refine ⟨_, rfl, p, _, rfl, .inl (sm1.seq hS), _, rfl, b, cZ ns, rfl, SqL.of h1, ?_, fun ah H2 hah sm2 h2 => ?_⟩
 ·rw [iB]
  unfold many
  omega
 rw [rK hb] at h2
 have ern : (ns.map V.int).length = ns.length := List.length_map ..
 rw [ern]
 refine ⟨(by show 2 ≤ sizeLine; decide), fun t ht => ⟨_, rfl, (by show 2 ≤ sizeLine; decide), fun r hr' => ?_⟩⟩
 have s3 := au ht (.tup [.int (ns.length : Int), .ref ah])
 have s4 := au hr' (.tup [.ref t, .ref b])
 exact q r b t ah _ hb0 (sm1.trans (sm2.trans (s3.trans s4))) ak (s4 _ _ ak) (s4 _ _ (s3 _ _ h2)) (s4 _ _ (s3 _ _ (sm2 _ _ h1)))
def kI (K : PySem.W.Frag) (C1 C2 C3 : Addr) : Sp := fun vs H Q E => ∃ (p : Addr) (ns : List Int), vs = [.ref p] ∧ SqL K H p (ns.map V.int) ∧
 ((ns.length ≤ 4096 ∧ aK ns ∧ Tree ns ∧ ∀ H', aR H H' → Q .non H') ∨ (4096 < ns.length ∧ E (.ref C1) none H) ∨ (ns.length ≤ 4096 ∧ ¬ aK ns ∧ E (.ref C2) none H) ∨ (ns.length ≤ 4096 ∧ aK ns ∧ ¬ Tree ns ∧ ∀ H', aR H H' → E (.ref C3) none H'))
theorem jT (T : Tx K mg a) : bh P w K mg base (CX1 P w) 2 a.f_check_brackets a.fd_check_brackets ["bits"] (kI K a.c_TooMany a.c_NoBit a.c_NoTree) := by
 refine T.D_check_brackets.F.ok1 j4 (fun vs H Q E h => ?_) (fun cdv A outer s H vs Q E hr h => ?_)
 ·obtain ⟨p, ns, rfl, _⟩ := h
  rfl
 obtain ⟨p, ns, rfl, hS, h⟩ := h
 refine ⟨_, (aq (bL (aB T.D_check_row (jW T) (by decide) hr bY rfl (aa (pv 0) aj)))
  (az (aX (eU (fZ (aB T.D_is_tree (vf T) (by decide) hr aL rfl (aa (pv 0) aj)))) (az (gM T.x_NoTree rfl (aa lE aj))) aJ))), ?_⟩
 refine ⟨_, rfl, p, ns, rfl, hS, ?_⟩
 rcases h with ⟨hl, hb, ht, q⟩ | h | h | ⟨hl, hb, ht, q⟩
 ·refine .inl ⟨hl, hb, ⟨_, rfl, p, ns, rfl, hS, fun b H' hbt sm => ?_⟩⟩
  have : b = true := hbt.mpr ht
  subst this
  exact ⟨true, rfl, cW (q H' sm)⟩
 ·exact .inr (.inl h)
 ·exact .inr (.inr h)
 ·refine .inl ⟨hl, hb, ⟨_, rfl, p, ns, rfl, hS, fun b H' hbt sm => ?_⟩⟩
  have : b = false := by
   cases b with
   | false => rfl
   | true => exact absurd (hbt.mp rfl) ht
  subst this
  exact ⟨false, rfl, ir ⟨(by show 1 ≤ sizeLine; decide), q H' sm⟩⟩
def uX : Sp := fun vs H Q _ => ∃ (t ah : Addr) (ns : List Int) (rest : List V) (j : Nat), vs = [.ref t, .int (j : Int)] ∧ Tab H t ah ns rest ∧ j ≤ many ns.length ∧ Q (.int (ht ns (32 * j))) H
theorem g8 (T : Tx K mg a) : bh P w K mg base CX0 1 a.f_base_of a.fd_base_of ["tables", "number"] uX := by
 refine T.D_base_of.F.ok uE (fun vs H Q E h => ?_) (fun cdv A outer s H vs Q E hr h => ?_)
 ·obtain ⟨t, ah, ns, rest, j, rfl, _⟩ := h
  rfl
 obtain ⟨t, ah, ns, rest, j, rfl, hT, hj, q⟩ := h
 refine ⟨_, (az (aC (aA bz (aA cC ao (bH bW (bH bW (pv 0) ao (fun _ _ => rfl)) (pv 1) (fun _ _ => rfl))) (aA cC (bw (v := .int 32) rfl T.c_BLOCK_BITS ⟨_, rfl⟩) (pv 1))))), ?_⟩
 refine ⟨_, rfl, t, _, _, _, rfl, rfl, SqT.of hT.tup, rz _ _ _ hT.few, _, rfl, ah, _, _, _, rfl, rfl, SqT.of hT.ahs, za hj, _, _, rfl, rfl, .inl ⟨by decide, by decide⟩, _, rfl, _, _, rfl, rfl, .inl ⟨by decide, by decide⟩, _, _, rfl, rfl, ?_⟩
 unfold ht at q
 rw [show ((32 * j : Nat) : Int) = 32 * (j : Int) from by omega] at q
 exact q
def pX : Sp := fun vs H Q _ => ∃ (j n : Nat), vs = [.int (j : Int), .int (n : Int)] ∧ 32 * j ≤ n ∧ Q (.int (wide n j : Nat)) H
theorem dI (T : Tx K mg a) : bh P w K mg base CX0 1 a.f_end_within a.fd_end_within ["number", "upto"] pX := by
 refine T.D_end_within.F.ok pR (fun vs H Q E h => ?_) (fun cdv A outer s H vs Q E hr h => ?_)
 ·obtain ⟨j, n, rfl, _⟩ := h
  rfl
 obtain ⟨j, n, rfl, hj, q⟩ := h
 refine ⟨_, (az (aC (aW (lM rfl) rfl T.b_min Tw.jG (aa (aA bz (pv 1) (aA cC (bw (v := .int 32) rfl T.c_BLOCK_BITS ⟨_, rfl⟩) (pv 0))) (aa (bw (v := .int 32) rfl T.c_BLOCK_BITS ⟨_, rfl⟩) aj))))), ?_⟩
 refine ⟨_, rfl, _, rfl, _, _, rfl, rfl, .inl ⟨by decide, by decide⟩, _, _, rfl, rfl, _, _, rfl, ?_⟩
 have e : (if (32 : Int) < (n : Int) - 32 * (j : Int) then (32 : Int) else (n : Int) - 32 * (j : Int)) = ((wide n j : Nat) : Int) := by
  unfold wide
  split <;> omega
 rw [← e] at q
 exact q
def xT : Sp := fun vs H Q _ => ∃ (t ah : Addr) (ns : List Int) (rest : List V) (j : Nat), vs = [.ref t, .int (j : Int), .int (bM ns j)] ∧ Tab H t ah ns rest ∧ aK ns ∧ 32 * j < ns.length ∧ ∀ m H', qm ns j m → aR H H' → Q (.int m) H'
theorem wZ (T : Tx K mg a) : bh P w K mg base CX0 5 a.f_low_of a.fd_low_of ["tables", "number", "block"] xT := by
 refine T.D_low_of.F.ok xm (fun vs H Q E h => ?_) (fun cdv A outer s H vs Q E hr h => ?_)
 ·obtain ⟨t, ah, ns, rest, j, rfl, _⟩ := h
  rfl
 obtain ⟨t, ah, ns, rest, j, rfl, hT, hb, hj, q⟩ := h
 refine ⟨_, (az (aC (aA bC (aB T.D_base_of (g8 T) (by decide) hr aL rfl (aa (pv 0) (aa (pv 1) aj))) (aB T.D_low_in (wy T) (by decide) hr aL rfl (aa (pv 2) (aa (aB T.D_end_within (dI T) (by decide) hr aL rfl (aa (pv 1) (aa (bH bW (pv 0) ao (fun _ _ => rfl)) aj))) aj)))))), ?_⟩
 have hm : j ≤ many ns.length := by
  unfold many
  omega
 have hw : 1 ≤ wide ns.length j ∧ wide ns.length j ≤ 32 := by
  unfold wide
  omega
 refine ⟨_, rfl, _, rfl, t, ah, ns, rest, j, rfl, hT, hm, ?_⟩
 refine ⟨_, rfl, _, rfl, _, rfl, t, _, _, _, rfl, rfl, SqT.of hT.tup, nT _ _ _ hT.few, j, ns.length, rfl, by omega, ?_⟩
 refine ⟨bM ns j, ((wide ns.length j : Nat) : Int), rfl, by omega, by omega, fun M H' hM sm => ⟨_, _, rfl, rfl, ?_⟩⟩
 rw [Int.toNat_natCast] at hM
 exact q _ H' (qm.of hb hM.1 hM.2) sm
structure KB (H : Hp) (t ah nd bl : Addr) (ns lows : List Int) (S : Nat) (xs : List V) : Prop where
 tab : Tab H t ah ns [.ref nd]
 nds : H nd = some (.tup xs)
 bls : H bl = some (.lst ((cZ ns).map V.int))
 low : rD ns lows
 sz : gQ lows.length S
 heap : eY lows S 1 xs
def lJ (K : PySem.W.Frag) (C1 C2 C3 : Addr) : Sp := fun vs H Q E => ∃ (p : Addr) (ns : List Int), vs = [.ref p] ∧ SqL K H p (ns.map V.int) ∧
 ((ns.length ≤ 4096 ∧ aK ns ∧ Tree ns ∧ ∀ r t ah nd bl lows S xs H', H bl = none → H r = none → H t = none → aR H H' → H' r = some (.tup [.ref t, .ref bl]) → KB H' t ah nd bl ns lows S xs → Q (.ref r) H') ∨ (4096 < ns.length ∧ E (.ref C1) none H) ∨ (ns.length ≤ 4096 ∧ ¬ aK ns ∧ E (.ref C2) none H) ∨ (ns.length ≤ 4096 ∧ aK ns ∧ ¬ Tree ns ∧ ∀ H', aR H H' → E (.ref C3) none H'))
theorem dC (T : Tx K mg a) : bh P w K mg base (CX1 P w) 6 a.f_kept_brackets a.fd_kept_brackets ["bits"] (lJ K a.c_TooMany a.c_NoBit a.c_NoTree) := by
 refine T.D_kept_brackets.F.ok1 bZ (fun vs H Q E h => ?_) (fun cdv A outer s H vs Q E hr h => ?_)
 ·obtain ⟨p, ns, rfl, _⟩ := h
  rfl
 obtain ⟨p, ns, rfl, hS, h⟩ := h
 refine ⟨_, (aq (bL (aB T.D_check_brackets (jT T) (by decide) hr bY rfl (aa (pv 0) aj)))
  (aq (aF (i := 1) bZ.nd rfl (Or.inl rfl) (aB T.D_kept_row (sY T) (by decide) hr bY rfl (aa (pv 0) aj)))
  (aq (aF (i := 2) bZ.nd rfl (Or.inr rfl) (bH bW (pv 1) ao (fun _ _ => rfl)))
  (aq (aF (i := 3) bZ.nd rfl (Or.inl rfl) (bH bW (pv 1) ao (fun _ _ => rfl)))
  (aq (tD (i := 4) bZ.nd rfl rfl rfl ⟨(eQ.one (j := 2) rfl (Or.inl rfl) rfl rfl (Or.inl rfl)), rfl, by decide⟩ (vY rfl T.b_enumerate (aa (pv 3) aj)) (fun _ _ _ _ => (aB T.D_low_of (wZ T) (by decide) hr aL rfl (aa (pv 2) (aa (pv 0) (aa (pv 1) aj))))))
  (az (aC (gj (aa (gj (aa (bH bW (pv 2) ao (fun _ _ => rfl)) (aa (bH bW (pv 2) ao (fun _ _ => rfl)) (aa (dz jw rfl T.b_tuple Tw.um (aa (aB T.D_heap_of (uK T) (by decide) hr aL rfl (aa (pv 4) aj)) aj)) aj)))) (aa (pv 3) aj)))))))))), ?_⟩
 refine ⟨_, rfl, p, ns, rfl, hS, ?_⟩
 rcases h with ⟨hl, hb, ht, q⟩ | h
 rotate_left
 ·exact .inr h
 refine .inl ⟨hl, hb, ht, fun H1 s1 => ?_⟩
 refine ⟨_, rfl, p, ns, rfl, s1.seq hS, .inl ⟨hl, hb, fun r b t ah H2 hb0 s2 xr xt xa xb => ?_⟩⟩
 have hT : Tab H2 t ah ns [] := ⟨xt, xa, by decide⟩
 refine ⟨_, rfl, r, _, _, _, rfl, rfl, SqT.of xr, rfl, ?_⟩
 refine ⟨_, rfl, r, _, _, _, rfl, rfl, SqT.of xr, rfl, ?_⟩
 have hpl := iB ns
 have hml : many ns.length ≤ 128 := by
  unfold many
  omega
 refine ⟨_, rfl, b, _, rfl, SqL.of xb, ?_⟩
 refine uD (qm ns) (SqL.of xb) (by rw [hpl, sizeLine_eq]; omega) (fun i c H' Q hc sm qq => ?_) fun D H3 ls hD s3 xD hlen hR => ?_
 ·have hi := (List.getElem?_eq_some_iff.mp hc).1
  rw [hpl] at hi
  rw [lO hi] at hc
  cases hc
  refine ⟨_, rfl, _, rfl, _, rfl, t, ah, ns, [], i, rfl, hT.same sm, hb, ?_, qq⟩
  unfold many at hi
  omega
 have hLo : rD ns ls := ⟨by rw [hlen, hpl], hR⟩
 refine ⟨_, rfl, t, _, _, _, rfl, rfl, SqT.of (s3 _ _ hT.tup), rfl, ?_⟩
 refine ⟨_, rfl, t, _, _, _, rfl, rfl, SqT.of (s3 _ _ hT.tup), rfl, ?_⟩
 refine ⟨_, rfl, D, ls, rfl, SqL.of xD, by omega, fun S r4 H4 xs hSz hr4 s4 x4 hv => ?_⟩
 refine ⟨r4, _, rfl, .inl ⟨SqL.of x4, fun nd hnd => ?_⟩⟩
 have s5 := au hnd (.tup xs)
 refine ⟨(by show 3 ≤ sizeLine; decide), fun t6 ht6 => ?_⟩
 have s6 := au ht6 (.tup [.int (ns.length : Int), .ref ah, .ref nd])
 refine ⟨_, rfl, (by show 2 ≤ sizeLine; decide), fun r7 hr7 => ?_⟩
 have s7 := au hr7 (.tup [.ref t6, .ref b])
 have sA := s3.trans (s4.trans (s5.trans (s6.trans s7)))
 refine q r7 t6 ah nd b ls S xs _ (s1.free hb0) ((s1.trans (s2.trans (s3.trans (s4.trans (s5.trans s6))))).free hr7) ((s1.trans (s2.trans (s3.trans (s4.trans s5)))).free ht6) (s1.trans (s2.trans sA)) ak ⟨⟨s7 _ _ ak, sA _ _ hT.ahs, Nat.le_refl _⟩, s7 _ _ (s6 _ _ ak), sA _ _ xb, hLo, hSz, hv⟩
def ph (C : Addr) : Sp := fun vs H Q E => ∃ at0 most : Int, vs = [.int at0, .int most] ∧ ((0 ≤ at0 ∧ at0 ≤ most ∧ Q .non H) ∨ ((at0 < 0 ∨ most < at0) ∧ E (.ref C) none H))
theorem di (T : Tx K mg a) : bh P w K mg base (CX1 P w) 1 a.f_check_place a.fd_check_place ["at", "most"] (ph a.c_NoPlace) := by
 refine T.D_check_place.F.ok1 nZ (fun vs H Q E h => ?_) (fun cdv A outer s H vs Q E hr h => ?_)
 ·obtain ⟨p, m, rfl, _⟩ := h
  rfl
 obtain ⟨at0, most, rfl, h⟩ := h
 refine ⟨_, (az (aX (PW.pt (rZ (aM m9 (pv 0) ao (aP _)) (rO (aM jC (pv 0) (pv 1) (aP _))))) (az (gM T.x_NoPlace rfl (aa lE aj))) aJ)), ?_⟩
 refine ⟨_, rfl, _, _, rfl, rfl, _, rfl, aV (fun c => ?_) fun c => ?_⟩
 ·have c := of_decide_eq_true c
  rcases h with ⟨h0, _⟩ | ⟨_, q⟩
  ·omega
  ·exact ir ⟨(by show 1 ≤ sizeLine; decide), q⟩
 have c : ¬ at0 < 0 := fun z => c (decide_eq_true z)
 refine ⟨_, rfl, _, rfl, _, _, rfl, rfl, _, rfl, aV (fun c2 => ?_) fun c2 => ?_⟩
 ·have c2 := of_decide_eq_true c2
  rcases h with ⟨h0, h1, _⟩ | ⟨_, q⟩
  ·omega
  ·exact ⟨(by show 1 ≤ sizeLine; decide), q⟩
 have c2 : ¬ most < at0 := fun z => c2 (decide_eq_true z)
 rcases h with ⟨_, _, q⟩ | ⟨z, _⟩
 ·exact q
 ·omega
theorem dM (_ : Tx K mg a) : m5 P w K mg base 1 zJ := by
 refine Bb tK (fun _ _ _ _ _ us hl => match us, hl with | [_], _ => rfl) fun f vs H Q h => ?_
 obtain ⟨L, ss, n, x, rfl, rfl, hA, hls, hat, q⟩ := h
 obtain ⟨h1, h2, cs, ca⟩ := hA.look
 refine ⟨rfl, cs, [.ref L.bl], ca, fun cd A outer s hr => ⟨_, (az (aC (bH cR (pv 1) (pv 0) (fun _ _ => rfl)))), ?_⟩⟩
 rw [h2, Nat.zero_add] at hat
 refine ⟨_, rfl, _, rfl, L.bl, _, _, _, rfl, rfl, SqL.of (by rw [bG (iW.out ca hA.nodes)]; exact hA.nodes), vJ hat, ?_⟩
 show Q x (over H cs (hide H cs))
 rw [qd]
 rw [LK.put_none h1] at q
 exact q
def pO (Pt : Addr) : Sp := fun vs H Q _ => ∃ (bl : Addr) (xs : List V), vs = [.ref bl] ∧ H bl = some (.lst xs) ∧ TabAt H Pt (oX bI) bV.qual ∧
 ∀ f H2, H f = none → jA Pt H H2 → TabAt H2 Pt (oX bI) bV.qual → Asks H2 ⟨f, none, bl, 0, xs⟩ [] → Q (.ref f) H2
theorem jc (T : Tx K mg a) (B : Bs mg base a) : bh P w K mg base CX0 1 a.f_law_look_of a.fd_law_look_of ["_law_blocks"] (pO a.tP_law_look_of) := by
 refine Fun.maker0 (T := bV) (pos := oX bI) T.D_law_look_of.F jf o9 B.bm T.w_law_look_of B.C_law_look_of (fun vs H Q E h => ?_) rfl (fun vs H Q E h => ?_)
 ·obtain ⟨bl, xs, rfl, _⟩ := h
  rfl
 obtain ⟨bl, xs, rfl, hb, hT, q⟩ := h
 refine ⟨hT, [.ref bl], fun j m e => ?_, rfl, fun fi cs H2 n1 n2 n3 n4 n5 => q fi H2 n1 n3 n4 ⟨⟨rfl, rfl, cs, n5⟩, nofun, n3 _ _ hb (TabAt.ne hT hb nofun), by simp⟩⟩
 match j, e with
 | 0, e => cases e; exact ⟨_, rfl, rfl⟩
 | j + 1, e => simp at e
structure Ask (H : Hp) (t : Addr) (L : LK) (ah : Addr) (ns ss : List Int) (rest : List V) : Prop where
 tab : Tab H t ah ns rest
 asks : Asks H L ss
 bits : aK ns
 len : ns.length ≤ 4096
 blk : ∀ n, n < many ns.length → L.all[L.off + n]? = some (.int (bM ns n))
theorem Ask.same {H H' : Hp} {t : Addr} {L : LK} {ah : Addr} {ns ss : List Int} {rest : List V} (h : Ask H t L ah ns ss rest) (s : aR H H') : Ask H' t L ah ns ss rest := ⟨h.tab.same s, h.asks.same s, h.bits, h.len, h.blk⟩
theorem Ask.more {H : Hp} {t : Addr} {L : LK} {ah : Addr} {ns ss tt : List Int} {rest : List V} (h : Ask H t L ah ns ss rest) (hl : tt.length ≤ 1000) : Ask (L.put H tt) t L ah ns tt rest :=
 ⟨⟨h.asks.putT h.tab.tup, h.asks.putT h.tab.ahs, h.tab.few⟩, h.asks.more hl, h.bits, h.len, h.blk⟩
def bQ (n k : Nat) (ss ss' : List Int) : Prop := ∃ tt : List Int, ss' = ss ++ tt ∧ tt.length ≤ k ∧ ∀ x ∈ tt, 0 ≤ x ∧ x < n
theorem bQ.none {n k : Nat} (ss : List Int) : bQ n k ss ss := ⟨[], by simp, by simp, nofun⟩
theorem bQ.one {n : Nat} (ss : List Int) {i : Int} (h0 : 0 ≤ i) (h1 : i < n) : bQ n 1 ss (ss ++ [i]) := ⟨[i], rfl, by simp, fun x hx => by rw [List.mem_singleton.mp hx]; exact ⟨h0, h1⟩⟩
theorem bQ.trans {n j k : Nat} {a b c : List Int} (h : bQ n j a b) (h' : bQ n k b c) : bQ n (j + k) a c := by
 obtain ⟨t, rfl, l, m⟩ := h
 obtain ⟨u, rfl, l', m'⟩ := h'
 refine ⟨t ++ u, by rw [List.append_assoc], by rw [List.length_append]; omega, fun x hx => ?_⟩
 rcases List.mem_append.mp hx with hx | hx
 ·exact m x hx
 ·exact m' x hx
theorem bQ.le {n j k : Nat} {a b : List Int} (h : bQ n j a b) (hk : j ≤ k) : bQ n k a b := by
 obtain ⟨t, e, l, m⟩ := h
 exact ⟨t, e, by omega, m⟩
theorem bQ.len {n k : Nat} {a b : List Int} (h : bQ n k a b) : b.length ≤ a.length + k := by
 obtain ⟨t, rfl, l, m⟩ := h
 rw [List.length_append]
 omega
theorem Ask.wr {H : Hp} {t : Addr} {L : LK} {ah : Addr} {ns ss : List Int} {rest : List V} (h : Ask H t L ah ns ss rest) {n : Nat} (hn : n < many ns.length) : bQ L.all.length 1 ss (ss ++ [((L.off + n : Nat) : Int)]) := by
 have := (List.getElem?_eq_some_iff.mp (h.blk n hn)).1
 exact bQ.one ss (by omega) (by omega)
def uZ (C : Addr) : Sp := fun vs H Q E => ∃ (t : Addr) (L : LK) (ah : Addr) (ns ss : List Int) (rest : List V) (at1 : Int), vs = [.ref t, .ref L.f, .int at1] ∧ Ask H t L ah ns ss rest ∧
 ((∃ at0 : Nat, at1 = (at0 : Int) ∧ ss.length < 1000 ∧ at0 ≤ ns.length ∧ ∀ ss' H', bQ L.all.length 1 ss ss' → aR (L.put H ss') H' → Q (.int (ns.take at0).sum) H') ∨ ((at1 < 0 ∨ (ns.length : Int) < at1) ∧ E (.ref C) none H))
theorem vq (T : Tx K mg a) : bh P w K mg base (CX1 P w) 4 a.f_ones_at a.fd_ones_at ["tables", "look", "at"] (uZ a.c_NoPlace) := by
 refine T.D_ones_at.F.ok1 fW (fun vs H Q E h => ?_) (fun cdv A outer s H vs Q E hr h => ?_)
 ·obtain ⟨t, L, ah, ns, ss, rest, at1, rfl, _⟩ := h
  rfl
 obtain ⟨t, L, ah, ns, ss, rest, at1, rfl, hA, h⟩ := h
 refine ⟨_, (aq (aF (i := 3) fW.nd rfl (Or.inl rfl) (bH bW (pv 0) ao (fun _ _ => rfl)))
  (aq (aF (i := 4) fW.nd rfl (Or.inl rfl) (bH bW (pv 0) ao (fun _ _ => rfl)))
  (aq (bL (aB T.D_check_place (di T) (by decide) hr bY rfl (aa (pv 2) (aa (pv 3) aj))))
  (aq (aF (i := 5) fW.nd rfl (Or.inl rfl) (aA bO (pv 2) (bw (v := .int 32) rfl T.c_BLOCK_BITS ⟨_, rfl⟩)))
  (aq (aF (i := 6) fW.nd rfl (Or.inl rfl) (aA bD (pv 2) (bw (v := .int 32) rfl T.c_BLOCK_BITS ⟨_, rfl⟩)))
  (aq (aX (aM cM (pv 6) ao (aP _)) (az (aC (bH bW (pv 4) (pv 5) (fun _ _ => rfl)))) aJ)
  (az (aC (aA bC (bH bW (pv 4) (pv 5) (fun _ _ => rfl)) (aB T.D_ones_in (oF T) (by decide) hr aL rfl (aa (dw ((dM T).mono (by decide)) hr (i := 1) rfl (aa (pv 5) aj)) (aa (pv 6) aj)))))))))))), ?_⟩
 refine ⟨_, rfl, t, _, _, _, rfl, rfl, SqT.of hA.tab.tup, nT _ _ _ hA.tab.few, ?_⟩
 refine ⟨_, rfl, t, _, _, _, rfl, rfl, SqT.of hA.tab.tup, rz _ _ _ hA.tab.few, ?_⟩
 refine ⟨_, rfl, _, rfl, at1, (ns.length : Int), rfl, ?_⟩
 rcases h with ⟨at0, rfl, hls, hat0, q⟩ | ⟨hbad, qe⟩
 rotate_left
 ·exact .inr ⟨hbad, qe⟩
 refine .inl ⟨by omega, by omega, ?_⟩
 refine ⟨_, rfl, _, _, rfl, rfl, ⟨by decide, by decide⟩, ?_⟩
 refine ⟨_, rfl, _, _, rfl, rfl, (by show (0 : Int) < 32; decide), ?_⟩
 have ej : (at0 : Int) / 32 = ((at0 / 32 : Nat) : Int) := by omega
 have hat : atI ((ahd ns (many ns.length)).map V.int) ((at0 : Int) / 32) = some (.int (ns.take (32 * (at0 / 32))).sum) := by
  rw [ej]
  exact za (by unfold many; omega)
 refine ⟨_, rfl, rfl, _, rfl, aV (fun c => ?_) fun c => ?_⟩
 ·have c : V.int ((at0 : Int) % 32) = V.int 0 := of_decide_eq_true c
  injection c with c
  refine ⟨_, rfl, _, rfl, ah, _, _, _, rfl, rfl, SqT.of hA.tab.ahs, hat, ?_⟩
  have := q ss H (bQ.none ss) (by rw [hA.asks.id]; exact aR.refl _)
  rw [show at0 = 32 * (at0 / 32) from by omega] at this
  exact this
 have c : (at0 : Int) % 32 ≠ 0 := fun z => c (decide_eq_true (congrArg V.int z))
 obtain ⟨o, fd, e1, g1⟩ := hA.asks.look.fn
 have hm : at0 / 32 < many ns.length := by
  unfold many
  omega
 refine ⟨_, rfl, _, rfl, ah, _, _, _, rfl, rfl, SqT.of hA.tab.ahs, hat, L.f, o, fd, rfl, e1, g1, _, rfl, e1, L, ss, at0 / 32, _, rfl, congrArg (fun v => [v]) (congrArg V.int ej), hA.asks, hls, hA.blk _ (by first | exact hm | omega), ?_⟩
 refine ⟨_, rfl, _, _, rfl, (show 0 ≤ (at0 : Int) % 32 from by omega), (show (at0 : Int) % 32 ≤ 32 from by omega), fun H' sm => ⟨_, _, rfl, rfl, ?_⟩⟩
 have := q _ H' (hA.wr hm) sm
 have e : (ns.take at0).sum = (ns.take (32 * (at0 / 32))).sum + ones (bM ns (at0 / 32)) ((at0 : Int) % 32).toNat := by
  rw [qF hA.bits _ _ (by omega)]
  congr 2
  omega
 rw [e] at this
 exact this
def wA (C : Addr) : Sp := fun vs H Q E => ∃ (t : Addr) (L : LK) (ah : Addr) (ns ss : List Int) (rest : List V) (at1 : Int), vs = [.ref t, .ref L.f, .int at1] ∧ Ask H t L ah ns ss rest ∧
 ((∃ at0 : Nat, at1 = (at0 : Int) ∧ ss.length < 1000 ∧ at0 ≤ ns.length ∧ ∀ ss' H', bQ L.all.length 1 ss ss' → aR (L.put H ss') H' → Q (.int (ht ns at0)) H') ∨ ((at1 < 0 ∨ (ns.length : Int) < at1) ∧ E (.ref C) none H))
theorem fc (T : Tx K mg a) : bh P w K mg base (CX1 P w) 5 a.f_height a.fd_height ["tables", "look", "at"] (wA a.c_NoPlace) := by
 refine T.D_height.F.ok1 wI (fun vs H Q E h => ?_) (fun cdv A outer s H vs Q E hr h => ?_)
 ·obtain ⟨t, L, ah, ns, ss, rest, at1, rfl, _⟩ := h
  rfl
 obtain ⟨t, L, ah, ns, ss, rest, at1, rfl, hA, h⟩ := h
 refine ⟨_, (az (aC (aA bz (aA cC ao (aB T.D_ones_at (vq T) (by decide) hr bY rfl (aa (pv 0) (aa (pv 1) (aa (pv 2) aj))))) (pv 2)))), ?_⟩
 refine ⟨_, rfl, _, rfl, _, rfl, t, L, ah, ns, ss, rest, at1, rfl, hA, ?_⟩
 rcases h with ⟨at0, rfl, hls, hat0, q⟩ | h
 ·exact .inl ⟨at0, rfl, hls, hat0, fun ss' H' w sm => ⟨_, _, rfl, rfl, .inl ⟨by decide, by decide⟩, _, rfl, _, _, rfl, rfl, q ss' H' w sm⟩⟩
 ·exact .inr h
def wj (C : Addr) : Sp := fun vs H Q E => ∃ (t : Addr) (L : LK) (ah : Addr) (ns ss : List Int) (rest : List V) (at1 : Int), vs = [.ref t, .ref L.f, .int at1] ∧ Ask H t L ah ns ss rest ∧
 ((∃ (at0 : Nat) (b : Int), at1 = (at0 : Int) ∧ ss.length < 1000 ∧ ns[at0]? = some b ∧ ∀ ss' H', bQ L.all.length 1 ss ss' → aR (L.put H ss') H' → Q (.int b) H') ∨ ((at1 < 0 ∨ (ns.length : Int) ≤ at1) ∧ E (.ref C) none H))
theorem xu (T : Tx K mg a) : bh P w K mg base (CX1 P w) 2 a.f_bit_at a.fd_bit_at ["tables", "look", "at"] (wj a.c_NoPlace) := by
 refine T.D_bit_at.F.ok1 xg (fun vs H Q E h => ?_) (fun cdv A outer s H vs Q E hr h => ?_)
 ·obtain ⟨t, L, ah, ns, ss, rest, at1, rfl, _⟩ := h
  rfl
 obtain ⟨t, L, ah, ns, ss, rest, at1, rfl, hA, h⟩ := h
 refine ⟨_, (aq (bL (aB T.D_check_place (di T) (by decide) hr bY rfl (aa (pv 2) (aa (aA bz (bH bW (pv 0) ao (fun _ _ => rfl)) ao) aj))))
  (az (aC (aB T.D_bit_in (qw T) (by decide) hr aL rfl (aa (dw ((dM T).mono (by decide)) hr (i := 1) rfl (aa (aA bO (pv 2) (bw (v := .int 32) rfl T.c_BLOCK_BITS ⟨_, rfl⟩)) aj)) (aa (aA bD (pv 2) (bw (v := .int 32) rfl T.c_BLOCK_BITS ⟨_, rfl⟩)) aj)))))), ?_⟩
 refine ⟨_, rfl, _, rfl, t, _, _, _, rfl, rfl, SqT.of hA.tab.tup, nT _ _ _ hA.tab.few, _, _, rfl, rfl, at1, (ns.length : Int) - 1, rfl, ?_⟩
 rcases h with ⟨at0, b, rfl, hls, hb, q⟩ | ⟨hbad, qe⟩
 rotate_left
 ·exact .inr ⟨by omega, qe⟩
 have hat0 := (List.getElem?_eq_some_iff.mp hb).1
 refine .inl ⟨by omega, by omega, ?_⟩
 obtain ⟨o, fd, e1, g1⟩ := hA.asks.look.fn
 have hm : at0 / 32 < many ns.length := by
  unfold many
  omega
 have ej : (at0 : Int) / 32 = ((at0 / 32 : Nat) : Int) := by omega
 refine ⟨L.f, o, fd, rfl, e1, g1, _, rfl, _, _, rfl, rfl, ⟨by decide, by decide⟩, e1, L, ss, at0 / 32, _, rfl, congrArg (fun v => [v]) (congrArg V.int ej), hA.asks, hls, hA.blk _ (by first | exact hm | omega), ?_⟩
 refine ⟨_, rfl, _, _, rfl, rfl, (by show (0 : Int) < 32; decide), _, _, rfl, (show 0 ≤ (at0 : Int) % 32 from by omega), ?_⟩
 rw [show bit (bM ns (at0 / 32)) ((at0 : Int) % 32).toNat = b from by rw [show ((at0 : Int) % 32).toNat = at0 % 32 from by omega, bit_at hA.bits _ _ (by omega), show 32 * (at0 / 32) + at0 % 32 = at0 from by omega, hb]; rfl]
 exact q _ _ (hA.wr hm) (aR.refl _)
theorem jl.out {H : Hp} {f b : Addr} {c : oG} {cs : List Addr} {fvs : List V} {xs : List V} (h : jl H f c cs fvs) (e : H b = some (.tup xs)) : b ∉ cs := fun z => by
 obtain ⟨i, hi⟩ := List.getElem?_of_mem z
 obtain ⟨co, v, u, _, e2, _⟩ := h.cells i b hi
 rw [e] at e2
 cases e2
def Quiet (H : Hp) (f nd : Addr) (xs : List V) : Prop := (∃ cs, jl H f aN cs [.ref nd]) ∧ H nd = some (.tup xs)
theorem Quiet.fn {H : Hp} {f nd : Addr} {xs : List V} (h : Quiet H f nd xs) : ∃ o fd, H f = some (aH f o) ∧ o.data = .func fd := by
 obtain ⟨⟨cs, ca⟩, _⟩ := h
 obtain ⟨cd, pm, ctv, oc, vs, t, h1, _⟩ := ca.ex
 exact ⟨_, _, h1, rfl⟩
theorem Quiet.same {H H' : Hp} {f nd : Addr} {xs : List V} (h : Quiet H f nd xs) (s : aR H H') : Quiet H' f nd xs := by
 obtain ⟨⟨cs, ca⟩, h2⟩ := h
 exact ⟨⟨cs, ca.same fun b o e => s _ _ e⟩, s _ _ h2⟩
def mz : Addr → Sp := fun f vs H Q _ => ∃ (nd : Addr) (xs : List V) (n : Nat) (x : V), vs = [.int (n : Int)] ∧ Quiet H f nd xs ∧ xs[n]? = some x ∧ Q x H
theorem cJ (T : Tx K mg a) : m5 P w K mg base 1 mz := by
 refine Ai lD (fun _ _ _ _ us hl => match us, hl with | [_], _ => rfl) fun f vs H Q h => ?_
 obtain ⟨nd, xs, n, x, rfl, ⟨⟨cs, ca⟩, h2⟩, hg, q⟩ := h
 have o2 := jl.out ca h2
 refine ⟨rfl, cs, [.ref nd], ca, fun cd A outer s hr => ⟨_, (bH bW (pv 1) (pv 0) (fun _ _ => rfl)), ?_⟩⟩
 have g2 : hide H cs nd = some (.tup xs) := by rw [bG o2]; exact h2
 refine ⟨_, rfl, _, rfl, nd, _, _, _, rfl, rfl, SqT.of g2, vJ hg, ?_⟩
 show Q x (over H cs (hide H cs))
 rw [qd]
 exact q
def rQ (Pt : Addr) : Sp := fun vs H Q _ => ∃ (t nd : Addr) (x y : V) (xs : List V), vs = [.ref t] ∧ H t = some (.tup [x, y, .ref nd]) ∧ H nd = some (.tup xs) ∧ TabAt H Pt (cX bu) aN.qual ∧
 ∀ f H2, H f = none → jA Pt H H2 → TabAt H2 Pt (cX bu) aN.qual → Quiet H2 f nd xs → Q (.ref f) H2
theorem iu (T : Tx K mg a) (B : Bs mg base a) : bh P w K mg base CX0 1 a.f_heap_look a.fd_heap_look ["tables"] (rQ a.tP_heap_look) := by
 refine Fun.makerL1 (T := aN) (pos := cX bu) T.D_heap_look.F j5 rE B.bm T.w_heap_look B.C_heap_look (fun vs H Q E h => ?_) rfl (fun cdv A outer s H vs Q E hr h => ?_)
 ·obtain ⟨t, nd, x, y, xs, rfl, _⟩ := h
  rfl
 obtain ⟨t, nd, x, y, xs, rfl, ht, hn, hT, q⟩ := h
 refine ⟨_, (aF (i := 1) j5.nd rfl (Or.inr rfl) (bH bW (pv 0) ao (fun _ _ => rfl))), ?_⟩
 refine ⟨_, rfl, t, _, _, _, rfl, rfl, SqT.of ht, rfl, ?_⟩
 refine ⟨hT, [.ref nd], fun j m e => ?_, rfl, fun fi cs H2 n1 n2 n3 n4 n5 => q fi H2 n1 n3 n4 ⟨⟨cs, n5⟩, n3 _ _ hn (TabAt.ne hT hn nofun)⟩⟩
 match j, e with
 | 0, e => cases e; exact ⟨_, rfl, rfl⟩
 | j + 1, e => simp at e
def tZ : Sp := fun vs H Q _ => ∃ (f nd : Addr) (xs : List V) (ns : List Int) (S st sp : Nat), vs = [.int (ns.length : Int), .ref f, .int (st : Int), .int (sp : Int)] ∧ Quiet H f nd xs ∧ gQ ns.length S ∧ eY ns S 1 xs ∧ ns.length ≤ 4096 ∧ st < sp ∧ sp ≤ ns.length ∧
 ∀ (M : Int) (H' : Hp), jR ns st sp M → aR H H' → Q (.int M) H'
theorem sS (T : Tx K mg a) : bh P w K mg base CX0 3 a.f_least_of a.fd_least_of ["many", "look", "start", "stop"] tZ := by
 refine T.D_least_of.F.ok t8 (fun vs H Q E h => ?_) (fun cdv A outer s H vs Q E hr h => ?_)
 ·obtain ⟨f, nd, xs, ns, S, st, sp, rfl, _⟩ := h
  rfl
 obtain ⟨f, nd, xs, ns, S, st, sp, rfl, hA, hSz, hv, hl, h1, h2, q⟩ := h
 refine ⟨_, (az (aC (yM rfl rfl T.b_min (aa (kh rfl (eQ.one (j := 1) rfl (Or.inl rfl) rfl rfl (Or.inl rfl)) (cI (aB T.D_cover (oZ T) (by decide) hr aL rfl (aa (pv 0) (aa (pv 2) (aa (pv 3) aj))))) (fun _ _ _ _ => jX) (fun _ _ _ _ => (dw ((cJ T).mono (by decide)) hr (i := 1) rfl (aa (pv 0) aj)))) aj) dY Tw.jG))), ?_⟩
 have hS0 := hSz.pos
 have hS4 := hSz.le hl
 obtain ⟨h, eS, hlS, hj⟩ := id hSz
 have ch := iU (st := st) ⟨h, eS⟩ (Nat.le_of_lt h1) (show sp ≤ S by omega) hS0
 obtain ⟨_, v1, v2, v3⟩ := fP hv hlS h2 ch (Nat.le_refl _)
 refine ⟨_, rfl, _, rfl, _, rfl, ns.length, st, sp, rfl, Nat.le_of_lt h1, h2, hl, fun S' r H1 hS' hr0 sm1 hr1 => ⟨r, rfl, ⟨_, SqL.of hr1⟩, ?_⟩⟩
 have := gQ.uniq hS' hSz
 subst this
 have hfew := wU (st := st) eS (Nat.le_of_lt h1) (show sp ≤ S' by omega)
 have hh : h ≤ 12 := by
  rcases Nat.lt_or_ge 12 h with z | z
  ·have := hj 12 z
   omega
  ·exact z
 have hA1 := hA.same sm1
 have en : nats (cover S' st sp) = ((cover S' st sp).map fun n : Nat => (n : Int)).map V.int := by
  unfold nats
  rw [List.map_map]
  rfl
 rw [en] at hr1
 refine w6 (fun z => gG xs z.toNat) (SqL.of hr1) (by rw [List.length_map, sizeLine_eq]; omega) (fun _ _ _ q => q) (fun z H' Q hz sm q => ?_) fun D hD => ?_
 ·obtain ⟨n, hn, rfl⟩ := List.mem_map.mp hz
  have hA2 := hA1.same sm
  obtain ⟨o, fd, e1, g1⟩ := hA2.fn
  exact ⟨f, o, fd, rfl, e1, g1, _, rfl, e1, nd, xs, n, _, rfl, hA2, (v1 n hn).2.2, q⟩
 have ev : (((cover S' st sp).map fun n : Nat => (n : Int)).map fun z => gG xs z.toNat) = (cover S' st sp).map (gG xs) := by
  rw [List.map_map]
  refine List.map_congr_left fun n _ => ?_
  show gG xs ((n : Int).toNat) = _
  rw [Int.toNat_natCast]
 rw [ev]
 refine ⟨D, (cover S' st sp).map (gG xs), rfl, SqL.of ak, .inr ⟨?_, fun M hM => q _ _ (wW hv hlS h2 ch (Nat.le_refl _) hM) (sm1.trans (au hD _))⟩⟩
 have hg : ns[st]? = some ns[st] := List.getElem?_eq_getElem (by omega)
 obtain ⟨v, hv1, _⟩ := v3 st ns[st] (Nat.le_refl _) h1 hg
 exact List.length_pos_of_mem hv1
def uT : Sp := fun vs H Q _ => ∃ (f nd : Addr) (xs : List V) (ns : List Int) (S s n a0 e : Nat) (g : Int), vs = [.int (S : Int), .ref f, .int (n : Int), .int g, .int (s : Int)] ∧ Quiet H f nd xs ∧ eY ns S 1 xs ∧ ns.length ≤ S ∧ s ≤ 1 ∧ n * 2 ^ e = S + a0 ∧ a0 + 2 ^ e ≤ ns.length ∧ 1 ≤ n ∧ gG xs n ≤ g ∧
 ∀ i : Nat, Hit ns s a0 (a0 + 2 ^ e) g i → Q (.int (i : Int)) H
theorem gK (T : Tx K mg a) : bh P w K mg base CX0 2 a.f_place_beneath a.fd_place_beneath ["size", "look", "node", "goal", "side"] uT := by
 refine T.D_place_beneath.F.ok cH (fun vs H Q E h => ?_) (fun cdv A outer s H vs Q E hr h => ?_)
 ·obtain ⟨f, nd, xs, ns, S, s, n, a0, e, g, rfl, _⟩ := h
  rfl
 obtain ⟨f, nd, xs, ns, S, sd, n, a0, e, g, rfl, hA, hv, hlS, hs, hn, ha, h1, hg, q⟩ := h
 refine ⟨_, (aq (aF (i := 5) cH.nd rfl (Or.inl rfl) (pv 2))
  (aq (pH PassesOwn.never (aM m9 (pv 5) (pv 0) (aP _)) (aq (aF (i := 5) cH.nd rfl (Or.inl rfl) (aA bC (aA cC ao (pv 5)) (pv 4)))
  (az (aX (aM jC (dw ((cJ T).mono (by decide)) hr (i := 1) rfl (aa (pv 5) aj)) (pv 3) (aP _)) (az (aF (i := 5) cH.nd rfl (Or.inl rfl) (aA bz (aA bC (pv 5) ao) (aA cC ao (pv 4))))) aJ))))
  (az (aC (aA bz (pv 5) (pv 0)))))), ?_⟩
 refine ⟨_, rfl, ?_⟩
 refine ⟨fun m σ H' => ∃ (k e' b : Nat), σ = [some (.int (S : Int)), some (.ref f), some (.int (n : Int)), some (.int g), some (.int (sd : Int)), some (.int (k : Int))] ∧ m = e' ∧ p7 ns xs S sd a0 (a0 + 2 ^ e) g e' k b ∧ H' = H,
  ⟨_, n, e, a0, rfl, rfl, p7.start hn h1 hg, rfl⟩, ?_⟩
 rintro e' σ H' ⟨k, _, b, rfl, rfl, hd, rfl⟩
 refine ⟨_, rfl, _, rfl, _, _, rfl, rfl, _, rfl, aV (fun c => ?_) fun c => ?_⟩
 ·have c : (k : Int) < (S : Int) := of_decide_eq_true c
  rcases e' with _ | e'
  ·have := (hd.hit hv hlS ha hs).1
   omega
  obtain ⟨v, xv, km, kb, d1, d2⟩ := hd.step hv hlS ha hs
  refine ⟨_, fun σ' H2 z => z, ?_⟩
  refine ⟨_, rfl, _, _, rfl, rfl, .inl ⟨by decide, by decide⟩, _, rfl, _, _, rfl, rfl, ?_⟩
  obtain ⟨o, fd, e1, g1⟩ := hA.fn
  have ek : (2 : Int) * (k : Int) + (sd : Int) = ((2 * k + sd : Nat) : Int) := by omega
  have hone := hd.one
  refine ⟨f, o, fd, rfl, e1, g1, _, rfl, e1, nd, xs, 2 * k + sd, _, ?_, hA, xv, ?_⟩
  ·exact congrArg (fun v => [v]) (congrArg V.int ek)
  refine ⟨_, rfl, _, _, rfl, rfl, _, rfl, aV (fun z => ?_) fun z => ?_⟩
  ·have z : g < v := of_decide_eq_true z
   obtain ⟨b', d'⟩ := d2 z
   refine ⟨_, rfl, _, _, rfl, rfl, _, rfl, _, _, rfl, rfl, .inl ⟨by decide, by decide⟩, _, _, rfl, rfl, e', by omega, 2 * k + 1 - sd, e', b', ?_, rfl, d', rfl⟩
   rw [show ((2 * k + 1 - sd : Nat) : Int) = 2 * (k : Int) + (sd : Int) + 1 - 2 * (sd : Int) from by omega]
   rfl
  ·have z : ¬ g < v := fun y => z (decide_eq_true y)
   obtain ⟨b', d'⟩ := d1 (by omega)
   refine ⟨e', by omega, 2 * k + sd, e', b', ?_, rfl, d', rfl⟩
   rw [← ek]
   rfl
 ·have c : ¬ (k : Int) < (S : Int) := fun y => c (decide_eq_true y)
  rcases e' with _ | e'
  ·obtain ⟨ek, hh⟩ := hd.hit hv hlS ha hs
   refine ⟨_, rfl, _, rfl, _, _, rfl, rfl, ?_⟩
   have := q b hh
   rw [show (b : Int) = (k : Int) - (S : Int) from by omega] at this
   exact this
  ·obtain ⟨v, xv, km, _⟩ := hd.step hv hlS ha hs
   omega
def yp : Sp := fun vs H Q _ => ∃ (f nd : Addr) (xs : List V) (ns : List Int) (S st : Nat) (g : Int), vs = [.int (ns.length : Int), .ref f, .int (st : Int), .int g] ∧ Quiet H f nd xs ∧ gQ ns.length S ∧ eY ns S 1 xs ∧ ns.length ≤ 4096 ∧ st ≤ ns.length ∧
 ∀ (x : V) (H' : Hp), aR H H' → ((x = .non ∧ ∀ j c, st ≤ j → ns[j]? = some c → g < c) ∨ ∃ i : Nat, x = .int (i : Int) ∧ Hit ns 0 st ns.length g i) → Q x H'
theorem lZ (T : Tx K mg a) : bh P w K mg base CX0 3 a.f_first_at_most a.fd_first_at_most ["many", "look", "start", "goal"] yp := by
 refine T.D_first_at_most.F.ok gF (fun vs H Q E h => ?_) (fun cdv A outer s H vs Q E hr h => ?_)
 ·obtain ⟨f, nd, xs, ns, S, st, g, rfl, _⟩ := h
  rfl
 obtain ⟨f, nd, xs, ns, S, st, g, rfl, hA, hSz, hv, hl, h1, q⟩ := h
 refine ⟨_, (aq (cA PassesOwn.never rfl (cI (aB T.D_cover (oZ T) (by decide) hr aL rfl (aa (pv 0) (aa (pv 2) (aa (pv 0) aj))))) (bc (i := 4) gF.nd rfl (Or.inl rfl)) (az (aX (aM jB (dw ((cJ T).mono (by decide)) hr (i := 1) rfl (aa (pv 4) aj)) (pv 3) (aP _)) (az (aC (aB T.D_place_beneath (gK T) (by decide) hr aL rfl (aa (aB T.D_size_of (iw T) (by decide) hr aL rfl (aa (pv 0) aj)) (aa (pv 1) (aa (pv 4) (aa (pv 3) (aa ao aj)))))))) aJ)))
  (az (aC dY))), ?_⟩
 have hS0 := hSz.pos
 obtain ⟨h, eS, hlS, hj⟩ := id hSz
 refine ⟨_, rfl, _, rfl, _, rfl, ns.length, st, ns.length, rfl, h1, Nat.le_refl _, hl, fun S' r H1 hS' hr0 sm1 hr1 => ?_⟩
 have := gQ.uniq hS' hSz
 subst this
 have ch := iU (st := st) ⟨h, eS⟩ h1 hlS hS0
 obtain ⟨_, v1, _, _⟩ := fP hv hlS (Nat.le_refl _) ch (Nat.le_refl _)
 have hA1 := hA.same sm1
 refine ⟨r, rfl, ⟨_, SqL.of hr1⟩, ?_⟩
 refine cj (xs := nats (cover S' st ns.length)) (fun i σ H' => (∃ k4, σ = [some (.int (ns.length : Int)), some (.ref f), some (.int (st : Int)), some (.int g), k4]) ∧ H' = H1 ∧ ∃ (b : Nat), Chain S' st ns.length ((cover S' st ns.length).drop i) (S' + b) (S' + ns.length) ∧ st ≤ b ∧ ∀ j c, st ≤ j → j < b → ns[j]? = some c → g < c) ⟨⟨none, rfl⟩, rfl, st, ch, Nat.le_refl _, fun j c j1 j2 => by omega⟩ ?_ ?_ ?_
 ·rintro i σ H' _ ⟨_, rfl, _⟩
  exact SqL.of hr1
 ·rintro i x σ H' hx ⟨⟨k4, rfl⟩, rfl, b, chi, hb, hlow⟩
  unfold nats at hx
  rw [List.getElem?_map] at hx
  obtain ⟨n, hn, rfl⟩ : ∃ n, (cover S' st ns.length)[i]? = some n ∧ x = .int (n : Int) := by
   cases e : (cover S' st ns.length)[i]? with
   | none => rw [e] at hx; cases hx
   | some n => rw [e] at hx; exact ⟨n, rfl, (Option.some.inj hx).symm⟩
  have hi := (List.getElem?_eq_some_iff.mp hn).1
  have hd : (cover S' st ns.length).drop i = n :: (cover S' st ns.length).drop (i + 1) := by
   rw [List.drop_eq_getElem_cons hi]
   congr 1
   exact (List.getElem?_eq_some_iff.mp hn).2
  rw [hd] at chi
  obtain ⟨e, ex, ⟨n1, n2, n3, n4⟩, chn⟩ := chi
  have hp : 0 < 2 ^ e := Nat.two_pow_pos e
  have e5 : (n + 1) * 2 ^ e = S' + (b + 2 ^ e) := by rw [Nat.succ_mul, ex]; omega
  rw [e5] at chn n3
  obtain ⟨w1, w2, w3⟩ := v1 n (List.mem_of_getElem? hn)
  obtain ⟨M, m1, m2, m3⟩ := hv.least hlS e n b ex (by omega) n1
  have ev := eZ m1
  obtain ⟨o, fd, e1, g1⟩ := hA1.fn
  refine ⟨f, o, fd, rfl, e1, g1, _, rfl, e1, nd, xs, n, _, rfl, hA1, w3, ?_⟩
  refine ⟨_, rfl, _, _, rfl, rfl, _, rfl, aV (fun z => ?_) fun z => ?_⟩
  ·have z : gG xs n ≤ g := of_decide_eq_true z
   refine ⟨_, rfl, ns.length, rfl, by omega, fun S2 hS2 => ?_⟩
   have := gQ.uniq hS2 hSz
   subst this
   refine ⟨_, rfl, _, rfl, _, rfl, f, nd, xs, ns, S2, 0, n, b, e, g, rfl, hA1, hv, hlS, by decide, ex, by omega, n1, z, fun p hh4 => ?_⟩
   refine q _ _ sm1 (.inr ⟨p, rfl, ?_⟩)
   obtain ⟨p1, p2, p3, p4⟩ := hh4
   refine ⟨by omega, by omega, p3, fun j c j1 j2 j3 ec => ?_⟩
   rw [if_pos rfl] at j3
   rcases Nat.lt_or_ge j b with y | y
   ·exact hlow j c j1 y ec
   ·exact p4 j c y (by omega) (by rw [if_pos rfl]; exact j3) ec
  ·have z : ¬ gG xs n ≤ g := fun y => z (decide_eq_true y)
   refine ⟨⟨_, rfl⟩, rfl, b + 2 ^ e, chn, by omega, fun j c j1 j2 ec => ?_⟩
   rcases Nat.lt_or_ge j b with y | y
   ·exact hlow j c j1 y ec
   ·have := m3 j c y j2 ec
    omega
 ·rintro σ H' ⟨⟨k4, rfl⟩, rfl, b, chi, hb, hlow⟩
  have e0 : (nats (cover S' st ns.length)).length = (cover S' st ns.length).length := List.length_map ..
  rw [e0, List.drop_length] at chi
  have chi : S' + b = S' + ns.length := chi
  refine q _ _ sm1 (.inl ⟨rfl, fun j c j1 ec => ?_⟩)
  have := (List.getElem?_eq_some_iff.mp ec).1
  exact hlow j c j1 (by omega) ec
def zR : Sp := fun vs H Q _ => ∃ (f nd : Addr) (xs : List V) (ns : List Int) (S sp : Nat) (g : Int), vs = [.int (ns.length : Int), .ref f, .int (sp : Int), .int g] ∧ Quiet H f nd xs ∧ gQ ns.length S ∧ eY ns S 1 xs ∧ ns.length ≤ 4096 ∧ sp ≤ ns.length ∧
 ∀ (x : V) (H' : Hp), aR H H' → ((x = .non ∧ ∀ j c, j < sp → ns[j]? = some c → g < c) ∨ ∃ i : Nat, x = .int (i : Int) ∧ Hit ns 1 0 sp g i) → Q x H'
theorem nA (T : Tx K mg a) : bh P w K mg base CX0 3 a.f_last_at_most a.fd_last_at_most ["many", "look", "stop", "goal"] zR := by
 refine T.D_last_at_most.F.ok iI (fun vs H Q E h => ?_) (fun cdv A outer s H vs Q E hr h => ?_)
 ·obtain ⟨f, nd, xs, ns, S, sp, g, rfl, _⟩ := h
  rfl
 obtain ⟨f, nd, xs, ns, S, sp, g, rfl, hA, hSz, hv, hl, h1, q⟩ := h
 refine ⟨_, (aq (cA PassesOwn.never rfl (yX rfl T.b_reversed (aa (aB T.D_cover (oZ T) (by decide) hr aL rfl (aa (pv 0) (aa ao (aa (pv 2) aj)))) aj) Tw.jh) (bc (i := 4) iI.nd rfl (Or.inl rfl)) (az (aX (aM jB (dw ((cJ T).mono (by decide)) hr (i := 1) rfl (aa (pv 4) aj)) (pv 3) (aP _)) (az (aC (aB T.D_place_beneath (gK T) (by decide) hr aL rfl (aa (aB T.D_size_of (iw T) (by decide) hr aL rfl (aa (pv 0) aj)) (aa (pv 1) (aa (pv 4) (aa (pv 3) (aa ao aj)))))))) aJ)))
  (az (aC dY))), ?_⟩
 have hS0 := hSz.pos
 obtain ⟨h, eS, hlS, hj⟩ := id hSz
 refine ⟨_, rfl, _, rfl, ns.length, 0, sp, rfl, Nat.zero_le _, h1, hl, fun S' r H1 hS' hr0 sm1 hr1 => ?_⟩
 have := gQ.uniq hS' hSz
 subst this
 have ch := iU (st := 0) ⟨h, eS⟩ (Nat.zero_le sp) (by omega) hS0
 obtain ⟨_, v1, _, _⟩ := fP hv hlS h1 ch (Nat.le_refl _)
 have hA1 := hA.same sm1
 have e0 : (nats (cover S' 0 sp)).length = (cover S' 0 sp).length := List.length_map ..
 refine ⟨r, _, rfl, SqL.of hr1, ?_⟩
 refine vO (xs := nats (cover S' 0 sp)) (fun i σ H' => (∃ k4, σ = [some (.int (ns.length : Int)), some (.ref f), some (.int (sp : Int)), some (.int g), k4]) ∧ H' = H1 ∧ ∃ (b : Nat), Chain S' 0 sp ((cover S' 0 sp).take ((cover S' 0 sp).length - i)) (S' + 0) (S' + b) ∧ b ≤ sp ∧ ∀ j c, b ≤ j → j < sp → ns[j]? = some c → g < c) ⟨⟨none, rfl⟩, rfl, sp, by rw [Nat.sub_zero, List.take_length]; exact ch, Nat.le_refl _, fun j c j1 j2 => by omega⟩ ?_ ?_ ?_
 ·rintro i σ H' _ ⟨_, rfl, _⟩
  exact SqL.of hr1
 ·rintro i x σ H' hi hx ⟨⟨k4, rfl⟩, rfl, b, chi, hb, hlow⟩
  rw [e0] at hi hx
  unfold nats at hx
  rw [List.getElem?_map] at hx
  obtain ⟨n, hn, rfl⟩ : ∃ n, (cover S' 0 sp)[(cover S' 0 sp).length - 1 - i]? = some n ∧ x = .int (n : Int) := by
   cases e : (cover S' 0 sp)[(cover S' 0 sp).length - 1 - i]? with
   | none => rw [e] at hx; cases hx
   | some n => rw [e] at hx; exact ⟨n, rfl, (Option.some.inj hx).symm⟩
  have et : (cover S' 0 sp).take ((cover S' 0 sp).length - i) = (cover S' 0 sp).take ((cover S' 0 sp).length - (i + 1)) ++ [n] := by
   rw [show (cover S' 0 sp).length - i = ((cover S' 0 sp).length - (i + 1)) + 1 from by omega, List.take_add_one, show (cover S' 0 sp).length - (i + 1) = (cover S' 0 sp).length - 1 - i from by omega, hn]
   rfl
  obtain ⟨y, y1, y2⟩ := mZ ((cover S' 0 sp).length - (i + 1)) chi
  have elen : ((cover S' 0 sp).take ((cover S' 0 sp).length - (i + 1))).length = (cover S' 0 sp).length - (i + 1) := by
   rw [List.length_take]
   omega
  rw [et, List.take_append_of_le_length (by rw [elen]; exact Nat.le_refl _), List.take_of_length_le (by rw [elen]; exact Nat.le_refl _)] at y1
  rw [et, List.drop_append_of_le_length (by rw [elen]; exact Nat.le_refl _), List.drop_of_length_le (by rw [elen]; exact Nat.le_refl _), List.nil_append] at y2
  obtain ⟨e, ex, ⟨n1, n2, n3, n4⟩, chn⟩ := y2
  have hy := ur y1
  obtain ⟨a0, rfl⟩ : ∃ a0, y = S' + a0 := ⟨y - S', by omega⟩
  have hp : 0 < 2 ^ e := Nat.two_pow_pos e
  have e5 : (n + 1) * 2 ^ e = S' + (a0 + 2 ^ e) := by rw [Nat.succ_mul, ex]; omega
  have chn : (n + 1) * 2 ^ e = S' + b := chn
  rw [e5] at chn n3
  obtain ⟨w1, w2, w3⟩ := v1 n (List.mem_of_getElem? hn)
  obtain ⟨M, m1, m2, m3⟩ := hv.least hlS e n a0 ex (by omega) n1
  have ev := eZ m1
  obtain ⟨o, fd, e1, g1⟩ := hA1.fn
  refine ⟨f, o, fd, rfl, e1, g1, _, rfl, e1, nd, xs, n, _, rfl, hA1, w3, ?_⟩
  refine ⟨_, rfl, _, _, rfl, rfl, _, rfl, aV (fun z => ?_) fun z => ?_⟩
  ·have z : gG xs n ≤ g := of_decide_eq_true z
   refine ⟨_, rfl, ns.length, rfl, by omega, fun S2 hS2 => ?_⟩
   have := gQ.uniq hS2 hSz
   subst this
   refine ⟨_, rfl, _, rfl, _, rfl, f, nd, xs, ns, S2, 1, n, a0, e, g, rfl, hA1, hv, hlS, by decide, ex, by omega, n1, z, fun p hh4 => ?_⟩
   refine q _ _ sm1 (.inr ⟨p, rfl, ?_⟩)
   obtain ⟨p1, p2, p3, p4⟩ := hh4
   refine ⟨Nat.zero_le _, by omega, p3, fun j c j1 j2 j3 ec => ?_⟩
   rw [if_neg (by decide)] at j3
   rcases Nat.lt_or_ge j b with y | y
   ·exact p4 j c (by omega) (by omega) (by rw [if_neg (by decide)]; exact j3) ec
   ·exact hlow j c y j2 ec
  ·have z : ¬ gG xs n ≤ g := fun y => z (decide_eq_true y)
   refine ⟨⟨_, rfl⟩, rfl, a0, y1, by omega, fun j c j1 j2 ec => ?_⟩
   rcases Nat.lt_or_ge j b with y | y
   ·have := m3 j c j1 (by omega) ec
    omega
   ·exact hlow j c y j2 ec
 ·rintro σ H' ⟨⟨k4, rfl⟩, rfl, b, chi, hb, hlow⟩
  rw [e0, Nat.sub_self, List.take_zero] at chi
  have chi : S' + 0 = S' + b := chi
  exact q _ _ sm1 (.inl ⟨rfl, fun j c j1 ec => hlow j c (by omega) j1 ec⟩)
structure BP where
 t : Addr
 L : LK
 ah : Addr
 nd : Addr
 ns : List Int
 lows : List Int
 S : Nat
 xs : List V
structure Brk (H : Hp) (Ph : Addr) (p : BP) (ss : List Int) : Prop where
 ask : Ask H p.t p.L p.ah p.ns ss [.ref p.nd]
 nds : H p.nd = some (.tup p.xs)
 low : rD p.ns p.lows
 sz : gQ p.lows.length p.S
 heap : eY p.lows p.S 1 p.xs
 tab : TabAt H Ph (cX bu) aN.qual
structure Did (H H' : Hp) (Ph : Addr) (L : LK) (k : Nat) (ss ss' : List Int) : Prop where
 kp : ∀ b o, H b = some o → b ≠ Ph → L.wr ≠ some b → H' b = some o
 seen : ∀ sn, L.wr = some sn → H' sn = some (.lst (ss'.map V.int))
 tab : TabAt H' Ph (cX bu) aN.qual
 wr : bQ L.all.length k ss ss'
theorem Did.trans {H H1 H2 : Hp} {Ph : Addr} {L : LK} {j k : Nat} {a b c : List Int} (h : Did H H1 Ph L j a b) (h' : Did H1 H2 Ph L k b c) : Did H H2 Ph L (j + k) a c :=
 ⟨fun x o e n1 n2 => h'.kp x o (h.kp x o e n1 n2) n1 n2, h'.seen, h'.tab, h.wr.trans h'.wr⟩
theorem Did.le {H H1 : Hp} {Ph : Addr} {L : LK} {j k : Nat} {a b : List Int} (h : Did H H1 Ph L j a b) (hk : j ≤ k) : Did H H1 Ph L k a b := ⟨h.kp, h.seen, h.tab, h.wr.le hk⟩
theorem Did.same {H H1 H2 : Hp} {Ph : Addr} {L : LK} {j : Nat} {a b : List Int} (h : Did H H1 Ph L j a b) (s : aR H1 H2) : Did H H2 Ph L j a b :=
 ⟨fun x o e n1 n2 => s _ _ (h.kp x o e n1 n2), fun sn e => s _ _ (h.seen sn e), TabAt.same h.tab s, h.wr⟩
theorem Brk.self {H : Hp} {Ph : Addr} {p : BP} {ss : List Int} (h : Brk H Ph p ss) : Did H H Ph p.L 0 ss ss := ⟨fun _ _ e _ _ => e, fun sn e => (h.ask.asks.seen sn e).1, h.tab, bQ.none ss⟩
theorem TabAt.put {H : Hp} {P : Addr} {pos : Pos} {q : Str} {L : LK} {ss tt : List Int} (h : TabAt H P pos q) (a : Asks H L ss) : TabAt (L.put H tt) P pos q := by
 cases e : L.wr with
 | none =>
  rw [LK.put_none e]
  exact h
 | some sn =>
  rw [LK.put_some e]
  exact TabAt.upd h (a.seen sn e).1
theorem Brk.look {H H' : Hp} {Ph : Addr} {p : BP} {ss ss' : List Int} (h : Brk H Ph p ss) {k : Nat} (w : bQ p.L.all.length k ss ss') (s : aR (p.L.put H ss') H') : Did H H' Ph p.L k ss ss' :=
 ⟨fun x o e n1 n2 => s _ _ (by rw [LK.put_ne n2]; exact e), fun sn e => s _ _ (by rw [LK.put_some e]; exact ak), TabAt.same (TabAt.put h.tab h.ask.asks) s, w⟩
theorem Brk.did {H H' : Hp} {Ph : Addr} {p : BP} {ss ss' : List Int} {k : Nat} (h : Brk H Ph p ss) (d : Did H H' Ph p.L k ss ss') (hl : ss'.length ≤ 1000) : Brk H' Ph p ss' := by
 have nP : ∀ b o, H b = some o → (∀ ps, o ≠ .tbl ps) → b ≠ Ph := fun b o e n => TabAt.ne h.tab e n
 have nS : ∀ b o, H b = some o → (∀ ps, o ≠ .lst ps) → p.L.wr ≠ some b := fun b o e n z => by
  rw [(h.ask.asks.seen b z).1] at e
  cases e
  exact n _ rfl
 have k1 : ∀ b o, H b = some o → (∀ ps, o ≠ .tbl ps) → (∀ ps, o ≠ .lst ps) → H' b = some o := fun b o e n1 n2 => d.kp b o e (nP b o e n1) (nS b o e n2)
 have nB : p.L.wr ≠ some p.L.bl := fun z => (h.ask.asks.seen _ z).2 rfl
 have hb := d.kp _ _ h.ask.asks.nodes (nP _ _ h.ask.asks.nodes nofun) nB
 exact ⟨⟨⟨k1 _ _ h.ask.tab.tup nofun nofun, k1 _ _ h.ask.tab.ahs nofun nofun, h.ask.tab.few⟩, ⟨h.ask.asks.look.kept k1, fun sn e => ⟨d.seen sn e, (h.ask.asks.seen sn e).2⟩, hb, hl⟩, h.ask.bits, h.ask.len, h.ask.blk⟩, k1 _ _ h.nds nofun nofun, h.low, h.sz, h.heap, d.tab⟩
theorem Brk.same {H H' : Hp} {Ph : Addr} {p : BP} {ss : List Int} (h : Brk H Ph p ss) (s : aR H H') : Brk H' Ph p ss := ⟨h.ask.same s, s _ _ h.nds, h.low, h.sz, h.heap, TabAt.same h.tab s⟩
theorem Brk.lenL {H : Hp} {Ph : Addr} {p : BP} {ss : List Int} (h : Brk H Ph p ss) : p.lows.length = many p.ns.length ∧ many p.ns.length ≤ 128 := ⟨h.low.len, by have := h.ask.len; unfold many; omega⟩
theorem Brk.made {H H' : Hp} {Ph : Addr} {p : BP} {ss : List Int} (h : Brk H Ph p ss) (b : jA Ph H H') (t : TabAt H' Ph (cX bu) aN.qual) : Did H H' Ph p.L 0 ss ss :=
 ⟨fun x o e n1 _ => b x o e n1, fun sn e => b _ _ (h.ask.asks.seen sn e).1 (TabAt.ne h.tab (h.ask.asks.seen sn e).1 nofun), t, bQ.none ss⟩
theorem Did.free {H H' : Hp} {Ph l : Addr} {L : LK} {k : Nat} {ss ss' : List Int} (d : Did H H' Ph L k ss ss') (h : H' l = none) : H l = none := by
 cases e : H l with
 | none => rfl
 | some o =>
  by_cases z1 : l = Ph
  ·obtain ⟨ps, h1, _⟩ := d.tab
   rw [z1, h1] at h
   cases h
  by_cases z2 : L.wr = some l
  ·rw [d.seen l z2] at h
   cases h
  rw [d.kp l o e z1 z2] at h
  cases h
theorem Did.set {H X : Hp} {Ph r : Addr} {L : LK} {k : Nat} {ss us : List Int} {vs ws : List V} (d : Did H X Ph L k ss us) (hn : H r = none) (hx : X r = some (.lst vs)) (nr : L.wr ≠ some r) : Did H (L2.upd X r (.lst ws)) Ph L k ss us :=
 ⟨fun b o e n1 n2 => by rw [aG (aO e hn)]; exact d.kp b o e n1 n2, fun sn e => by rw [aG (fun z => nr (by rw [e, z]))]; exact d.seen sn e, TabAt.upd d.tab hx, d.wr⟩
def nQ : Sp := fun vs H Q _ => ∃ (j at0 : Nat), vs = [.int (j : Int), .int (at0 : Int)] ∧ Q (.int ((at0 - 32 * j : Nat) : Int)) H
theorem iG (T : Tx K mg a) : bh P w K mg base CX0 1 a.f_start_within a.fd_start_within ["number", "at"] nQ := by
 refine T.D_start_within.F.ok nH (fun vs H Q E h => ?_) (fun cdv A outer s H vs Q E hr h => ?_)
 ·obtain ⟨j, at0, rfl, _⟩ := h
  rfl
 obtain ⟨j, at0, rfl, q⟩ := h
 refine ⟨_, (az (aC (aW (xP rfl) rfl T.b_max Tw.z9 (aa (aA bz (pv 1) (aA cC (bw (v := .int 32) rfl T.c_BLOCK_BITS ⟨_, rfl⟩) (pv 0))) (aa ao aj))))), ?_⟩
 refine ⟨_, rfl, _, rfl, _, _, rfl, rfl, .inl ⟨by decide, by decide⟩, _, _, rfl, rfl, _, _, rfl, ?_⟩
 have e : (if (at0 : Int) - 32 * (j : Int) < 0 then (0 : Int) else (at0 : Int) - 32 * (j : Int)) = ((at0 - 32 * j : Nat) : Int) := by
  split <;> omega
 rw [← e] at q
 exact q
def pq : Sp := fun vs H Q _ => ∃ (t ah : Addr) (ns : List Int) (rest : List V), vs = [.ref t] ∧ Tab H t ah ns rest ∧ Q (.int (many ns.length : Nat)) H
theorem fL (T : Tx K mg a) : bh P w K mg base CX0 1 a.f_block_count a.fd_block_count ["tables"] pq := by
 refine T.D_block_count.F.ok pM (fun vs H Q E h => ?_) (fun cdv A outer s H vs Q E hr h => ?_)
 ·obtain ⟨t, ah, ns, rest, rfl, _⟩ := h
  rfl
 obtain ⟨t, ah, ns, rest, rfl, hT, q⟩ := h
 refine ⟨_, (az (aC (aA bz (aW aZ rfl T.b_len Tw.dg (aa (bH bW (pv 0) ao (fun _ _ => rfl)) aj)) ao))), ?_⟩
 refine ⟨_, rfl, t, _, _, _, rfl, rfl, SqT.of hT.tup, rz _ _ _ hT.few, ah, _, rfl, .inr (SqT.of hT.ahs), _, _, rfl, rfl, ?_⟩
 have e : (((ahd ns (many ns.length)).map V.int).length : Int) - 1 = ((many ns.length : Nat) : Int) := by
  rw [List.length_map, vh]
  omega
 rw [← e] at q
 exact q
def nD : Sp := fun vs H Q _ => ∃ (j : Nat) (x : V), vs = [.int (j : Int), x] ∧ ((x = .non ∧ Q .non H) ∨ ∃ k : Nat, x = .int (k : Int) ∧ Q (.int ((32 * j + k : Nat) : Int)) H)
theorem iD (T : Tx K mg a) : bh P w K mg base CX0 1 a.f_place_of_bit a.fd_place_of_bit ["number", "within"] nD := by
 refine T.D_place_of_bit.F.ok nJ (fun vs H Q E h => ?_) (fun cdv A outer s H vs Q E hr h => ?_)
 ·obtain ⟨j, x, rfl, _⟩ := h
  rfl
 obtain ⟨j, x, rfl, h⟩ := h
 refine ⟨_, (aq (aX (iM (mq (pv 1))) (az (aC dY)) aJ)
  (az (aC (aA bC (aA cC (bw (v := .int 32) rfl T.c_BLOCK_BITS ⟨_, rfl⟩) (pv 0)) (pv 1))))), ?_⟩
 rcases h with ⟨rfl, q⟩ | ⟨k, rfl, q⟩
 ·exact ⟨_, rfl, _, rfl, ir q⟩
 ·refine ⟨_, rfl, _, rfl, cW ⟨_, rfl, _, _, rfl, rfl, .inl ⟨by decide, by decide⟩, _, rfl, _, _, rfl, rfl, ?_⟩⟩
  rw [show ((32 * j + k : Nat) : Int) = 32 * (j : Int) + (k : Int) from by omega] at q
  exact q
def nq : Sp := fun vs H Q _ => ∃ (t : Addr) (L : LK) (ah : Addr) (ns ss : List Int) (rest : List V) (j at0 : Nat) (g : Int), vs = [.ref t, .ref L.f, .int (j : Int), .int (at0 : Int), .int g] ∧ Ask H t L ah ns ss rest ∧ ss.length < 1000 ∧ 32 * j < ns.length ∧
 ∀ x ss' H', ((x = .non ∧ bU ns (max at0 (32 * j)) (32 * j + wide ns.length j) g) ∨ ∃ k : Nat, x = .int (k : Int) ∧ cQ ns (max at0 (32 * j)) (32 * j + wide ns.length j) g k) → bQ L.all.length 1 ss ss' → aR (L.put H ss') H' → Q x H'
theorem iC (T : Tx K mg a) : bh P w K mg base CX0 5 a.f_first_within a.fd_first_within ["tables", "look", "number", "at", "goal"] nq := by
 refine T.D_first_within.F.ok dR (fun vs H Q E h => ?_) (fun cdv A outer s H vs Q E hr h => ?_)
 ·obtain ⟨t, L, ah, ns, ss, rest, j, at0, g, rfl, _⟩ := h
  rfl
 obtain ⟨t, L, ah, ns, ss, rest, j, at0, g, rfl, hA, hls, hj, q⟩ := h
 refine ⟨_, (aq (aF (i := 5) dR.nd rfl (Or.inl rfl) (aB T.D_start_within (iG T) (by decide) hr aL rfl (aa (pv 2) (aa (pv 3) aj))))
  (aq (aF (i := 6) dR.nd rfl (Or.inl rfl) (aB T.D_end_within (dI T) (by decide) hr aL rfl (aa (pv 2) (aa (bH bW (pv 0) ao (fun _ _ => rfl)) aj))))
  (az (aC (aB T.D_place_of_bit (iD T) (by decide) hr aL rfl (aa (pv 2) (aa (aB T.D_first_low_in (nO T) (by decide) hr aL rfl (aa (dw ((dM T).mono (by decide)) hr (i := 1) rfl (aa (pv 2) aj)) (aa (pv 5) (aa (pv 6) (aa (aA bz (pv 4) (aB T.D_base_of (g8 T) (by decide) hr aL rfl (aa (pv 0) (aa (pv 2) aj)))) aj))))) aj))))))), ?_⟩
 obtain ⟨o, fd, e1, g1⟩ := hA.asks.look.fn
 have hm : j < many ns.length := by
  unfold many
  omega
 have hw : wide ns.length j ≤ 32 := by
  unfold wide
  omega
 refine ⟨_, rfl, _, rfl, j, at0, rfl, ?_⟩
 refine ⟨_, rfl, _, rfl, t, _, _, _, rfl, rfl, SqT.of hA.tab.tup, nT _ _ _ hA.tab.few, j, ns.length, rfl, Nat.le_of_lt hj, ?_⟩
 refine ⟨_, rfl, L.f, o, fd, rfl, e1, g1, _, rfl, e1, L, ss, j, _, rfl, rfl, hA.asks, hls, hA.blk _ (by first | exact hm | omega), ?_⟩
 have hA2 := hA.more (tt := ss ++ [((L.off + j : Nat) : Int)]) (by rw [List.length_append, List.length_singleton]; omega)
 refine ⟨_, rfl, _, rfl, _, rfl, _, rfl, _, rfl, t, ah, ns, rest, j, rfl, hA2.tab, Nat.le_of_lt hm, _, _, rfl, rfl, ?_⟩
 have em : 32 * j + (at0 - 32 * j) = max at0 (32 * j) := by omega
 have w := hA.wr hm
 refine ⟨bM ns j, at0 - 32 * j, wide ns.length j, g - ht ns (32 * j), rfl, hw, fun H' k sm hd hle => ?_, fun H' sm hno => ?_⟩
 ·have := first_within hA.bits hw hd hle
  rw [em] at this
  exact ⟨j, _, rfl, .inr ⟨k, rfl, q _ _ H' (.inr ⟨_, rfl, this⟩) w sm⟩⟩
 ·have := m7 hA.bits hw hno
  rw [em] at this
  exact ⟨j, _, rfl, .inl ⟨rfl, q _ _ H' (.inl ⟨rfl, this⟩) w sm⟩⟩
def pZ (Ph C : Addr) : Sp := fun vs H Q E => ∃ (p : BP) (ss : List Int) (at1 g : Int), vs = [.ref p.t, .ref p.L.f, .int at1, .int g] ∧ Brk H Ph p ss ∧
 ((∃ at0 : Nat, at1 = (at0 : Int) ∧ ss.length ≤ 990 ∧ at0 ≤ p.ns.length ∧ ∀ x ss' H', ((x = .non ∧ bU p.ns at0 p.ns.length g) ∨ ∃ k : Nat, x = .int (k : Int) ∧ cQ p.ns at0 p.ns.length g k) → Did H H' Ph p.L 2 ss ss' → Q x H') ∨ ((at1 < 0 ∨ (p.ns.length : Int) < at1) ∧ E (.ref C) none H))
theorem jx (T : Tx K mg a) (B : Bs mg base a) : bh P w K mg base (CX1 P w) 6 a.f_low_behind a.fd_low_behind ["tables", "look", "at", "goal"] (pZ a.tP_heap_look a.c_NoPlace) := by
 refine T.D_low_behind.F.ok1 dH (fun vs H Q E h => ?_) (fun cdv A outer s H vs Q E hr h => ?_)
 ·obtain ⟨p, ss, at1, g, rfl, _⟩ := h
  rfl
 obtain ⟨p, ss, at1, g, rfl, hB, h⟩ := h
 refine ⟨_, (aq (bL (aB T.D_check_place (di T) (by decide) hr bY rfl (aa (pv 2) (aa (bH bW (pv 0) ao (fun _ _ => rfl)) aj))))
  (aq (aX (aM cM (pv 2) (bH bW (pv 0) ao (fun _ _ => rfl)) (aP _)) (az (aC dY)) aJ)
  (aq (aF (i := 4) dH.nd rfl (Or.inl rfl) (aA bO (pv 2) (bw (v := .int 32) rfl T.c_BLOCK_BITS ⟨_, rfl⟩)))
  (aq (aF (i := 5) dH.nd rfl (Or.inl rfl) (aB T.D_first_within (iC T) (by decide) hr aL rfl (aa (pv 0) (aa (pv 1) (aa (pv 4) (aa (pv 2) (aa (pv 3) aj)))))))
  (aq (aX (iM (vP (pv 5))) (az (aC (pv 5))) aJ)
  (aq (aF (i := 6) dH.nd rfl (Or.inl rfl) (aB T.D_first_at_most (lZ T) (by decide) hr aL rfl (aa (aB T.D_block_count (fL T) (by decide) hr aL rfl (aa (pv 0) aj)) (aa (aB T.D_heap_look (iu T B) (by decide) hr aL rfl (aa (pv 0) aj)) (aa (aA bC (pv 4) ao) (aa (pv 3) aj))))))
  (aq (aX (iM (mq (pv 6))) (az (aC dY)) aJ)
  (az (aC (aB T.D_first_within (iC T) (by decide) hr aL rfl (aa (pv 0) (aa (pv 1) (aa (pv 6) (aa (pv 2) (aa (pv 3) aj))))))))))))))), ?_⟩
 have hlen := hB.ask.len
 refine ⟨_, rfl, _, rfl, p.t, _, _, _, rfl, rfl, SqT.of hB.ask.tab.tup, rfl, at1, (p.ns.length : Int), rfl, ?_⟩
 rcases h with ⟨at0, rfl, hls, h1, q⟩ | ⟨hbad, qe⟩
 rotate_left
 ·exact .inr ⟨hbad, qe⟩
 refine .inl ⟨by omega, by omega, ?_⟩
 refine ⟨_, rfl, _, rfl, p.t, _, _, _, rfl, rfl, SqT.of hB.ask.tab.tup, rfl, rfl, _, rfl, aV (fun c => ?_) fun c => ?_⟩
 ·have c : V.int (at0 : Int) = V.int (p.ns.length : Int) := of_decide_eq_true c
  injection c with c
  exact q _ ss H (.inl ⟨rfl, bU.empty (by omega)⟩) (hB.self.le (by decide))
 have c : (at0 : Int) ≠ (p.ns.length : Int) := fun z => c (decide_eq_true (congrArg V.int z))
 have ef : (at0 : Int) / 32 = ((at0 / 32 : Nat) : Int) := by omega
 refine ⟨_, rfl, _, _, rfl, rfl, ⟨by decide, by decide⟩, ?_⟩
 refine ⟨_, rfl, _, rfl, _, rfl, _, rfl, _, rfl, p.t, p.L, p.ah, p.ns, ss, _, at0 / 32, at0, g, ?_, hB.ask, by omega, by omega, fun x ss1 H1 hx wr1 s1 => ?_⟩
 ·rw [← ef]
  rfl
 have d1 := hB.look wr1 s1
 have l1 := wr1.len
 have hB1 := hB.did d1 (by omega)
 rw [show max at0 (32 * (at0 / 32)) = at0 from by omega] at hx
 rcases hx with ⟨rfl, hno⟩ | ⟨k, rfl, hf⟩
 rotate_left
 ·refine ⟨_, rfl, _, rfl, ir ⟨_, rfl, q _ ss1 H1 (.inr ⟨k, rfl, hf.wider (by unfold wide; omega)⟩) (d1.le (by decide))⟩⟩
 refine ⟨_, rfl, _, rfl, cW ?_⟩
 obtain ⟨e1, e2⟩ := hB.lenL
 refine ⟨_, rfl, p.t, p.ah, p.ns, _, rfl, hB1.ask.tab, ?_⟩
 refine ⟨_, rfl, p.t, p.nd, _, _, p.xs, rfl, hB1.ask.tab.tup, hB1.nds, hB1.tab, fun fh H5 nf b5 hT5 qu => ?_⟩
 have d5 := d1.trans (hB1.made b5 hT5)
 have hB5 := hB.did d5 (by omega)
 have ev : [V.int ((many p.ns.length : Nat) : Int), .ref fh, .int ((at0 : Int) / 32 + 1), .int g] = [.int (p.lows.length : Int), .ref fh, .int ((at0 / 32 + 1 : Nat) : Int), .int g] := by
  rw [e1, ef]
  rfl
 have hle : at0 / 32 + 1 ≤ many p.ns.length := by
  unfold many
  omega
 refine ⟨_, rfl, _, _, rfl, rfl, _, rfl, fh, p.nd, p.xs, p.lows, p.S, at0 / 32 + 1, g, ev, qu, hB.sz, hB.heap, by omega, by omega, fun x H6 s6 hx => ?_⟩
 have d6 := d5.same s6
 have hB6 := hB5.same s6
 have hno1 : bU p.ns at0 (32 * (at0 / 32 + 1)) g ∨ 32 * (at0 / 32 + 1) > p.ns.length := by
  rcases Nat.lt_or_ge p.ns.length (32 * (at0 / 32 + 1)) with z | z
  ·exact .inr z
  ·rw [show 32 * (at0 / 32) + wide p.ns.length (at0 / 32) = 32 * (at0 / 32 + 1) from by unfold wide; omega] at hno
   exact .inl hno
 rcases hx with ⟨rfl, hall⟩ | ⟨i, rfl, h3, h4, ⟨c5, h5, h5'⟩, h6⟩
 ·refine ⟨_, rfl, _, rfl, ir (q _ ss1 H6 (.inl ⟨rfl, ?_⟩) (d6.le (by decide)))⟩
  rcases hno1 with hno1 | z
  ·refine hno1.join (hB.low.none (i := at0 / 32 + 1) (j := many p.ns.length) (fun t cc t1 t2 e => hall t cc t1 e) ?_ (Nat.le_refl _))
   unfold many
   omega
  ·rw [show 32 * (at0 / 32) + wide p.ns.length (at0 / 32) = p.ns.length from by unfold wide; omega] at hno
   exact hno
 rw [e1] at h4
 have hi : 32 * i < p.ns.length := by
  unfold many at h4
  omega
 have hno1' : bU p.ns at0 (32 * (at0 / 32 + 1)) g := by
  rcases hno1 with z | z
  ·exact z
  ·omega
 refine ⟨_, rfl, _, rfl, cW ?_⟩
 refine ⟨_, rfl, _, rfl, _, rfl, _, rfl, _, rfl, p.t, p.L, p.ah, p.ns, ss1, _, i, at0, g, rfl, hB6.ask, by omega, hi, fun x ss7 H7 hx wr7 s7 => ?_⟩
 have d7 := d6.trans (hB6.look wr7 s7)
 rw [show max at0 (32 * i) = 32 * i from by omega, show 32 * i + wide p.ns.length i = min (32 * i + 32) p.ns.length from by unfold wide; omega] at hx
 have hno2 : bU p.ns at0 (32 * i) g := hno1'.join (hB.low.none (i := at0 / 32 + 1) (j := i) (fun t cc t1 t2 e => h6 t cc t1 (by rw [e1]; omega) (by rw [if_pos rfl]; exact t2) e) (Nat.le_refl _) (by omega))
 rcases hx with ⟨rfl, hn⟩ | ⟨k, rfl, hf⟩
 ·exact absurd hn (hB.low.some h5 h5')
 ·refine q _ ss7 H7 (.inr ⟨k, rfl, ?_⟩) d7
  exact ((cQ.after hno2 hf (by omega)).wider (by omega))
def pG : Sp := fun vs H Q _ => ∃ (t : Addr) (L : LK) (ah : Addr) (ns ss : List Int) (rest : List V) (j up : Nat) (g : Int), vs = [.ref t, .ref L.f, .int (j : Int), .int (up : Int), .int g] ∧ Ask H t L ah ns ss rest ∧ ss.length < 1000 ∧ 32 * j < up ∧ up ≤ ns.length ∧
 ∀ x ss' H', ((x = .non ∧ bU ns (32 * j) (32 * j + wide up j) g) ∨ ∃ k : Nat, x = .int (k : Int) ∧ gA ns (32 * j) (32 * j + wide up j) g k) → bQ L.all.length 1 ss ss' → aR (L.put H ss') H' → Q x H'
theorem jd (T : Tx K mg a) : bh P w K mg base CX0 5 a.f_last_within a.fd_last_within ["tables", "look", "number", "upto", "goal"] pG := by
 refine T.D_last_within.F.ok iY (fun vs H Q E h => ?_) (fun cdv A outer s H vs Q E hr h => ?_)
 ·obtain ⟨t, L, ah, ns, ss, rest, j, up, g, rfl, _⟩ := h
  rfl
 obtain ⟨t, L, ah, ns, ss, rest, j, up, g, rfl, hA, hls, hj, hup, q⟩ := h
 refine ⟨_, (aq (aF (i := 5) iY.nd rfl (Or.inl rfl) (aB T.D_end_within (dI T) (by decide) hr aL rfl (aa (pv 2) (aa (pv 3) aj))))
  (az (aC (aB T.D_place_of_bit (iD T) (by decide) hr aL rfl (aa (pv 2) (aa (aB T.D_last_low_in (oK T) (by decide) hr aL rfl (aa (dw ((dM T).mono (by decide)) hr (i := 1) rfl (aa (pv 2) aj)) (aa ao (aa (pv 5) (aa (aA bz (pv 4) (aB T.D_base_of (g8 T) (by decide) hr aL rfl (aa (pv 0) (aa (pv 2) aj)))) aj))))) aj)))))), ?_⟩
 obtain ⟨o, fd, e1, g1⟩ := hA.asks.look.fn
 have hm : j < many ns.length := by
  unfold many
  omega
 have hw : wide up j ≤ 32 := by
  unfold wide
  omega
 refine ⟨_, rfl, _, rfl, j, up, rfl, Nat.le_of_lt hj, ?_⟩
 refine ⟨_, rfl, L.f, o, fd, rfl, e1, g1, _, rfl, e1, L, ss, j, _, rfl, rfl, hA.asks, hls, hA.blk _ (by first | exact hm | omega), ?_⟩
 have hA2 := hA.more (tt := ss ++ [((L.off + j : Nat) : Int)]) (by rw [List.length_append, List.length_singleton]; omega)
 refine ⟨_, rfl, _, rfl, _, rfl, _, rfl, t, ah, ns, rest, j, rfl, hA2.tab, Nat.le_of_lt hm, _, _, rfl, rfl, ?_⟩
 have w := hA.wr hm
 refine ⟨bM ns j, 0, wide up j, g - ht ns (32 * j), rfl, hw, fun H' k sm hd hle => ?_, fun H' sm hno => ?_⟩
 ·exact ⟨j, _, rfl, .inr ⟨k, rfl, q _ _ H' (.inr ⟨_, rfl, last_within hA.bits hw hd hle⟩) w sm⟩⟩
 ·exact ⟨j, _, rfl, .inl ⟨rfl, q _ _ H' (.inl ⟨rfl, m7 hA.bits hw hno⟩) w sm⟩⟩
def lG (Ph : Addr) : Sp := fun vs H Q _ => ∃ (p : BP) (ss : List Int) (at0 : Nat) (g : Int), vs = [.ref p.t, .ref p.L.f, .int ((at0 : Int) - 1), .int g] ∧ Brk H Ph p ss ∧ ss.length ≤ 990 ∧ at0 ≤ p.ns.length + 1 ∧
 ∀ x ss' H', ((x = .non ∧ bU p.ns 0 (at0 - 1) g) ∨ ∃ k : Nat, x = .int (k : Int) ∧ gA p.ns 0 (at0 - 1) g k) → Did H H' Ph p.L 2 ss ss' → Q x H'
theorem mj (T : Tx K mg a) (B : Bs mg base a) : bh P w K mg base CX0 6 a.f_last_low_upto a.fd_last_low_upto ["tables", "look", "upto", "goal"] (lG a.tP_heap_look) := by
 refine T.D_last_low_upto.F.ok cF (fun vs H Q E h => ?_) (fun cdv A outer s H vs Q E hr h => ?_)
 ·obtain ⟨p, ss, at0, g, rfl, _⟩ := h
  rfl
 obtain ⟨p, ss, at0, g, rfl, hB, hls, h1, q⟩ := h
 refine ⟨_, (aq (aX (aM m9 (pv 2) ao (aP _)) (az (aC dY)) aJ)
  (aq (aF (i := 4) cF.nd rfl (Or.inl rfl) (aA bO (aA bz (pv 2) ao) (bw (v := .int 32) rfl T.c_BLOCK_BITS ⟨_, rfl⟩)))
  (aq (aF (i := 5) cF.nd rfl (Or.inl rfl) (aB T.D_last_within (jd T) (by decide) hr aL rfl (aa (pv 0) (aa (pv 1) (aa (pv 4) (aa (pv 2) (aa (pv 3) aj)))))))
  (aq (aX (iM (vP (pv 5))) (az (aC (pv 5))) aJ)
  (aq (aF (i := 6) cF.nd rfl (Or.inl rfl) (aB T.D_last_at_most (nA T) (by decide) hr aL rfl (aa (aB T.D_block_count (fL T) (by decide) hr aL rfl (aa (pv 0) aj)) (aa (aB T.D_heap_look (iu T B) (by decide) hr aL rfl (aa (pv 0) aj)) (aa (pv 4) (aa (pv 3) aj))))))
  (aq (aX (iM (mq (pv 6))) (az (aC dY)) aJ)
  (az (aC (aB T.D_last_within (jd T) (by decide) hr aL rfl (aa (pv 0) (aa (pv 1) (aa (pv 6) (aa (pv 2) (aa (pv 3) aj)))))))))))))), ?_⟩
 have hlen := hB.ask.len
 refine ⟨_, rfl, _, _, rfl, rfl, _, rfl, aV (fun c => ?_) fun c => ?_⟩
 ·have c : (at0 : Int) - 1 < 1 := of_decide_eq_true c
  exact q _ ss H (.inl ⟨rfl, bU.empty (by omega)⟩) (hB.self.le (by decide))
 have c : ¬ (at0 : Int) - 1 < 1 := fun z => c (decide_eq_true z)
 obtain ⟨up, rfl⟩ : ∃ up, at0 = up + 1 := ⟨at0 - 1, by omega⟩
 rw [Nat.add_sub_cancel] at q
 have eu : ((up + 1 : Nat) : Int) - 1 = (up : Int) := by omega
 have ef : (((up + 1 : Nat) : Int) - 1 - 1) / 32 = (((up - 1) / 32 : Nat) : Int) := by omega
 refine ⟨_, rfl, _, _, rfl, rfl, _, _, rfl, rfl, ⟨by decide, by decide⟩, ?_⟩
 refine ⟨_, rfl, _, rfl, _, rfl, _, rfl, _, rfl, p.t, p.L, p.ah, p.ns, ss, _, (up - 1) / 32, up, g, ?_, hB.ask, by omega, by omega, by omega, fun x ss1 H1 hx wr1 s1 => ?_⟩
 ·rw [← ef, ← eu]
  rfl
 have d1 := hB.look wr1 s1
 have l1 := wr1.len
 have hB1 := hB.did d1 (by omega)
 rw [show 32 * ((up - 1) / 32) + wide up ((up - 1) / 32) = up from by unfold wide; omega] at hx
 rcases hx with ⟨rfl, hno⟩ | ⟨k, rfl, hf⟩
 rotate_left
 ·refine ⟨_, rfl, _, rfl, ir ⟨_, rfl, q _ ss1 H1 (.inr ⟨k, rfl, hf.wider (by omega)⟩) (d1.le (by decide))⟩⟩
 refine ⟨_, rfl, _, rfl, cW ?_⟩
 obtain ⟨e1, e2⟩ := hB.lenL
 refine ⟨_, rfl, p.t, p.ah, p.ns, _, rfl, hB1.ask.tab, ?_⟩
 refine ⟨_, rfl, p.t, p.nd, _, _, p.xs, rfl, hB1.ask.tab.tup, hB1.nds, hB1.tab, fun fh H5 nf b5 hT5 qu => ?_⟩
 have d5 := d1.trans (hB1.made b5 hT5)
 have hB5 := hB.did d5 (by omega)
 have ev : [V.int ((many p.ns.length : Nat) : Int), .ref fh, .int ((((up + 1 : Nat) : Int) - 1 - 1) / 32), .int g] = [.int (p.lows.length : Int), .ref fh, .int (((up - 1) / 32 : Nat) : Int), .int g] := by
  rw [e1, ef]
 have hle : (up - 1) / 32 ≤ many p.ns.length := by
  unfold many
  omega
 refine ⟨_, rfl, _, rfl, fh, p.nd, p.xs, p.lows, p.S, (up - 1) / 32, g, ev, qu, hB.sz, hB.heap, by omega, by omega, fun x H6 s6 hx => ?_⟩
 have d6 := d5.same s6
 have hB6 := hB5.same s6
 rcases hx with ⟨rfl, hall⟩ | ⟨i, rfl, h3, h4, ⟨c5, h5, h5'⟩, h6⟩
 ·refine ⟨_, rfl, _, rfl, ir (q _ ss1 H6 (.inl ⟨rfl, ?_⟩) (d6.le (by decide)))⟩
  have := hB.low.none (i := 0) (j := (up - 1) / 32) (b := 32 * ((up - 1) / 32)) (fun t cc t1 t2 e => hall t cc t2 e) (Nat.le_refl _) (by omega)
  exact this.join hno
 refine ⟨_, rfl, _, rfl, cW ?_⟩
 refine ⟨_, rfl, _, rfl, _, rfl, _, rfl, _, rfl, p.t, p.L, p.ah, p.ns, ss1, _, i, up, g, ?_, hB6.ask, by omega, by omega, by omega, fun x ss7 H7 hx wr7 s7 => ?_⟩
 ·rw [← eu]
  rfl
 have d7 := d6.trans (hB6.look wr7 s7)
 rw [show 32 * i + wide up i = 32 * (i + 1) from by unfold wide; omega] at hx
 have hno2 : bU p.ns (32 * (i + 1)) up g := (hB.low.none (i := i + 1) (j := (up - 1) / 32) (b := 32 * ((up - 1) / 32)) (fun t cc t1 t2 e => h6 t cc (Nat.zero_le _) t2 (by rw [if_neg (by decide)]; omega) e) (Nat.le_refl _) (by omega)).join hno
 rcases hx with ⟨rfl, hn⟩ | ⟨k, rfl, hf⟩
 ·refine absurd ?_ (hB.low.some h5 h5')
  rw [show min (32 * i + 32) p.ns.length = 32 * (i + 1) from by omega]
  exact hn
 ·exact q _ ss7 H7 (.inr ⟨k, rfl, (gA.ahead hno2 hf (by omega)).wider (by omega)⟩) d7
def rJ (Ph C : Addr) : Sp := fun vs H Q E => ∃ (p : BP) (ss : List Int) (at1 g : Int), vs = [.ref p.t, .ref p.L.f, .int at1, .int g] ∧ Brk H Ph p ss ∧
 ((∃ at0 : Nat, at1 = (at0 : Int) ∧ ss.length ≤ 990 ∧ at0 ≤ p.ns.length ∧ ∀ x ss' H', ((x = .non ∧ yP p.ns at0 g) ∨ ∃ k : Nat, x = .int (k : Int) ∧ uz p.ns at0 g k) → Did H H' Ph p.L 2 ss ss' → Q x H') ∨ ((at1 < 0 ∨ (p.ns.length : Int) < at1) ∧ E (.ref C) none H))
theorem ig (T : Tx K mg a) (B : Bs mg base a) : bh P w K mg base (CX1 P w) 7 a.f_low_ahead a.fd_low_ahead ["tables", "look", "at", "goal"] (rJ a.tP_heap_look a.c_NoPlace) := by
 refine T.D_low_ahead.F.ok1 kZ (fun vs H Q E h => ?_) (fun cdv A outer s H vs Q E hr h => ?_)
 ·obtain ⟨p, ss, at1, g, rfl, _⟩ := h
  rfl
 obtain ⟨p, ss, at1, g, rfl, hB, h⟩ := h
 refine ⟨_, (aq (bL (aB T.D_check_place (di T) (by decide) hr bY rfl (aa (pv 2) (aa (bH bW (pv 0) ao (fun _ _ => rfl)) aj))))
  (aq (aF (i := 4) kZ.nd rfl (Or.inl rfl) (aB T.D_last_low_upto (mj T B) (by decide) hr aL rfl (aa (pv 0) (aa (pv 1) (aa (aA bz (pv 2) ao) (aa (pv 3) aj))))))
  (aq (aX (PW.pt (jL (iM (mq (pv 4))) (jL (aM jC (pv 2) ao (aP _)) (jo (aM zZ (pv 3) ao (aP _)))))) (az (aC ao)) aJ)
  (az (aC (pv 4)))))), ?_⟩
 refine ⟨_, rfl, _, rfl, p.t, _, _, _, rfl, rfl, SqT.of hB.ask.tab.tup, rfl, at1, (p.ns.length : Int), rfl, ?_⟩
 rcases h with ⟨at0, rfl, hls, h1, q⟩ | ⟨hbad, qe⟩
 rotate_left
 ·exact .inr ⟨hbad, qe⟩
 refine .inl ⟨by omega, by omega, ?_⟩
 refine ⟨_, rfl, _, rfl, _, rfl, _, _, rfl, rfl, _, rfl, p, ss, at0, g, rfl, hB, hls, by omega, fun x ss1 H1 hx d1 => ?_⟩
 rcases hx with ⟨rfl, hno⟩ | ⟨k, rfl, f1, f2, f3, f4⟩
 rotate_left
 ·refine ⟨_, rfl, _, rfl, cW (cW ⟨_, rfl, q _ ss1 H1 (.inr ⟨k, rfl, by omega, f3, fun i i1 i2 => f4 i i1 (by omega)⟩) d1⟩)⟩
 refine ⟨_, rfl, _, rfl, ir ?_⟩
 refine ⟨_, rfl, _, _, rfl, rfl, _, rfl, aV (fun c1 => ?_) fun c1 => cW ⟨_, rfl, q _ ss1 H1 (.inl ⟨rfl, fun i hi => ?_⟩) d1⟩⟩
 rotate_left
 ·have c1 : ¬ (0 : Int) < (at0 : Int) := fun z => c1 (decide_eq_true z)
  omega
 have c1 : (0 : Int) < (at0 : Int) := of_decide_eq_true c1
 refine ⟨_, rfl, _, _, rfl, rfl, _, rfl, aV (fun c2 => ?_) fun c2 => ⟨_, rfl, q _ ss1 H1 (.inl ⟨rfl, fun i hi => ?_⟩) d1⟩⟩
 ·have c2 : (0 : Int) ≤ g := of_decide_eq_true c2
  have := q _ ss1 H1 (.inr ⟨0, rfl, by omega, by rw [eX]; exact c2, fun i i1 i2 => hno i i1 (by omega)⟩) d1
  exact this
 ·have c2 : ¬ (0 : Int) ≤ g := fun z => c2 (decide_eq_true z)
  rcases Nat.eq_zero_or_pos i with rfl | h0
  ·rw [eX]
   omega
  ·exact hno i h0 (by omega)
theorem qG {b : Int} {n st : Nat} {x : Int} : x ∈ (nets b n).drop st ↔ ∃ k, st < k ∧ k ≤ n ∧ x = net b k := by
 constructor
 ·intro h
  obtain ⟨i, hi⟩ := List.getElem?_of_mem h
  rw [List.getElem?_drop] at hi
  have hl := (List.getElem?_eq_some_iff.mp hi).1
  rw [b7] at hl
  rw [kO hl] at hi
  cases hi
  exact ⟨st + i + 1, by omega, by omega, rfl⟩
 ·rintro ⟨k, h1, h2, rfl⟩
  refine List.mem_of_getElem? (i := k - 1 - st) ?_
  rw [List.getElem?_drop, show st + (k - 1 - st) = k - 1 from by omega, kO (by omega), show k - 1 + 1 = k from by omega]
theorem uL {ns : List Int} (h : aK ns) {j st n : Nat} {M : Int} (hn : n ≤ 32) (hM : oH M ((nets (bM ns j) n).drop st)) : pY ns (32 * j + st) (32 * j + n) (ht ns (32 * j) + M) := by
 obtain ⟨h1, h2⟩ := hM
 constructor
 ·obtain ⟨k, k1, k2, rfl⟩ := qG.mp h1
  exact ⟨32 * j + k, by omega, by omega, (gJ h j k (by omega)).symm⟩
 ·intro k k1 k2
  have := h2 _ (qG.mpr ⟨k - 32 * j, by omega, by omega, rfl⟩)
  have e := gJ h j (k - 32 * j) (by omega)
  rw [show 32 * j + (k - 32 * j) = k from by omega] at e
  omega
def lU : Sp := fun vs H Q _ => ∃ (t : Addr) (L : LK) (ah : Addr) (ns ss : List Int) (rest : List V) (j at0 up : Nat), vs = [.ref t, .ref L.f, .int (j : Int), .int (at0 : Int), .int (up : Int)] ∧ Ask H t L ah ns ss rest ∧ ss.length < 1000 ∧ 32 * j < up ∧ up ≤ ns.length ∧ at0 < 32 * j + wide up j ∧
 ∀ m ss' H', pY ns (max at0 (32 * j)) (32 * j + wide up j) m → bQ L.all.length 1 ss ss' → aR (L.put H ss') H' → Q (.int m) H'
theorem gO (T : Tx K mg a) : bh P w K mg base CX0 4 a.f_lowest_within a.fd_lowest_within ["tables", "look", "number", "at", "upto"] lU := by
 refine T.D_lowest_within.F.ok gB (fun vs H Q E h => ?_) (fun cdv A outer s H vs Q E hr h => ?_)
 ·obtain ⟨t, L, ah, ns, ss, rest, j, at0, up, rfl, _⟩ := h
  rfl
 obtain ⟨t, L, ah, ns, ss, rest, j, at0, up, rfl, hA, hls, hj, hup, hat, q⟩ := h
 refine ⟨_, (aq (aF (i := 5) gB.nd rfl (Or.inl rfl) (aB T.D_nets_of (ie T) (by decide) hr aL rfl (aa (dw ((dM T).mono (by decide)) hr (i := 1) rfl (aa (pv 2) aj)) (aa (aB T.D_end_within (dI T) (by decide) hr aL rfl (aa (pv 2) (aa (pv 4) aj))) aj))))
  (az (aC (aA bC (aB T.D_base_of (g8 T) (by decide) hr aL rfl (aa (pv 0) (aa (pv 2) aj))) (aW (qb rfl) rfl T.b_min Tw.jG (aa (iZ lq (pv 5) (jr (aB T.D_start_within (iG T) (by decide) hr aL rfl (aa (pv 2) (aa (pv 3) aj)))) nR) aj)))))), ?_⟩
 obtain ⟨o, fd, e1, g1⟩ := hA.asks.look.fn
 have hm : j < many ns.length := by
  unfold many
  omega
 have hw : 1 ≤ wide up j ∧ wide up j ≤ 32 := by
  unfold wide
  omega
 refine ⟨L.f, o, fd, rfl, e1, g1, _, rfl, e1, L, ss, j, _, rfl, rfl, hA.asks, hls, hA.blk _ (by first | exact hm | omega), ?_⟩
 refine ⟨_, rfl, _, rfl, j, up, rfl, Nat.le_of_lt hj, ?_⟩
 refine ⟨_, _, rfl, by omega, by omega, fun r H2 hr2 s2 x2 => ?_⟩
 rw [Int.toNat_natCast] at x2
 have hA2 := (hA.more (tt := ss ++ [((L.off + j : Nat) : Int)]) (by rw [List.length_append, List.length_singleton]; omega)).same s2
 refine ⟨_, rfl, _, rfl, t, ah, ns, rest, j, rfl, hA2.tab, Nat.le_of_lt hm, ?_⟩
 refine ⟨_, rfl, _, rfl, _, rfl, j, at0, rfl, _, rfl, r, _, rfl, SqL.of x2, fun c hc => ?_⟩
 have ec : j7 ((nets (bM ns j) (wide up j)).map V.int) (some ((at0 - 32 * j : Nat) : Int)) none = ((nets (bM ns j) (wide up j)).drop (at0 - 32 * j)).map V.int := yE _ _
 refine ⟨c, (nets (bM ns j) (wide up j)).drop (at0 - 32 * j), rfl, SqL.of (by rw [← ec]; exact ak), ?_, fun M hM => ⟨_, _, rfl, rfl, ?_⟩⟩
 ·rw [List.length_drop, b7]
  omega
 have := uL hA.bits hw.2 hM
 rw [show 32 * j + (at0 - 32 * j) = max at0 (32 * j) from by omega] at this
 exact q _ _ _ this (hA.wr hm) (s2.trans (au hc _))
def xq (Ph C : Addr) : Sp := fun vs H Q E => ∃ (p : BP) (ss : List Int) (at1 up1 : Int), vs = [.ref p.t, .ref p.L.f, .int at1, .int up1] ∧ Brk H Ph p ss ∧
 ((∃ at0 up : Nat, at1 = (at0 : Int) ∧ up1 = (up : Int) ∧ ss.length ≤ 990 ∧ at0 < up ∧ up ≤ p.ns.length ∧ ∀ m ss' H', pY p.ns at0 up m → Did H H' Ph p.L 2 ss ss' → Q (.int m) H') ∨ ((at1 < 0 ∨ up1 ≤ at1 ∨ (p.ns.length : Int) < up1) ∧ E (.ref C) none H))
theorem wM (T : Tx K mg a) (B : Bs mg base a) : bh P w K mg base (CX1 P w) 5 a.f_lowest a.fd_lowest ["tables", "look", "at", "upto"] (xq a.tP_heap_look a.c_NoPlace) := by
 refine T.D_lowest.F.ok1 jm (fun vs H Q E h => ?_) (fun cdv A outer s H vs Q E hr h => ?_)
 ·obtain ⟨p, ss, at1, up1, rfl, _⟩ := h
  rfl
 obtain ⟨p, ss, at1, up1, rfl, hB, h⟩ := h
 refine ⟨_, (aq (aX (eU (qj jB m9 jB ao (pv 2) (pv 3) (bH bW (pv 0) ao (fun _ _ => rfl)))) (az (gM T.x_NoPlace rfl (aa lE aj))) aJ)
  (aq (aF (i := 4) jm.nd rfl (Or.inl rfl) (aA bO (pv 2) (bw (v := .int 32) rfl T.c_BLOCK_BITS ⟨_, rfl⟩)))
  (aq (aF (i := 5) jm.nd rfl (Or.inl rfl) (aA bO (aA bz (pv 3) ao) (bw (v := .int 32) rfl T.c_BLOCK_BITS ⟨_, rfl⟩)))
  (aq (aF (i := 6) jm.nd rfl (Or.inl rfl) (aY (aa (aB T.D_lowest_within (gO T) (by decide) hr aL rfl (aa (pv 0) (aa (pv 1) (aa (pv 4) (aa (pv 2) (aa (pv 3) aj)))))) aj)))
  (aq (aX (aM jC (pv 5) (pv 4) (aP _)) (az (bL (o7 PySem.F.plainAttrs_list PySem.F.slot_list_append PySem.F.type_list_append cV (pv 6) (aa (aB T.D_lowest_within (gO T) (by decide) hr aL rfl (aa (pv 0) (aa (pv 1) (aa (pv 5) (aa (pv 2) (aa (pv 3) aj)))))) aj)))) aJ)
  (aq (aX (aM jC (pv 5) (aA bC (pv 4) ao) (aP _)) (az (bL (o7 PySem.F.plainAttrs_list PySem.F.slot_list_append PySem.F.type_list_append cV (pv 6) (aa (aB T.D_least_of (sS T) (by decide) hr aL rfl (aa (aB T.D_block_count (fL T) (by decide) hr aL rfl (aa (pv 0) aj)) (aa (aB T.D_heap_look (iu T B) (by decide) hr aL rfl (aa (pv 0) aj)) (aa (aA bC (pv 4) ao) (aa (pv 5) aj))))) aj)))) aJ)
  (az (aC (aW (qb rfl) rfl T.b_min Tw.jG (aa (pv 6) aj)))))))))), ?_⟩
 rcases h with ⟨at0, up, rfl, rfl, hls, h1, h2, q⟩ | ⟨hbad, qe⟩
 rotate_left
 ·refine ⟨_, rfl, _, _, rfl, rfl, _, rfl, aV (fun c1 => ?_) fun c1 => ?_⟩
  ·have c1 : (0 : Int) ≤ at1 := of_decide_eq_true c1
   refine ⟨_, rfl, _, _, rfl, rfl, _, rfl, aV (fun c2 => ?_) fun c2 => ?_⟩
   ·have c2 : at1 < up1 := of_decide_eq_true c2
    refine ⟨_, rfl, p.t, _, _, _, rfl, rfl, SqT.of hB.ask.tab.tup, rfl, _, _, rfl, rfl, _, rfl, ?_⟩
    rw [decide_eq_false (show ¬ up1 ≤ (p.ns.length : Int) from by omega)]
    exact ir ⟨(by show 1 ≤ sizeLine; decide), qe⟩
   ·exact ⟨_, rfl, ir ⟨(by show 1 ≤ sizeLine; decide), qe⟩⟩
  ·exact ⟨_, rfl, ir ⟨(by show 1 ≤ sizeLine; decide), qe⟩⟩
 have hlen := hB.ask.len
 refine ⟨_, rfl, _, _, rfl, rfl, _, rfl, aV (fun _ => ?_) fun z => absurd (decide_eq_true (show (0 : Int) ≤ (at0 : Int) from by omega)) z⟩
 refine ⟨_, rfl, _, _, rfl, rfl, _, rfl, aV (fun _ => ?_) fun z => absurd (decide_eq_true (show (at0 : Int) < (up : Int) from by omega)) z⟩
 refine ⟨_, rfl, p.t, _, _, _, rfl, rfl, SqT.of hB.ask.tab.tup, rfl, _, _, rfl, rfl, _, rfl, ?_⟩
 rw [decide_eq_true (show (up : Int) ≤ (p.ns.length : Int) from by omega)]
 refine cW ?_
 refine ⟨_, rfl, _, _, rfl, rfl, ⟨by decide, by decide⟩, ?_⟩
 refine ⟨_, rfl, _, _, rfl, rfl, _, _, rfl, rfl, ⟨by decide, by decide⟩, ?_⟩
 have ef : (at0 : Int) / 32 = ((at0 / 32 : Nat) : Int) := by omega
 have el : ((up : Int) - 1) / 32 = (((up - 1) / 32 : Nat) : Int) := by omega
 have w1 : at0 < 32 * (at0 / 32) + wide up (at0 / 32) := by
  unfold wide
  omega
 refine ⟨_, rfl, _, rfl, _, rfl, _, rfl, _, rfl, p.t, p.L, p.ah, p.ns, ss, _, at0 / 32, at0, up, ?_, hB.ask, by omega, by omega, h2, w1, fun m1 ss1 H1 hm1 wr1 s1 => ?_⟩
 ·rw [← ef]
  rfl
 have d1 := hB.look wr1 s1
 have l1 := wr1.len
 have hB1 := hB.did d1 (by omega)
 refine ⟨(by show 1 ≤ sizeLine; decide), fun r hr' => ?_⟩
 have s2 := au hr' (.lst [.int m1])
 have d2 := d1.same s2
 have hB2 := hB1.same s2
 have xr2 : upd H1 r (.lst [.int m1]) r = some (.lst ([m1].map V.int)) := ak
 have nr : p.L.wr ≠ some r := fun z => by rw [d1.seen r z] at hr'; cases hr'
 generalize upd H1 r (.lst [.int m1]) = H2 at *
 refine ⟨_, rfl, _, rfl, _, _, rfl, rfl, _, rfl, aV (fun c1 => ?_) fun c1 => ?_⟩
 rotate_left
 ·have c1 : ¬ (at0 : Int) / 32 < ((up : Int) - 1) / 32 := fun z => c1 (decide_eq_true z)
  refine ⟨_, rfl, _, rfl, _, _, rfl, rfl, _, _, rfl, rfl, _, rfl, aV (fun c2 => ?_) fun c2 => ?_⟩
  ·have c2 : (at0 : Int) / 32 + 1 < ((up : Int) - 1) / 32 := of_decide_eq_true c2
   omega
  refine ⟨_, rfl, r, [m1], rfl, SqL.of xr2, Nat.succ_pos _, fun M hM => q M ss1 H2 ?_ (d2.le (by decide))⟩
  have : M = m1 := List.mem_singleton.mp hM.1
  subst this
  rw [show max at0 (32 * (at0 / 32)) = at0 from by omega, show 32 * (at0 / 32) + wide up (at0 / 32) = up from by unfold wide; omega] at hm1
  exact hm1
 have c1 : (at0 : Int) / 32 < ((up : Int) - 1) / 32 := of_decide_eq_true c1
 have w2 : at0 < 32 * ((up - 1) / 32) + wide up ((up - 1) / 32) := by
  unfold wide
  omega
 refine ⟨_, rfl, .inl ⟨rfl, _, SqL.of xr2⟩, _, rfl, _, rfl, _, rfl, _, rfl, _, rfl, p.t, p.L, p.ah, p.ns, ss1, _, (up - 1) / 32, at0, up, ?_, hB2.ask, by omega, by omega, h2, w2, fun m2 ss3 H3 hm2 wr3 s3 => ?_⟩
 ·rw [← el]
  rfl
 have d3 := hB2.look wr3 s3
 have l3 := wr3.len
 have hB3 := hB2.did d3 (by omega)
 have dA := d2.trans d3
 have nPr : r ≠ a.tP_heap_look := TabAt.ne hB2.tab xr2 nofun
 have xr3 := d3.kp _ _ xr2 nPr nr
 refine ⟨r, _, _, rfl, rfl, xr3, (by show 1 < sizeLine; decide), ?_⟩
 have hr0 := d1.free hr'
 have d4 : Did H (upd H3 r (.lst ([m1].map V.int ++ [.int m2]))) a.tP_heap_look p.L 2 ss ss3 := dA.set hr0 xr3 nr
 have xr4 : upd H3 r (.lst ([m1].map V.int ++ [.int m2])) r = some (.lst ([m1, m2].map V.int)) := ak
 have hB4 := hB.did d4 (by omega)
 generalize upd H3 r (.lst ([m1].map V.int ++ [.int m2])) = H4 at *
 rw [show max at0 (32 * (at0 / 32)) = at0 from by omega, show 32 * (at0 / 32) + wide up (at0 / 32) = 32 * (at0 / 32 + 1) from by unfold wide; omega] at hm1
 rw [show max at0 (32 * ((up - 1) / 32)) = 32 * ((up - 1) / 32) from by omega, show 32 * ((up - 1) / 32) + wide up ((up - 1) / 32) = up from by unfold wide; omega] at hm2
 refine ⟨_, rfl, _, rfl, _, _, rfl, rfl, _, _, rfl, rfl, _, rfl, aV (fun c2 => ?_) fun c2 => ?_⟩
 rotate_left
 ·have c2 : ¬ (at0 : Int) / 32 + 1 < ((up : Int) - 1) / 32 := fun z => c2 (decide_eq_true z)
  refine ⟨_, rfl, r, [m1, m2], rfl, SqL.of xr4, Nat.succ_pos _, fun M hM => q M ss3 H4 ?_ d4⟩
  obtain ⟨M1, M2⟩ := hM
  rw [show at0 / 32 + 1 = (up - 1) / 32 from by omega] at hm1
  refine hm1.join2 hm2 (by omega) (by omega) ?_ (M2 m1 (by simp)) (M2 m2 (by simp))
  simpa using M1
 have c2 : (at0 : Int) / 32 + 1 < ((up : Int) - 1) / 32 := of_decide_eq_true c2
 obtain ⟨e1, e2⟩ := hB.lenL
 refine ⟨_, rfl, .inl ⟨rfl, _, SqL.of xr4⟩, _, rfl, p.t, p.ah, p.ns, _, rfl, hB4.ask.tab, ?_⟩
 refine ⟨_, rfl, p.t, p.nd, _, _, p.xs, rfl, hB4.ask.tab.tup, hB4.nds, hB4.tab, fun fh H5 nf b5 hT5 qu => ?_⟩
 have d5 := d4.trans (hB4.made b5 hT5)
 have xr5 := b5 _ _ xr4 (TabAt.ne hB4.tab xr4 nofun)
 have ev : [V.int ((many p.ns.length : Nat) : Int), .ref fh, .int ((at0 : Int) / 32 + 1), .int (((up : Int) - 1) / 32)] = [.int (p.lows.length : Int), .ref fh, .int ((at0 / 32 + 1 : Nat) : Int), .int (((up - 1) / 32 : Nat) : Int)] := by
  rw [e1, el, ef]
  rfl
 have hle : (up - 1) / 32 ≤ many p.ns.length := by
  unfold many
  omega
 refine ⟨_, rfl, _, _, rfl, rfl, _, rfl, fh, p.nd, p.xs, p.lows, p.S, at0 / 32 + 1, (up - 1) / 32, ev, qu, hB.sz, hB.heap, by omega, by omega, by omega, fun M3 H6 hM3 s6 => ?_⟩
 have d6 := d5.same s6
 have xr6 := s6 _ _ xr5
 refine ⟨r, _, _, rfl, rfl, xr6, (by show 2 < sizeLine; decide), ?_⟩
 have d7 : Did H (upd H6 r (.lst ([m1, m2].map V.int ++ [.int M3]))) a.tP_heap_look p.L (2 + 0) ss ss3 := d6.set hr0 xr6 nr
 have hm3 := hB.low.minH (show at0 / 32 + 1 < (up - 1) / 32 by omega) (by omega) hM3.1 hM3.2
 refine ⟨_, rfl, r, [m1, m2, M3], rfl, SqL.of ak, Nat.succ_pos _, fun M hM => q M ss3 _ ?_ d7⟩
 obtain ⟨M1, M2⟩ := hM
 have a1 := M2 m1 (by simp)
 have a2 := M2 m2 (by simp)
 have a3 := M2 M3 (by simp)
 have hor : M = m1 ∨ M = m2 ∨ M = M3 := by simpa using M1
 refine pY.join2 (pY.join2 hm1 hm3 (by omega) (by omega) (M := if m1 ≤ M3 then m1 else M3) ?_ ?_ ?_) hm2 (by omega) (by omega) ?_ ?_ a2
 ·split <;> simp
 ·split <;> omega
 ·split <;> omega
 ·split <;> omega
 ·split <;> omega
def lQ (C1 C2 : Addr) : Sp := fun vs H Q E => ∃ (t : Addr) (L : LK) (ah : Addr) (ns ss : List Int) (rest : List V) (at1 b : Int), vs = [.ref t, .ref L.f, .int at1, .int b] ∧ Ask H t L ah ns ss rest ∧ ss.length < 1000 ∧
 ((∃ at0 : Nat, at1 = (at0 : Int) ∧ ns[at0]? = some b ∧ ∀ ss' H', bQ L.all.length 1 ss ss' → aR (L.put H ss') H' → Q .non H') ∨ ((at1 < 0 ∨ (ns.length : Int) ≤ at1) ∧ E (.ref C1) none H) ∨ (∃ (at0 : Nat) (c : Int), at1 = (at0 : Int) ∧ ns[at0]? = some c ∧ c ≠ b ∧ ∀ ss' H', bQ L.all.length 1 ss ss' → aR (L.put H ss') H' → E (.ref C2) none H'))
theorem dD (T : Tx K mg a) : bh P w K mg base (CX1 P w) 3 a.f_check_bracket a.fd_check_bracket ["tables", "look", "at", "bit"] (lQ a.c_NoPlace a.c_NoNode) := by
 refine T.D_check_bracket.F.ok1 mF (fun vs H Q E h => ?_) (fun cdv A outer s H vs Q E hr h => ?_)
 ·obtain ⟨t, L, ah, ns, ss, rest, at1, b, rfl, _⟩ := h
  rfl
 obtain ⟨t, L, ah, ns, ss, rest, at1, b, rfl, hA, hls, h⟩ := h
 refine ⟨_, (az (aX (aM mV (aB T.D_bit_at (xu T) (by decide) hr bY rfl (aa (pv 0) (aa (pv 1) (aa (pv 2) aj)))) (pv 3) (aP _)) (az (gM T.x_NoNode rfl (aa lE aj))) aJ)), ?_⟩
 refine ⟨_, rfl, _, rfl, _, rfl, t, L, ah, ns, ss, rest, at1, rfl, hA, ?_⟩
 rcases h with ⟨at0, rfl, hb, q⟩ | h | ⟨at0, c, rfl, hb, hc, q⟩
 ·exact .inl ⟨at0, b, rfl, hls, hb, fun ss' H' w sm => ⟨_, rfl, rfl, _, rfl, lu rfl (q ss' H' w sm)⟩⟩
 ·exact .inr h
 ·refine .inl ⟨at0, c, rfl, hls, hb, fun ss' H' w sm => ⟨_, rfl, rfl, _, rfl, ?_⟩⟩
  rw [decide_eq_false (fun z => hc (V.int.inj z))]
  exact ir ⟨(by show 1 ≤ sizeLine; decide), q ss' H' w sm⟩
def u6 (Ph C1 C2 : Addr) : Sp := fun vs H Q E => ∃ (p : BP) (ss : List Int) (at1 : Int), vs = [.ref p.t, .ref p.L.f, .int at1] ∧ Brk H Ph p ss ∧ ss.length ≤ 980 ∧ Tree p.ns ∧
 ((∃ at0 : Nat, at1 = (at0 : Int) ∧ p.ns[at0]? = some 1 ∧ ∀ (k : Nat) ss' H', cQ p.ns at0 p.ns.length (ht p.ns at0) (k + 1) → Did H H' Ph p.L 4 ss ss' → Q (.int (k : Int)) H') ∨ ((at1 < 0 ∨ (p.ns.length : Int) ≤ at1) ∧ E (.ref C1) none H) ∨ (∃ at0 : Nat, at1 = (at0 : Int) ∧ p.ns[at0]? = some 0 ∧ ∀ ss' H', Did H H' Ph p.L 1 ss ss' → E (.ref C2) none H'))
theorem gZ (T : Tx K mg a) (B : Bs mg base a) : bh P w K mg base (CX1 P w) 7 a.f_closing a.fd_closing ["tables", "look", "at"] (u6 a.tP_heap_look a.c_NoPlace a.c_NoNode) := by
 refine T.D_closing.F.ok1 ux (fun vs H Q E h => ?_) (fun cdv A outer s H vs Q E hr h => ?_)
 ·obtain ⟨p, ss, at1, rfl, _⟩ := h
  rfl
 obtain ⟨p, ss, at1, rfl, hB, hls, htr, h⟩ := h
 refine ⟨_, (aq (bL (aB T.D_check_bracket (dD T) (by decide) hr bY rfl (aa (pv 0) (aa (pv 1) (aa (pv 2) (aa ao aj))))))
  (az (aC (aA bz (aB T.D_low_behind (jx T B) (by decide) hr bY rfl (aa (pv 0) (aa (pv 1) (aa (pv 2) (aa (aB T.D_height (fc T) (by decide) hr bY rfl (aa (pv 0) (aa (pv 1) (aa (pv 2) aj)))) aj))))) ao)))), ?_⟩
 refine ⟨_, rfl, _, rfl, _, rfl, p.t, p.L, p.ah, p.ns, ss, _, at1, 1, rfl, hB.ask, by omega, ?_⟩
 rcases h with ⟨at0, rfl, hb, q⟩ | h | ⟨at0, rfl, hb, q⟩
 rotate_left
 ·exact .inr (.inl h)
 ·exact .inr (.inr ⟨at0, 0, rfl, hb, by decide, fun ss' H' w sm => q ss' H' (hB.look w sm)⟩)
 have hat := (List.getElem?_eq_some_iff.mp hb).1
 refine .inl ⟨at0, rfl, hb, fun ss1 H1 w1 s1 => ?_⟩
 have d1 := hB.look w1 s1
 have l1 := w1.len
 have hB1 := hB.did d1 (by omega)
 refine ⟨_, rfl, _, rfl, _, rfl, _, rfl, _, rfl, _, rfl, p.t, p.L, p.ah, p.ns, ss1, _, (at0 : Int), rfl, hB1.ask, .inl ⟨at0, rfl, by omega, by omega, fun ss2 H2 w2 s2 => ?_⟩⟩
 have d2 := d1.trans (hB1.look w2 s2)
 have l2 := w2.len
 have hB2 := hB.did d2 (by omega)
 refine ⟨p, ss2, (at0 : Int), ht p.ns at0, rfl, hB2, .inl ⟨at0, rfl, by omega, by omega, fun x ss3 H3 hx d3 => ?_⟩⟩
 rcases hx with ⟨rfl, hn⟩ | ⟨k, rfl, hf⟩
 ·have := hn p.ns.length hat (Nat.le_refl _)
  rw [htr.2.1] at this
  have := htr.pos (k := at0) (by omega)
  omega
 ·obtain ⟨k, rfl⟩ : ∃ j, k = j + 1 := ⟨k - 1, by have := hf.1; omega⟩
  refine ⟨_, _, rfl, rfl, ?_⟩
  have := q k ss3 H3 hf (d2.trans d3)
  rw [show (k : Int) = ((k + 1 : Nat) : Int) - 1 from by omega] at this
  exact this
def uQ (Ph C1 C2 : Addr) : Sp := fun vs H Q E => ∃ (p : BP) (ss : List Int) (at1 : Int), vs = [.ref p.t, .ref p.L.f, .int at1] ∧ Brk H Ph p ss ∧ ss.length ≤ 980 ∧ Tree p.ns ∧
 ((∃ at0 : Nat, at1 = (at0 : Int) ∧ p.ns[at0]? = some 0 ∧ ∀ (k : Nat) ss' H', uz p.ns at0 (ht p.ns at0 - 1) k → Did H H' Ph p.L 4 ss ss' → Q (.int (k : Int)) H') ∨ ((at1 < 0 ∨ (p.ns.length : Int) ≤ at1) ∧ E (.ref C1) none H) ∨ (∃ at0 : Nat, at1 = (at0 : Int) ∧ p.ns[at0]? = some 1 ∧ ∀ ss' H', Did H H' Ph p.L 1 ss ss' → E (.ref C2) none H'))
theorem jK (T : Tx K mg a) (B : Bs mg base a) : bh P w K mg base (CX1 P w) 8 a.f_opening a.fd_opening ["tables", "look", "at"] (uQ a.tP_heap_look a.c_NoPlace a.c_NoNode) := by
 refine T.D_opening.F.ok1 u5 (fun vs H Q E h => ?_) (fun cdv A outer s H vs Q E hr h => ?_)
 ·obtain ⟨p, ss, at1, rfl, _⟩ := h
  rfl
 obtain ⟨p, ss, at1, rfl, hB, hls, htr, h⟩ := h
 refine ⟨_, (aq (bL (aB T.D_check_bracket (dD T) (by decide) hr bY rfl (aa (pv 0) (aa (pv 1) (aa (pv 2) (aa ao aj))))))
  (az (aC (aB T.D_low_ahead (ig T B) (by decide) hr bY rfl (aa (pv 0) (aa (pv 1) (aa (pv 2) (aa (aA bz (aB T.D_height (fc T) (by decide) hr bY rfl (aa (pv 0) (aa (pv 1) (aa (pv 2) aj)))) ao) aj)))))))), ?_⟩
 refine ⟨_, rfl, _, rfl, _, rfl, p.t, p.L, p.ah, p.ns, ss, _, at1, 0, rfl, hB.ask, by omega, ?_⟩
 rcases h with ⟨at0, rfl, hb, q⟩ | h | ⟨at0, rfl, hb, q⟩
 rotate_left
 ·exact .inr (.inl h)
 ·exact .inr (.inr ⟨at0, 1, rfl, hb, by decide, fun ss' H' w sm => q ss' H' (hB.look w sm)⟩)
 have hat := (List.getElem?_eq_some_iff.mp hb).1
 refine .inl ⟨at0, rfl, hb, fun ss1 H1 w1 s1 => ?_⟩
 have d1 := hB.look w1 s1
 have l1 := w1.len
 have hB1 := hB.did d1 (by omega)
 refine ⟨_, rfl, _, rfl, _, rfl, _, rfl, _, rfl, _, rfl, p.t, p.L, p.ah, p.ns, ss1, _, (at0 : Int), rfl, hB1.ask, .inl ⟨at0, rfl, by omega, by omega, fun ss2 H2 w2 s2 => ?_⟩⟩
 have d2 := d1.trans (hB1.look w2 s2)
 have l2 := w2.len
 have hB2 := hB.did d2 (by omega)
 refine ⟨_, _, rfl, rfl, p, ss2, (at0 : Int), ht p.ns at0 - 1, rfl, hB2, .inl ⟨at0, rfl, by omega, by omega, fun x ss3 H3 hx d3 => ?_⟩⟩
 have hbit : 0 < at0 ∧ 0 ≤ ht p.ns at0 - 1 := by
  have h1 := kj hb
  have h2 := htr.pos (k := at0 + 1) (by omega)
  refine ⟨?_, by omega⟩
  rcases Nat.eq_zero_or_pos at0 with rfl | z
  ·rw [eX] at h1
   omega
  ·exact z
 rcases hx with ⟨rfl, hn⟩ | ⟨k, rfl, hf⟩
 ·have := hn 0 hbit.1
  rw [eX] at this
  omega
 ·exact q k ss3 H3 hf (d2.trans d3)
def uN (Ph C1 C2 : Addr) : Sp := fun vs H Q E => ∃ (p : BP) (ss : List Int) (at1 pairs : Int), vs = [.ref p.t, .ref p.L.f, .int at1, .int pairs] ∧ Brk H Ph p ss ∧ ss.length ≤ 980 ∧ Tree p.ns ∧
 ((∃ at0 : Nat, at1 = (at0 : Int) ∧ p.ns[at0]? = some 1 ∧ ∀ x ss' H', ((pairs = 0 ∧ x = .int (at0 : Int)) ∨ (pairs ≠ 0 ∧ ((x = .non ∧ yP p.ns at0 (ht p.ns at0 - pairs)) ∨ ∃ k : Nat, x = .int (k : Int) ∧ uz p.ns at0 (ht p.ns at0 - pairs) k))) → Did H H' Ph p.L 4 ss ss' → Q x H') ∨ ((at1 < 0 ∨ (p.ns.length : Int) ≤ at1) ∧ E (.ref C1) none H) ∨ (∃ at0 : Nat, at1 = (at0 : Int) ∧ p.ns[at0]? = some 0 ∧ ∀ ss' H', Did H H' Ph p.L 1 ss ss' → E (.ref C2) none H'))
theorem jg (T : Tx K mg a) (B : Bs mg base a) : bh P w K mg base (CX1 P w) 8 a.f_further_out a.fd_further_out ["tables", "look", "at", "pairs"] (uN a.tP_heap_look a.c_NoPlace a.c_NoNode) := by
 refine T.D_further_out.F.ok1 oW (fun vs H Q E h => ?_) (fun cdv A outer s H vs Q E hr h => ?_)
 ·obtain ⟨p, ss, at1, pairs, rfl, _⟩ := h
  rfl
 obtain ⟨p, ss, at1, pairs, rfl, hB, hls, htr, h⟩ := h
 refine ⟨_, (aq (bL (aB T.D_check_bracket (dD T) (by decide) hr bY rfl (aa (pv 0) (aa (pv 1) (aa (pv 2) (aa ao aj))))))
  (aq (aX (aM cM (pv 3) ao (aP _)) (az (aC (pv 2))) aJ)
  (az (aC (aB T.D_low_ahead (ig T B) (by decide) hr bY rfl (aa (pv 0) (aa (pv 1) (aa (pv 2) (aa (aA bz (aB T.D_height (fc T) (by decide) hr bY rfl (aa (pv 0) (aa (pv 1) (aa (pv 2) aj)))) (pv 3)) aj))))))))), ?_⟩
 refine ⟨_, rfl, _, rfl, _, rfl, p.t, p.L, p.ah, p.ns, ss, _, at1, 1, rfl, hB.ask, by omega, ?_⟩
 rcases h with ⟨at0, rfl, hb, q⟩ | h | ⟨at0, rfl, hb, q⟩
 rotate_left
 ·exact .inr (.inl h)
 ·exact .inr (.inr ⟨at0, 0, rfl, hb, by decide, fun ss' H' w sm => q ss' H' (hB.look w sm)⟩)
 have hat := (List.getElem?_eq_some_iff.mp hb).1
 refine .inl ⟨at0, rfl, hb, fun ss1 H1 w1 s1 => ?_⟩
 have d1 := hB.look w1 s1
 have l1 := w1.len
 have hB1 := hB.did d1 (by omega)
 refine ⟨_, rfl, rfl, _, rfl, aV (fun c => ?_) fun c => ?_⟩
 ·have c : V.int pairs = V.int 0 := of_decide_eq_true c
  injection c with c
  exact ⟨_, rfl, q _ ss1 H1 (.inl ⟨c, rfl⟩) (d1.le (by decide))⟩
 have c : pairs ≠ 0 := fun z => c (decide_eq_true (congrArg V.int z))
 refine ⟨_, rfl, _, rfl, _, rfl, _, rfl, _, rfl, _, rfl, p.t, p.L, p.ah, p.ns, ss1, _, (at0 : Int), rfl, hB1.ask, .inl ⟨at0, rfl, by omega, by omega, fun ss2 H2 w2 s2 => ?_⟩⟩
 have d2 := d1.trans (hB1.look w2 s2)
 have l2 := w2.len
 have hB2 := hB.did d2 (by omega)
 exact ⟨_, rfl, _, _, rfl, rfl, p, ss2, (at0 : Int), ht p.ns at0 - pairs, rfl, hB2, .inl ⟨at0, rfl, by omega, by omega, fun x ss3 H3 hx d3 => q x ss3 H3 (.inr ⟨c, hx⟩) (d2.trans d3)⟩⟩
def rA (K : PySem.W.Frag) : Sp := fun vs H Q _ => ∃ (p : Addr) (zs : List Int), vs = [.ref p] ∧ SqL K H p (zs.map V.int) ∧ zs.length ≤ 63 ∧
 ∀ (r : Addr) (H' : Hp) (ns : List Int), H r = none → aR H H' → H' r = some (.lst (ns.map V.int)) → Tree ns → aK ns → ns.length ≤ 3100 → Q (.ref r) H'
theorem mL (T : Tx K mg a) : bh P w K mg base CX0 1 a.f_law_tree_bits a.fd_law_tree_bits ["_law_script"] (rA K) := by
 refine T.D_law_tree_bits.F.ok aQ (fun vs H Q E h => ?_) (fun cdv A outer s H vs Q E hr h => ?_)
 ·obtain ⟨p, zs, rfl, _⟩ := h
  rfl
 obtain ⟨p, zs, rfl, hS, hl, q⟩ := h
 refine ⟨_, (aq (aF (i := 1) aQ.nd rfl (Or.inl rfl) (aY (aa ao aj)))
  (aq (aF (i := 2) aQ.nd rfl (Or.inl rfl) ao)
  (aq (cA PassesOwn.never rfl (cI (iZ lq (pv 0) nR (jr ao))) (bc (i := 3) aQ.nd rfl (Or.inl rfl)) (aq (aF (i := 4) aQ.nd rfl (Or.inl rfl) (aA bO (pv 3) ao))
  (aq (aF (i := 5) aQ.nd rfl (Or.inl rfl) (aA bD (pv 4) ao))
  (aq (aF (i := 6) aQ.nd rfl (Or.inl rfl) (aA bD (aA bO (pv 4) ao) ao))
  (aq (aF (i := 7) aQ.nd rfl (Or.inl rfl) (aA bD (aA bO (pv 4) ao) ao))
  (aq (aX (aM cM (aA bD (pv 3) ao) ao (aP _)) (az (aF (i := 7) aQ.nd rfl (Or.inl rfl) ao)) aJ)
  (aq (aX (aM cM (aA bD (pv 3) ao) ao (aP _)) (aq (aF (i := 5) aQ.nd rfl (Or.inl rfl) (aA bD (pv 4) ao))
  (aq (aF (i := 6) aQ.nd rfl (Or.inl rfl) (aA bD (aA bO (pv 4) ao) ao))
  (az (aF (i := 7) aQ.nd rfl (Or.inl rfl) (aA bD (aA bO (pv 4) ao) ao))))) aJ)
  (aq (aF (i := 7) aQ.nd rfl (Or.inl rfl) (aW (lM rfl) rfl T.b_min Tw.jG (aa (pv 7) (aa (aA bz (aA bC (pv 2) (pv 5)) ao) aj))))
  (az (aX (aM m9 (aA bC (aW aZ rfl T.b_len Tw.dg (aa (pv 1) aj)) (pv 2)) ao (aP _)) (aq (bL (o7 PySem.F.plainAttrs_list PySem.F.slot_list_extend PySem.F.type_list_extend wX (pv 1) (aa (aA c7 (aA c7 (aA fB (aY (aa ao aj)) (pv 5)) (aA fB (aY (aa ao (aa ao aj))) (pv 6))) (aA fB (aY (aa ao aj)) (pv 7))) aj)))
  (az (aF (i := 2) aQ.nd rfl (Or.inl rfl) (aA bz (aA bC (pv 2) (pv 5)) (pv 7))))) aJ))))))))))
  (az (aC (aA c7 (pv 1) (aA fB (aY (aa ao aj)) (pv 2)))))))), ?_⟩
 refine ⟨(by show 1 ≤ sizeLine; decide), fun r hr' => ?_⟩
 refine ⟨_, rfl, _, rfl, p, _, rfl, (au hr' _).seq hS, fun c hc => ⟨c, rfl, ⟨_, SqL.of ak⟩, ?_⟩⟩
 have ez : j7 (zs.map V.int) none (some 63) = zs.map V.int := by
  rw [show (63 : Int) = ((63 : Nat) : Int) from rfl, uY, List.take_of_length_le hl]
 rw [ez] at *
 have ne : r ≠ c := aO ak hc
 refine cj (xs := zs.map V.int) (fun i σ H' => (∃ (hg : Nat) (k3 k4 k5 k6 k7 : Option V), σ = [some (.ref p), some (.ref r), some (.int (hg : Int)), k3, k4, k5, k6, k7] ∧ 1 ≤ hg ∧ hg ≤ 1000 ∧ ∃ ns, H' r = some (.lst (ns.map V.int)) ∧ Up ns hg ∧ ns.length ≤ 2100) ∧ aR H H' ∧ H' c = some (.lst (zs.map V.int))) ?_ ?_ ?_ ?_
 ·refine ⟨⟨1, none, none, none, none, none, rfl, by decide, by decide, [1], ?_, Up.one, by decide⟩, (au hr' _).trans (au hc _), ak⟩
  rw [aG ne, ak]
  rfl
 ·rintro i σ H' _ ⟨_, _, h⟩
  exact SqL.of h
 ·rintro i x σ H' hx ⟨⟨hg, k3, k4, k5, k6, k7, rfl, hg0, hg1, ns, hr1, u, hn⟩, sm, hc1⟩
  obtain ⟨z, hz, rfl⟩ := int_at hx
  refine ⟨_, rfl, _, _, rfl, rfl, ⟨by decide, by decide⟩, ?_⟩
  refine ⟨_, rfl, _, _, rfl, rfl, (by show (0 : Int) < 6; decide), ?_⟩
  refine ⟨_, rfl, _, _, rfl, rfl, ⟨by decide, by decide⟩, _, _, rfl, rfl, (by show (0 : Int) < 4; decide), ?_⟩
  refine ⟨_, rfl, _, _, rfl, rfl, ⟨by decide, by decide⟩, _, _, rfl, rfl, (by show (0 : Int) < 9; decide), ?_⟩
  refine ⟨_, rfl, _, _, rfl, rfl, (by show (0 : Int) < 4; decide), rfl, _, rfl, ?_⟩
  refine vg (fun σ H2 => H2 = H' ∧ ∃ dn : Int, σ = [some (.ref p), some (.ref r), some (.int (hg : Int)), some (.int z), some (.int (z / 4)), some (.int (z / 4 % 6)), some (.int (z / 4 / 6 % 4)), some (.int dn)] ∧ 0 ≤ dn ∧ dn ≤ 900) ⟨rfl, _, rfl, by omega, by omega⟩ ?_ (fun _ m => m _ _ ⟨rfl, 900, rfl, by decide, by decide⟩)
  rintro σ2 H2 ⟨rfl, dn, rfl, hd0, hd1⟩
  refine ⟨_, rfl, _, _, rfl, rfl, (by show (0 : Int) < 4; decide), rfl, _, rfl, ?_⟩
  refine vg (fun σ H3 => H3 = H2 ∧ ∃ (up fl : Nat) (dn : Int), σ = [some (.ref p), some (.ref r), some (.int (hg : Int)), some (.int z), some (.int (z / 4)), some (.int (up : Int)), some (.int (fl : Int)), some (.int dn)] ∧ 0 ≤ dn ∧ dn ≤ 900 ∧ up ≤ 49 ∧ fl ≤ 29) ⟨rfl, (z / 4 % 6).toNat, (z / 4 / 6 % 4).toNat, dn, ?_, hd0, hd1, by omega, by omega⟩ ?_ (fun _ m => ?_)
  ·rw [Int.toNat_of_nonneg (by omega), Int.toNat_of_nonneg (by omega)]
  rotate_left
  ·refine ⟨_, rfl, _, _, rfl, rfl, (by show (0 : Int) < 50; decide), ?_⟩
   refine ⟨_, rfl, _, _, rfl, rfl, ⟨by decide, by decide⟩, _, _, rfl, rfl, (by show (0 : Int) < 30; decide), ?_⟩
   refine ⟨_, rfl, _, _, rfl, rfl, ⟨by decide, by decide⟩, _, _, rfl, rfl, (by show (0 : Int) < 60; decide), ?_⟩
   refine m _ _ ⟨rfl, (z / 4 % 50).toNat, (z / 4 / 50 % 30).toNat, z / 4 / 1500 % 60, ?_, by omega, by omega, by omega, by omega⟩
   rw [Int.toNat_of_nonneg (by omega), Int.toNat_of_nonneg (by omega)]
   rfl
  rintro σ3 H3 ⟨rfl, up, fl, dn, rfl, hd0, hd1, hu, hf⟩
  refine ⟨_, rfl, _, rfl, _, rfl, _, _, rfl, rfl, _, _, rfl, rfl, _, _, rfl, ?_⟩
  obtain ⟨d2, hd2⟩ : ∃ d2 : Nat, (if (hg : Int) + (up : Int) - 1 < dn then (hg : Int) + (up : Int) - 1 else dn) = (d2 : Int) ∧ d2 ≤ 900 ∧ (d2 : Int) ≤ (hg : Int) + up - 1 := by
   refine ⟨(if (hg : Int) + (up : Int) - 1 < dn then (hg : Int) + (up : Int) - 1 else dn).toNat, ?_, ?_, ?_⟩ <;> split <;> omega
  obtain ⟨ed, hd3, hd4⟩ := hd2
  rw [ed]
  refine ⟨_, rfl, r, _, rfl, .inl (SqL.of hr1), _, rfl, _, _, rfl, rfl, _, _, rfl, rfl, _, rfl, ?_⟩
  refine vg (fun σ H' => (∃ (hg : Nat) (k3 k4 k5 k6 k7 : Option V), σ = [some (.ref p), some (.ref r), some (.int (hg : Int)), k3, k4, k5, k6, k7] ∧ 1 ≤ hg ∧ hg ≤ 1000 ∧ ∃ ns, H' r = some (.lst (ns.map V.int)) ∧ Up ns hg ∧ ns.length ≤ 2100) ∧ aR H H' ∧ H' c = some (.lst (zs.map V.int))) ⟨⟨hg, _, _, _, _, _, rfl, hg0, hg1, ns, hr1, u, hn⟩, sm, hc1⟩ (fun σ' H' h => h) (fun cc m => ?_)
  have cc : ((ns.map V.int).length : Int) + (hg : Int) < 900 := of_decide_eq_true cc
  rw [List.length_map] at cc
  refine ⟨_, rfl, .inl ⟨rfl, _, SqL.of hr1⟩, ?_⟩
  refine jV (i := 5) (k := (up : Int)) (xs := [.int 1]) (fun Q' q => q) rfl (by omega) (by decide) (by omega) fun p1 H4 hp1 s4 x4 => ?_
  refine jV (i := 6) (k := (fl : Int)) (xs := [.int 1, .int 0]) (fun Q' q => q) rfl (by omega) (by decide) (by omega) fun p2 H5 hp2 s5 x5 => ?_
  have e4 : (List.replicate (up : Int).toNat [V.int 1]).flatten = (List.replicate up (1 : Int)).map V.int := by
   rw [Int.toNat_natCast, jq]
  have e5 : (List.replicate (fl : Int).toNat [V.int 1, V.int 0]).flatten = (pairs fl).map V.int := by
   rw [Int.toNat_natCast]
   exact yj fl [1, 0]
  rw [e4] at x4
  rw [e5] at x5
  refine ⟨p1, p2, _, _, rfl, rfl, s5 _ _ x4, x5, ?_, fun p3 hp3 => ?_⟩
  ·rw [List.length_map, List.length_map, List.length_replicate, cG, sizeLine_eq]
   omega
  have s6 := au hp3 (.lst ((List.replicate up (1 : Int)).map V.int ++ (pairs fl).map V.int))
  refine jV (i := 7) (k := (d2 : Int)) (xs := [.int 0]) (fun Q' q => q) rfl (by omega) (by decide) (by omega) fun p4 H7 hp4 s7 x7 => ?_
  have e7 : (List.replicate (d2 : Int).toNat [V.int 0]).flatten = (List.replicate d2 (0 : Int)).map V.int := by
   rw [Int.toNat_natCast, jq]
  rw [e7] at x7
  refine ⟨p3, p4, _, _, rfl, rfl, s7 _ _ ak, x7, ?_, fun p5 hp5 => ?_⟩
  ·rw [List.length_append, List.length_map, List.length_map, List.length_map, List.length_replicate, List.length_replicate, cG, sizeLine_eq]
   omega
  have s8 := au hp5 (.lst ((List.replicate up (1 : Int)).map V.int ++ (pairs fl).map V.int ++ (List.replicate d2 (0 : Int)).map V.int))
  have sA := s4.trans (s5.trans (s6.trans (s7.trans s8)))
  have hrA := sA _ _ hr1
  refine ⟨r, p5, _, _, rfl, rfl, hrA, ak, ?_, ?_⟩
  ·rw [List.length_append, List.length_append, List.length_map, List.length_map, List.length_map, List.length_map, List.length_replicate, List.length_replicate, cG, sizeLine_eq]
   omega
  have hgn : ∃ g2 : Nat, (hg : Int) + (up : Int) - (d2 : Int) = (g2 : Int) ∧ 1 ≤ g2 ∧ g2 ≤ 1000 := ⟨hg + up - d2, by omega, by omega, by omega⟩
  obtain ⟨g2, eg, hg2, hg3⟩ := hgn
  refine ⟨_, rfl, _, rfl, _, _, rfl, rfl, _, rfl, _, _, rfl, rfl, ?_⟩
  refine m _ _ ⟨⟨g2, some (.int z), some (.int (z / 4)), some (.int (up : Int)), some (.int (fl : Int)), some (.int (d2 : Int)), ?_, hg2, hg3, ns ++ (List.replicate up 1 ++ pairs fl ++ List.replicate d2 0), ?_, ?_, ?_⟩, cO (sm.trans sA) hr' _, ?_⟩
  ·exact congrArg (fun v => [some (V.ref p), some (.ref r), some v, some (.int z), some (.int (z / 4)), some (.int (up : Int)), some (.int (fl : Int)), some (.int (d2 : Int))]) (congrArg V.int eg)
  ·rw [ak, List.map_append, List.map_append, List.map_append]
  ·rw [← eg]
   exact u.piece up fl d2 (by omega) hd4
  ·rw [List.length_append, List.length_append, List.length_append, List.length_replicate, List.length_replicate, cG]
   omega
  ·rw [aG (Ne.symm ne)]
   exact sA _ _ hc1
 ·rintro σ H' ⟨⟨hg, k3, k4, k5, k6, k7, rfl, hg0, hg1, ns, hr1, u, hn⟩, sm, hc1⟩
  refine ⟨_, rfl, ?_⟩
  refine jV (i := 2) (k := (hg : Int)) (xs := [.int 0]) (fun Q' q => q) rfl (by omega) (by decide) (by omega) fun p1 H4 hp1 s4 x4 => ?_
  have e4 : (List.replicate (hg : Int).toNat [V.int 0]).flatten = (List.replicate hg (0 : Int)).map V.int := by
   rw [Int.toNat_natCast, jq]
  rw [e4] at x4
  refine ⟨r, p1, _, _, rfl, rfl, s4 _ _ hr1, x4, ?_, fun p2 hp2 => ?_⟩
  ·rw [List.length_map, List.length_map, List.length_replicate, sizeLine_eq]
   omega
  have sA := sm.trans (s4.trans (au hp2 (.lst (ns.map V.int ++ (List.replicate hg (0 : Int)).map V.int))))
  obtain ⟨tr, tb⟩ := u.close hg0
  refine q p2 _ (ns ++ List.replicate hg 0) ((sm.trans s4).free hp2) sA ?_ tr tb ?_
  ·rw [ak, List.map_append]
  ·rw [List.length_append, List.length_replicate]
   omega
theorem bj {K : PySem.W.Frag} {t c : Value} {r : List Value} (h : PySem.W.kitOne K t c = some false) : PySem.W.kitAny K t (c :: r) = PySem.W.kitAny K t r := by
 simp only [PySem.W.kitAny, h]
theorem wk {ns : List Int} {at0 k : Nat} (hb : ns[at0]? = some 1) (hf : cQ ns at0 ns.length (ht ns at0) (k + 1)) : at0 < k := by
 have h1 := hf.1
 have h2 := kj hb
 have h3 := hf.2.2.1
 rcases Nat.lt_or_ge at0 k with z | z
 ·exact z
 ·have : k = at0 := by omega
  subst this
  omega
def Bk (a : Ad) (k : Int) (C : Addr) : Prop := (k = 0 ∧ C = a.c_TooMany) ∨ (k = 1 ∧ C = a.c_NoBit) ∨ (k = 2 ∧ C = a.c_NoTree) ∨ (k = 3 ∧ C = a.c_NoPlace) ∨ (k = 4 ∧ C = a.c_NoNode)
def kbs (k : Int) : List Bool := [decide ((0 : Int) = k), decide ((1 : Int) = k), decide ((2 : Int) = k), decide ((3 : Int) = k), decide ((4 : Int) = k), decide ((5 : Int) = k)]
theorem gD {H : Hp} : ∀ bs : List Bool, je K H (bs.map V.bl) (bs.map PyData.bool)
 | [] => .nil
 | b :: r => .cons (.bl b) (gD r)
theorem pL : ∀ bs : List Bool, PyData.canLayAll0 (bs.map PyData.bool) = true
 | [] => rfl
 | _ :: r => by
  rw [List.map_cons]
  simp only [PyData.canLayAll0, PyData.canLay0, pL r, Bool.and_self]
theorem qJ : ∀ bs : List Bool, PyData.depthAll (bs.map PyData.bool) ≤ 1
 | [] => by simp [PyData.depthAll]
 | _ :: r => by
  have := qJ r
  rw [List.map_cons]
  simp only [PyData.depthAll, PyData.depth]
  omega
theorem gH (bs : List Bool) : SeqAt.shaped (.list (bs.map PyData.bool)) = true ∧ PyData.eqv (.list (bs.map PyData.bool)) (.list (bs.map PyData.bool)) = true := by
 have h1 := qJ bs
 have hc : (PyData.list (bs.map PyData.bool)).canLay0 = true := by
  simp only [PyData.canLay0, pL]
 refine ⟨?_, SeqAt.eqv_refl _ hc⟩
 unfold SeqAt.shaped
 rw [hc, Bool.true_and]
 refine decide_eq_true ?_
 simp only [PyData.depth]
 omega
theorem ql {lo : Int} {n : Nat} {cap : L2.St} {tt : TT} {te : TE} {Qf : Addr → Hp → Prop} {H : Hp} (f : Nat → V) (hl : n < sizeLine)
  (htt : ∀ (z : Int) (H' : Hp) (Q : Bool → Hp → Prop), Q true H' → tt (some (.int z) :: cap) H' Q) (hte : ∀ (i : Nat) (H' : Hp) (Q : VK), i < n → aR H H' → Q (f i) H' → te (some (.int (lo + i)) :: cap) H' Q)
  (q : ∀ D, H D = none → Qf D (upd H D (.lst ((List.range n).map f)))) : o4 (Itr lo n) cap tt te Qf H := by
 intro D hD
 refine ⟨fun i m ys H1 => m = n - i ∧ i ≤ n ∧ ys = (List.range i).map f ∧ H1 = upd H D (.lst ys), ⟨_, rfl, Nat.zero_le _, rfl, rfl⟩, ?_⟩
 rintro i m ys H1 ⟨rfl, hi, rfl, rfl⟩
 by_cases hlt : i < n
 ·refine .inr ⟨hlt, fun v H2 y => ?_⟩
  obtain ⟨rfl, rfl⟩ := y
  refine htt _ _ _ ?_
  rw [if_pos rfl]
  refine hte i _ _ hlt (au hD _) ⟨ak, ?_, n - (i + 1), by omega, rfl, hlt, ?_, ?_⟩
  ·rw [List.length_map, List.length_range]
   omega
  ·rw [List.range_succ, List.map_append]
   rfl
  ·rw [qQ]
 ·have e : i = n := by omega
  subst e
  exact .inl ⟨Nat.le_refl _, q D hD⟩
def zb (a : Ad) : Sp := fun vs H Q _ => ∃ (ea C : Addr) (k : Int), vs = [.ref ea] ∧ H ea = some (pN ea C) ∧ Bk a k C ∧ ∀ r H', H r = none → aR H H' → H' r = some (.lst ((kbs k).map V.bl)) → Q (.ref r) H'
theorem j0 (T : Tx K mg a) : nj P w K mg base CX0 1 a.f_law_kinds a.fd_law_kinds ["_law_e"] (zb a) := by
 refine T.D_law_kinds.F.okH kJ (fun vs H Q E h => ?_) (fun cdv A outer s H vs Q E hr h => ?_)
 ·obtain ⟨ea, C, k, rfl, _⟩ := h
  rfl
 obtain ⟨ea, C, k, rfl, he, hk, q⟩ := h
 refine ⟨_, (aq (aF (i := 1) kJ.nd rfl (Or.inl rfl) (aY (aa (aW (show dq _ _ (sI K) from fU) rfl T.b_isinstance Tw.bJ (aa (pv 0) (aa (bw (v := .ref a.c_TooMany) rfl T.g_TooMany rfl) aj))) (aa (aW (show dq _ _ (sI K) from fU) rfl T.b_isinstance Tw.bJ (aa (pv 0) (aa (bw (v := .ref a.c_NoBit) rfl T.g_NoBit rfl) aj))) (aa (aW (show dq _ _ (sI K) from fU) rfl T.b_isinstance Tw.bJ (aa (pv 0) (aa (bw (v := .ref a.c_NoTree) rfl T.g_NoTree rfl) aj))) (aa (aW (show dq _ _ (sI K) from fU) rfl T.b_isinstance Tw.bJ (aa (pv 0) (aa (bw (v := .ref a.c_NoPlace) rfl T.g_NoPlace rfl) aj))) aj))))))
  (az (aC (aA c7 (pv 1) (aY (aa (aW (show dq _ _ (sI K) from fU) rfl T.b_isinstance Tw.bJ (aa (pv 0) (aa (bw (v := .ref a.c_NoNode) rfl T.g_NoNode rfl) aj))) (aa (aW (show dq _ _ (z8 K) from xM) rfl T.b_isinstance Tw.bJ (aa (pv 0) (aa (gj (aa (bw (v := .ref a.c_NoSign) rfl T.g_NoSign rfl) (aa (bw (v := .ref a.c_NoWord) rfl T.g_NoWord rfl) (aa (bw (v := .ref a.c_Twice) rfl T.g_Twice rfl) (aa (bw (v := .ref a.c_NoOctets) rfl T.g_NoOctets rfl) aj))))) aj))) aj))))))), ?_⟩
 rcases hk with ⟨rfl, rfl⟩ | ⟨rfl, rfl⟩ | ⟨rfl, rfl⟩ | ⟨rfl, rfl⟩ | ⟨rfl, rfl⟩
 ·refine ⟨_, rfl, ea, _, _, _, _, rfl, .inl ⟨_, rfl, rfl⟩, he, T.k_TooMany, T.i_TooMany_TooMany, _, rfl, ea, _, _, _, _, rfl, .inl ⟨_, rfl, rfl⟩, he, T.k_TooMany, T.i_TooMany_NoBit, _, rfl, ea, _, _, _, _, rfl, .inl ⟨_, rfl, rfl⟩, he, T.k_TooMany, T.i_TooMany_NoTree, _, rfl, ea, _, _, _, _, rfl, .inl ⟨_, rfl, rfl⟩, he, T.k_TooMany, T.i_TooMany_NoPlace, (by show 4 ≤ sizeLine; decide), fun l1 hl1 => ?_⟩
  have s1 := au hl1 (.lst [.bl true, .bl false, .bl false, .bl false])
  refine ⟨_, rfl, _, rfl, ea, _, _, _, _, rfl, .inl ⟨_, rfl, rfl⟩, s1 _ _ he, T.k_TooMany, T.i_TooMany_NoNode, _, rfl, (by show 4 ≤ sizeLine; decide), fun tp htp => ?_⟩
  have sT := au htp (.tup [.ref a.c_NoSign, .ref a.c_NoWord, .ref a.c_Twice, .ref a.c_NoOctets])
  refine ⟨ea, a.c_TooMany, tp, [a.c_NoSign, a.c_NoWord, a.c_Twice, a.c_NoOctets], false, rfl, ak, sT _ _ (s1 _ _ he), T.k_TooMany, (by rw [List.map_cons, List.map_cons, List.map_cons, List.map_cons, bj T.i_TooMany_NoSign, bj T.i_TooMany_NoWord, bj T.i_TooMany_Twice, bj T.i_TooMany_NoOctets]; rfl), (by show 2 ≤ sizeLine; decide), fun l2 hl2 => ?_⟩
  have s2 := au hl2 (.lst [.bl false, .bl false])
  refine ⟨l1, l2, [.bl true, .bl false, .bl false, .bl false], [.bl false, .bl false], rfl, rfl, s2 _ _ (sT _ _ ak), ak, (by show 4 + 2 ≤ sizeLine; decide), fun r hr' => ?_⟩
  have sA := s1.trans (sT.trans s2)
  exact q r _ (sA.free hr') (sA.trans (au hr' _)) ak
 ·refine ⟨_, rfl, ea, _, _, _, _, rfl, .inl ⟨_, rfl, rfl⟩, he, T.k_NoBit, T.i_NoBit_TooMany, _, rfl, ea, _, _, _, _, rfl, .inl ⟨_, rfl, rfl⟩, he, T.k_NoBit, T.i_NoBit_NoBit, _, rfl, ea, _, _, _, _, rfl, .inl ⟨_, rfl, rfl⟩, he, T.k_NoBit, T.i_NoBit_NoTree, _, rfl, ea, _, _, _, _, rfl, .inl ⟨_, rfl, rfl⟩, he, T.k_NoBit, T.i_NoBit_NoPlace, (by show 4 ≤ sizeLine; decide), fun l1 hl1 => ?_⟩
  have s1 := au hl1 (.lst [.bl false, .bl true, .bl false, .bl false])
  refine ⟨_, rfl, _, rfl, ea, _, _, _, _, rfl, .inl ⟨_, rfl, rfl⟩, s1 _ _ he, T.k_NoBit, T.i_NoBit_NoNode, _, rfl, (by show 4 ≤ sizeLine; decide), fun tp htp => ?_⟩
  have sT := au htp (.tup [.ref a.c_NoSign, .ref a.c_NoWord, .ref a.c_Twice, .ref a.c_NoOctets])
  refine ⟨ea, a.c_NoBit, tp, [a.c_NoSign, a.c_NoWord, a.c_Twice, a.c_NoOctets], false, rfl, ak, sT _ _ (s1 _ _ he), T.k_NoBit, (by rw [List.map_cons, List.map_cons, List.map_cons, List.map_cons, bj T.i_NoBit_NoSign, bj T.i_NoBit_NoWord, bj T.i_NoBit_Twice, bj T.i_NoBit_NoOctets]; rfl), (by show 2 ≤ sizeLine; decide), fun l2 hl2 => ?_⟩
  have s2 := au hl2 (.lst [.bl false, .bl false])
  refine ⟨l1, l2, [.bl false, .bl true, .bl false, .bl false], [.bl false, .bl false], rfl, rfl, s2 _ _ (sT _ _ ak), ak, (by show 4 + 2 ≤ sizeLine; decide), fun r hr' => ?_⟩
  have sA := s1.trans (sT.trans s2)
  exact q r _ (sA.free hr') (sA.trans (au hr' _)) ak
 ·refine ⟨_, rfl, ea, _, _, _, _, rfl, .inl ⟨_, rfl, rfl⟩, he, T.k_NoTree, T.i_NoTree_TooMany, _, rfl, ea, _, _, _, _, rfl, .inl ⟨_, rfl, rfl⟩, he, T.k_NoTree, T.i_NoTree_NoBit, _, rfl, ea, _, _, _, _, rfl, .inl ⟨_, rfl, rfl⟩, he, T.k_NoTree, T.i_NoTree_NoTree, _, rfl, ea, _, _, _, _, rfl, .inl ⟨_, rfl, rfl⟩, he, T.k_NoTree, T.i_NoTree_NoPlace, (by show 4 ≤ sizeLine; decide), fun l1 hl1 => ?_⟩
  have s1 := au hl1 (.lst [.bl false, .bl false, .bl true, .bl false])
  refine ⟨_, rfl, _, rfl, ea, _, _, _, _, rfl, .inl ⟨_, rfl, rfl⟩, s1 _ _ he, T.k_NoTree, T.i_NoTree_NoNode, _, rfl, (by show 4 ≤ sizeLine; decide), fun tp htp => ?_⟩
  have sT := au htp (.tup [.ref a.c_NoSign, .ref a.c_NoWord, .ref a.c_Twice, .ref a.c_NoOctets])
  refine ⟨ea, a.c_NoTree, tp, [a.c_NoSign, a.c_NoWord, a.c_Twice, a.c_NoOctets], false, rfl, ak, sT _ _ (s1 _ _ he), T.k_NoTree, (by rw [List.map_cons, List.map_cons, List.map_cons, List.map_cons, bj T.i_NoTree_NoSign, bj T.i_NoTree_NoWord, bj T.i_NoTree_Twice, bj T.i_NoTree_NoOctets]; rfl), (by show 2 ≤ sizeLine; decide), fun l2 hl2 => ?_⟩
  have s2 := au hl2 (.lst [.bl false, .bl false])
  refine ⟨l1, l2, [.bl false, .bl false, .bl true, .bl false], [.bl false, .bl false], rfl, rfl, s2 _ _ (sT _ _ ak), ak, (by show 4 + 2 ≤ sizeLine; decide), fun r hr' => ?_⟩
  have sA := s1.trans (sT.trans s2)
  exact q r _ (sA.free hr') (sA.trans (au hr' _)) ak
 ·refine ⟨_, rfl, ea, _, _, _, _, rfl, .inl ⟨_, rfl, rfl⟩, he, T.k_NoPlace, T.i_NoPlace_TooMany, _, rfl, ea, _, _, _, _, rfl, .inl ⟨_, rfl, rfl⟩, he, T.k_NoPlace, T.i_NoPlace_NoBit, _, rfl, ea, _, _, _, _, rfl, .inl ⟨_, rfl, rfl⟩, he, T.k_NoPlace, T.i_NoPlace_NoTree, _, rfl, ea, _, _, _, _, rfl, .inl ⟨_, rfl, rfl⟩, he, T.k_NoPlace, T.i_NoPlace_NoPlace, (by show 4 ≤ sizeLine; decide), fun l1 hl1 => ?_⟩
  have s1 := au hl1 (.lst [.bl false, .bl false, .bl false, .bl true])
  refine ⟨_, rfl, _, rfl, ea, _, _, _, _, rfl, .inl ⟨_, rfl, rfl⟩, s1 _ _ he, T.k_NoPlace, T.i_NoPlace_NoNode, _, rfl, (by show 4 ≤ sizeLine; decide), fun tp htp => ?_⟩
  have sT := au htp (.tup [.ref a.c_NoSign, .ref a.c_NoWord, .ref a.c_Twice, .ref a.c_NoOctets])
  refine ⟨ea, a.c_NoPlace, tp, [a.c_NoSign, a.c_NoWord, a.c_Twice, a.c_NoOctets], false, rfl, ak, sT _ _ (s1 _ _ he), T.k_NoPlace, (by rw [List.map_cons, List.map_cons, List.map_cons, List.map_cons, bj T.i_NoPlace_NoSign, bj T.i_NoPlace_NoWord, bj T.i_NoPlace_Twice, bj T.i_NoPlace_NoOctets]; rfl), (by show 2 ≤ sizeLine; decide), fun l2 hl2 => ?_⟩
  have s2 := au hl2 (.lst [.bl false, .bl false])
  refine ⟨l1, l2, [.bl false, .bl false, .bl false, .bl true], [.bl false, .bl false], rfl, rfl, s2 _ _ (sT _ _ ak), ak, (by show 4 + 2 ≤ sizeLine; decide), fun r hr' => ?_⟩
  have sA := s1.trans (sT.trans s2)
  exact q r _ (sA.free hr') (sA.trans (au hr' _)) ak
 ·refine ⟨_, rfl, ea, _, _, _, _, rfl, .inl ⟨_, rfl, rfl⟩, he, T.k_NoNode, T.i_NoNode_TooMany, _, rfl, ea, _, _, _, _, rfl, .inl ⟨_, rfl, rfl⟩, he, T.k_NoNode, T.i_NoNode_NoBit, _, rfl, ea, _, _, _, _, rfl, .inl ⟨_, rfl, rfl⟩, he, T.k_NoNode, T.i_NoNode_NoTree, _, rfl, ea, _, _, _, _, rfl, .inl ⟨_, rfl, rfl⟩, he, T.k_NoNode, T.i_NoNode_NoPlace, (by show 4 ≤ sizeLine; decide), fun l1 hl1 => ?_⟩
  have s1 := au hl1 (.lst [.bl false, .bl false, .bl false, .bl false])
  refine ⟨_, rfl, _, rfl, ea, _, _, _, _, rfl, .inl ⟨_, rfl, rfl⟩, s1 _ _ he, T.k_NoNode, T.i_NoNode_NoNode, _, rfl, (by show 4 ≤ sizeLine; decide), fun tp htp => ?_⟩
  have sT := au htp (.tup [.ref a.c_NoSign, .ref a.c_NoWord, .ref a.c_Twice, .ref a.c_NoOctets])
  refine ⟨ea, a.c_NoNode, tp, [a.c_NoSign, a.c_NoWord, a.c_Twice, a.c_NoOctets], false, rfl, ak, sT _ _ (s1 _ _ he), T.k_NoNode, (by rw [List.map_cons, List.map_cons, List.map_cons, List.map_cons, bj T.i_NoNode_NoSign, bj T.i_NoNode_NoWord, bj T.i_NoNode_Twice, bj T.i_NoNode_NoOctets]; rfl), (by show 2 ≤ sizeLine; decide), fun l2 hl2 => ?_⟩
  have s2 := au hl2 (.lst [.bl true, .bl false])
  refine ⟨l1, l2, [.bl false, .bl false, .bl false, .bl false], [.bl true, .bl false], rfl, rfl, s2 _ _ (sT _ _ ak), ak, (by show 4 + 2 ≤ sizeLine; decide), fun r hr' => ?_⟩
  have sA := s1.trans (sT.trans s2)
  exact q r _ (sA.free hr') (sA.trans (au hr' _)) ak
def Qt (Ph : Addr) (H X : Hp) : Prop := (∀ b o, H b = some o → b ≠ Ph → X b = some o) ∧ TabAt X Ph (cX bu) aN.qual
theorem Qt.trans {Ph : Addr} {H X Y : Hp} (h : Qt Ph H X) (h' : Qt Ph X Y) : Qt Ph H Y := ⟨fun b o e n => h'.1 b o (h.1 b o e n) n, h'.2⟩
theorem Qt.same {Ph : Addr} {H X Y : Hp} (h : Qt Ph H X) (s : aR X Y) : Qt Ph H Y := ⟨fun b o e n => s _ _ (h.1 b o e n), TabAt.same h.2 s⟩
theorem Qt.of {Ph : Addr} {H X : Hp} (t : TabAt H Ph (cX bu) aN.qual) (s : aR H X) : Qt Ph H X := ⟨fun b o e _ => s _ _ e, TabAt.same t s⟩
theorem Did.qt {H H' : Hp} {Ph : Addr} {L : LK} {k : Nat} {ss ss' : List Int} (d : Did H H' Ph L k ss ss') (hw : L.wr = none) : Qt Ph H H' := ⟨fun b o e n => d.kp b o e n (by rw [hw]; nofun), d.tab⟩
theorem Brk.qt {H H' : Hp} {Ph : Addr} {p : BP} (h : Brk H Ph p []) (hw : p.L.wr = none) (q : Qt Ph H H') : Brk H' Ph p [] :=
 h.did (k := 0) ⟨fun b o e n _ => q.1 b o e n, fun sn e => (by rw [hw] at e; cases e), q.2, bQ.none _⟩ (by simp)
def Bx (way at1 more : Int) (n : Nat) : Prop := ((way = 0 ∨ way = 1 ∨ way = 2) ∧ (at1 < 0 ∨ (n : Int) < at1)) ∨ (way = 3 ∧ (at1 < 0 ∨ more ≤ at1 ∨ (n : Int) < more)) ∨ ((way = 4 ∨ way = 5 ∨ way = 6) ∧ (at1 < 0 ∨ (n : Int) ≤ at1))
def Ae (way at1 : Int) (ns : List Int) : Prop := ∃ at0 : Nat, at1 = (at0 : Int) ∧ ((way = 5 ∧ ns[at0]? = some 1) ∨ ((way = 4 ∨ way = 6) ∧ ns[at0]? = some 0))
def zK (Ph C1 C2 : Addr) : Sp := fun vs H Q E => ∃ (p : BP) (way at1 more : Int), vs = [.int way, .ref p.t, .ref p.L.f, .int at1, .int more] ∧ Brk H Ph p [] ∧ p.L.wr = none ∧ Tree p.ns ∧
 ((∃ at0 : Nat, way = 4 ∧ at1 = (at0 : Int) ∧ p.ns[at0]? = some 1 ∧ ∀ (k : Nat) H', at0 < k → Qt Ph H H' → Q (.int (k : Int)) H') ∨ (∃ at0 : Nat, way = 5 ∧ at1 = (at0 : Int) ∧ p.ns[at0]? = some 0 ∧ ∀ (k : Nat) H', k < at0 → Qt Ph H H' → Q (.int (k : Int)) H') ∨ (Bx way at1 more p.ns.length ∧ ∀ H', Qt Ph H H' → E (.ref C1) none H') ∨ (Ae way at1 p.ns ∧ ∀ H', Qt Ph H H' → E (.ref C2) none H'))
theorem mX (T : Tx K mg a) (B : Bs mg base a) : bh P w K mg base (CX1 P w) 9 a.f_law_told a.fd_law_told ["_law_way", "_law_tables", "_law_look_here", "_law_at", "_law_more"] (zK a.tP_heap_look a.c_NoPlace a.c_NoNode) := by
 refine T.D_law_told.F.ok1 tE (fun vs H Q E h => ?_) (fun cdv A outer s H vs Q E hr h => ?_)
 ·obtain ⟨p, way, at1, more, rfl, _⟩ := h
  rfl
 obtain ⟨p, way, at1, more, rfl, hB, hw, htr, h⟩ := h
 refine ⟨_, (aq (aX (aM cM (pv 0) ao (aP _)) (az (aC (aB T.D_height (fc T) (by decide) hr bY rfl (aa (pv 1) (aa (pv 2) (aa (pv 3) aj)))))) aJ)
  (aq (aX (aM cM (pv 0) ao (aP _)) (az (aC (aB T.D_low_behind (jx T B) (by decide) hr bY rfl (aa (pv 1) (aa (pv 2) (aa (pv 3) (aa (pv 4) aj))))))) aJ)
  (aq (aX (aM cM (pv 0) ao (aP _)) (az (aC (aB T.D_low_ahead (ig T B) (by decide) hr bY rfl (aa (pv 1) (aa (pv 2) (aa (pv 3) (aa (pv 4) aj))))))) aJ)
  (aq (aX (aM cM (pv 0) ao (aP _)) (az (aC (aB T.D_lowest (wM T B) (by decide) hr bY rfl (aa (pv 1) (aa (pv 2) (aa (pv 3) (aa (pv 4) aj))))))) aJ)
  (aq (aX (aM cM (pv 0) ao (aP _)) (az (aC (aB T.D_closing (gZ T B) (by decide) hr bY rfl (aa (pv 1) (aa (pv 2) (aa (pv 3) aj)))))) aJ)
  (aq (aX (aM cM (pv 0) ao (aP _)) (az (aC (aB T.D_opening (jK T B) (by decide) hr bY rfl (aa (pv 1) (aa (pv 2) (aa (pv 3) aj)))))) aJ)
  (az (aC (aB T.D_further_out (jg T B) (by decide) hr bY rfl (aa (pv 1) (aa (pv 2) (aa (pv 3) (aa (pv 4) aj))))))))))))), ?_⟩
 have q0 : Qt a.tP_heap_look H H := ⟨fun _ _ e _ => e, hB.tab⟩
 rcases h with ⟨at0, rfl, rfl, hb, q⟩ | ⟨at0, rfl, rfl, hb, q⟩ | ⟨hbad, qe⟩ | ⟨⟨at0, rfl, hbad⟩, qe⟩
 ·exact ⟨_, rfl, rfl, _, rfl, aV (fun z => absurd z (by decide)) fun _ => ⟨_, rfl, rfl, _, rfl, aV (fun z => absurd z (by decide)) fun _ => ⟨_, rfl, rfl, _, rfl, aV (fun z => absurd z (by decide)) fun _ => ⟨_, rfl, rfl, _, rfl, aV (fun z => absurd z (by decide)) fun _ => ⟨_, rfl, rfl, _, rfl, aV (fun _ => ⟨_, rfl, _, rfl, _, rfl, p, [], (at0 : Int), rfl, hB, by simp, htr, .inl ⟨at0, rfl, hb, fun k ss' H' hf d => q k H' (wk hb hf) (d.qt hw)⟩⟩) fun c => absurd (by decide) c⟩⟩⟩⟩⟩
 ·exact ⟨_, rfl, rfl, _, rfl, aV (fun z => absurd z (by decide)) fun _ => ⟨_, rfl, rfl, _, rfl, aV (fun z => absurd z (by decide)) fun _ => ⟨_, rfl, rfl, _, rfl, aV (fun z => absurd z (by decide)) fun _ => ⟨_, rfl, rfl, _, rfl, aV (fun z => absurd z (by decide)) fun _ => ⟨_, rfl, rfl, _, rfl, aV (fun z => absurd z (by decide)) fun _ => ⟨_, rfl, rfl, _, rfl, aV (fun _ => ⟨_, rfl, _, rfl, _, rfl, p, [], (at0 : Int), rfl, hB, by simp, htr, .inl ⟨at0, rfl, hb, fun k ss' H' hf d => q k H' hf.1 (d.qt hw)⟩⟩) fun c => absurd (by decide) c⟩⟩⟩⟩⟩⟩
 ·rcases hbad with ⟨rfl | rfl | rfl, hbad⟩ | ⟨rfl, hbad⟩ | ⟨rfl | rfl | rfl, hbad⟩
  ·exact ⟨_, rfl, rfl, _, rfl, aV (fun _ => ⟨_, rfl, _, rfl, _, rfl, p.t, p.L, p.ah, p.ns, [], _, at1, rfl, hB.ask, .inr ⟨hbad, qe H q0⟩⟩) fun c => absurd (by decide) c⟩
  ·exact ⟨_, rfl, rfl, _, rfl, aV (fun z => absurd z (by decide)) fun _ => ⟨_, rfl, rfl, _, rfl, aV (fun _ => ⟨_, rfl, _, rfl, _, rfl, _, rfl, p, [], at1, more, rfl, hB, .inr ⟨hbad, qe H q0⟩⟩) fun c => absurd (by decide) c⟩⟩
  ·exact ⟨_, rfl, rfl, _, rfl, aV (fun z => absurd z (by decide)) fun _ => ⟨_, rfl, rfl, _, rfl, aV (fun z => absurd z (by decide)) fun _ => ⟨_, rfl, rfl, _, rfl, aV (fun _ => ⟨_, rfl, _, rfl, _, rfl, _, rfl, p, [], at1, more, rfl, hB, .inr ⟨hbad, qe H q0⟩⟩) fun c => absurd (by decide) c⟩⟩⟩
  ·exact ⟨_, rfl, rfl, _, rfl, aV (fun z => absurd z (by decide)) fun _ => ⟨_, rfl, rfl, _, rfl, aV (fun z => absurd z (by decide)) fun _ => ⟨_, rfl, rfl, _, rfl, aV (fun z => absurd z (by decide)) fun _ => ⟨_, rfl, rfl, _, rfl, aV (fun _ => ⟨_, rfl, _, rfl, _, rfl, _, rfl, p, [], at1, more, rfl, hB, .inr ⟨hbad, qe H q0⟩⟩) fun c => absurd (by decide) c⟩⟩⟩⟩
  ·exact ⟨_, rfl, rfl, _, rfl, aV (fun z => absurd z (by decide)) fun _ => ⟨_, rfl, rfl, _, rfl, aV (fun z => absurd z (by decide)) fun _ => ⟨_, rfl, rfl, _, rfl, aV (fun z => absurd z (by decide)) fun _ => ⟨_, rfl, rfl, _, rfl, aV (fun z => absurd z (by decide)) fun _ => ⟨_, rfl, rfl, _, rfl, aV (fun _ => ⟨_, rfl, _, rfl, _, rfl, p, [], at1, rfl, hB, by simp, htr, .inr (.inl ⟨hbad, qe H q0⟩)⟩) fun c => absurd (by decide) c⟩⟩⟩⟩⟩
  ·exact ⟨_, rfl, rfl, _, rfl, aV (fun z => absurd z (by decide)) fun _ => ⟨_, rfl, rfl, _, rfl, aV (fun z => absurd z (by decide)) fun _ => ⟨_, rfl, rfl, _, rfl, aV (fun z => absurd z (by decide)) fun _ => ⟨_, rfl, rfl, _, rfl, aV (fun z => absurd z (by decide)) fun _ => ⟨_, rfl, rfl, _, rfl, aV (fun z => absurd z (by decide)) fun _ => ⟨_, rfl, rfl, _, rfl, aV (fun _ => ⟨_, rfl, _, rfl, _, rfl, p, [], at1, rfl, hB, by simp, htr, .inr (.inl ⟨hbad, qe H q0⟩)⟩) fun c => absurd (by decide) c⟩⟩⟩⟩⟩⟩
  ·exact ⟨_, rfl, rfl, _, rfl, aV (fun z => absurd z (by decide)) fun _ => ⟨_, rfl, rfl, _, rfl, aV (fun z => absurd z (by decide)) fun _ => ⟨_, rfl, rfl, _, rfl, aV (fun z => absurd z (by decide)) fun _ => ⟨_, rfl, rfl, _, rfl, aV (fun z => absurd z (by decide)) fun _ => ⟨_, rfl, rfl, _, rfl, aV (fun z => absurd z (by decide)) fun _ => ⟨_, rfl, rfl, _, rfl, aV (fun z => absurd z (by decide)) fun _ => ⟨_, rfl, _, rfl, _, rfl, _, rfl, p, [], at1, more, rfl, hB, by simp, htr, .inr (.inl ⟨hbad, qe H q0⟩)⟩⟩⟩⟩⟩⟩⟩
 ·rcases hbad with ⟨rfl, hb⟩ | ⟨rfl | rfl, hb⟩
  ·exact ⟨_, rfl, rfl, _, rfl, aV (fun z => absurd z (by decide)) fun _ => ⟨_, rfl, rfl, _, rfl, aV (fun z => absurd z (by decide)) fun _ => ⟨_, rfl, rfl, _, rfl, aV (fun z => absurd z (by decide)) fun _ => ⟨_, rfl, rfl, _, rfl, aV (fun z => absurd z (by decide)) fun _ => ⟨_, rfl, rfl, _, rfl, aV (fun z => absurd z (by decide)) fun _ => ⟨_, rfl, rfl, _, rfl, aV (fun _ => ⟨_, rfl, _, rfl, _, rfl, p, [], (at0 : Int), rfl, hB, by simp, htr, .inr (.inr ⟨at0, rfl, hb, fun ss' H' d => qe H' (d.qt hw)⟩)⟩) fun c => absurd (by decide) c⟩⟩⟩⟩⟩⟩
  ·exact ⟨_, rfl, rfl, _, rfl, aV (fun z => absurd z (by decide)) fun _ => ⟨_, rfl, rfl, _, rfl, aV (fun z => absurd z (by decide)) fun _ => ⟨_, rfl, rfl, _, rfl, aV (fun z => absurd z (by decide)) fun _ => ⟨_, rfl, rfl, _, rfl, aV (fun z => absurd z (by decide)) fun _ => ⟨_, rfl, rfl, _, rfl, aV (fun _ => ⟨_, rfl, _, rfl, _, rfl, p, [], (at0 : Int), rfl, hB, by simp, htr, .inr (.inr ⟨at0, rfl, hb, fun ss' H' d => qe H' (d.qt hw)⟩)⟩) fun c => absurd (by decide) c⟩⟩⟩⟩⟩
  ·exact ⟨_, rfl, rfl, _, rfl, aV (fun z => absurd z (by decide)) fun _ => ⟨_, rfl, rfl, _, rfl, aV (fun z => absurd z (by decide)) fun _ => ⟨_, rfl, rfl, _, rfl, aV (fun z => absurd z (by decide)) fun _ => ⟨_, rfl, rfl, _, rfl, aV (fun z => absurd z (by decide)) fun _ => ⟨_, rfl, rfl, _, rfl, aV (fun z => absurd z (by decide)) fun _ => ⟨_, rfl, rfl, _, rfl, aV (fun z => absurd z (by decide)) fun _ => ⟨_, rfl, _, rfl, _, rfl, _, rfl, p, [], (at0 : Int), more, rfl, hB, by simp, htr, .inr (.inr ⟨at0, rfl, hb, fun ss' H' d => qe H' (d.qt hw)⟩)⟩⟩⟩⟩⟩⟩⟩
theorem yL (k : Int) : (List.range 6).map (fun i : Nat => V.bl (decide (V.int (0 + (i : Int)) = V.int k))) = (kbs k).map V.bl := by
 have h : ∀ i : Int, decide (V.int i = V.int k) = decide (i = k) := fun i => by
  by_cases z : i = k
  ·rw [decide_eq_true z, decide_eq_true (congrArg V.int z)]
  ·rw [decide_eq_false z, decide_eq_false (fun y => z (V.int.inj y))]
 simp only [h]
 rfl
def uA (Ph : Addr) : Sp := fun vs H Q _ => ∃ (p : BP) (way at1 more kind : Int), vs = [.int way, .ref p.t, .ref p.L.f, .int at1, .int more, .int kind] ∧ Brk H Ph p [] ∧ p.L.wr = none ∧ Tree p.ns ∧ ((kind = 3 ∧ Bx way at1 more p.ns.length) ∨ (kind = 4 ∧ Ae way at1 p.ns)) ∧ ∀ H', Qt Ph H H' → Q (.bl true) H'
theorem dm (T : Tx K mg a) (B : Bs mg base a) : bh P w K mg base CX0 10 a.f_law_refused a.fd_law_refused ["_law_way", "_law_tables", "_law_look_here", "_law_at", "_law_more", "_law_kind"] (uA a.tP_heap_look) := by
 refine T.D_law_refused.F.ok cY (fun vs H Q E h => ?_) (fun cdv A outer s H vs Q E hr h => ?_)
 ·obtain ⟨p, way, at1, more, kind, rfl, _⟩ := h
  rfl
 obtain ⟨p, way, at1, more, kind, rfl, hB, hw, htr, hbad, q⟩ := h
 refine ⟨_, (aq (aF (i := 6) cY.nd rfl (Or.inl rfl) (aY aj))
  (qT (mR (i := 7) ((mX T B).mono (by decide)) hr rfl T.D_law_told.m T.D_law_told.F.kp T.D_law_told.b (aa (pv 0) (aa (pv 1) (aa (pv 2) (aa (pv 3) (aa (pv 4) aj))))) T.x_WoodError T.k_WoodError rfl cY.nd rfl rfl rfl rfl (fun _ => (az (aF (i := 6) cY.nd rfl (Or.inl rfl) (aA c7 (sU ((j0 T).mono (by decide)) (hr.hm _) rfl T.D_law_kinds.m T.D_law_kinds.F.kp T.D_law_kinds.b .nil aL (aa (pv 7) aj)) (aY (aa (aW (show dq _ _ (sI K) from fU) rfl T.b_isinstance Tw.bJ (aa (pv 7) (aa (v5 (v := .ty "ValueError") rfl T.b_ValueError Tw.jz rfl) aj))) aj)))))))
  (az (aC (dJ (uG hr.units) (pv 6) (aA c7 (kh rfl (eQ.one (j := 5) rfl (Or.inl rfl) rfl rfl (Or.inl rfl)) (lY rfl T.b_range (aa ao aj)) (fun _ _ _ _ => jX) (fun _ _ _ _ => (dJ cM (pv 0) (pv 1) (aP _)))) (aY (aa fG aj))) (aP _)))))), ?_⟩
 refine ⟨(by show 0 ≤ sizeLine; decide), fun t0 ht0 => ?_⟩
 have s0 := au ht0 (.lst [])
 have q0 := Qt.of hB.tab s0
 have hB0 := hB.same s0
 generalize upd H t0 (.lst []) = H0 at *
 refine ⟨fun σ X => ∃ kp : Addr, σ = [some (.int way), some (.ref p.t), some (.ref p.L.f), some (.int at1), some (.int more), some (.int kind), some (.ref kp), none] ∧ Qt a.tP_heap_look H X ∧ X kp = some (.lst ((kbs kind ++ [true]).map V.bl)), ?_, ?_⟩
 ·rcases hbad with ⟨rfl, hbad⟩ | ⟨rfl, hbad⟩
  ·refine ⟨_, rfl, _, rfl, _, rfl, _, rfl, _, rfl, p, way, at1, more, rfl, hB0, hw, htr, .inr (.inr (.inl ⟨hbad, fun H1 q1 => ⟨_, rfl, T.i_NoPlace_WoodError, fun ea hea => ?_⟩⟩))⟩
   have sE := au hea (pN ea a.c_NoPlace)
   refine ⟨_, rfl, ea, a.c_NoPlace, 3, rfl, ak, .inr (.inr (.inr (.inl ⟨rfl, rfl⟩))), fun r1 H3 hr1 s3 x3 => ?_⟩
   refine ⟨_, rfl, ea, _, _, _, _, rfl, .inr ⟨_, rfl, rfl⟩, s3 _ _ ak, T.k_NoPlace, T.i_NoPlace_ValueError, (by show 1 ≤ sizeLine; decide), fun l2 hl2 => ?_⟩
   have s4 := au hl2 (.lst [.bl true])
   refine ⟨r1, l2, _, _, rfl, rfl, s4 _ _ x3, ak, (by show 6 + 1 ≤ sizeLine; decide), fun kp hkp => ⟨kp, rfl, ((q0.trans q1).same (sE.trans (s3.trans s4))).same (au hkp _), ?_⟩⟩
   rw [ak, List.map_append]
   rfl
  ·refine ⟨_, rfl, _, rfl, _, rfl, _, rfl, _, rfl, p, way, at1, more, rfl, hB0, hw, htr, .inr (.inr (.inr ⟨hbad, fun H1 q1 => ⟨_, rfl, T.i_NoNode_WoodError, fun ea hea => ?_⟩⟩))⟩
   have sE := au hea (pN ea a.c_NoNode)
   refine ⟨_, rfl, ea, a.c_NoNode, 4, rfl, ak, .inr (.inr (.inr (.inr ⟨rfl, rfl⟩))), fun r1 H3 hr1 s3 x3 => ?_⟩
   refine ⟨_, rfl, ea, _, _, _, _, rfl, .inr ⟨_, rfl, rfl⟩, s3 _ _ ak, T.k_NoNode, T.i_NoNode_ValueError, (by show 1 ≤ sizeLine; decide), fun l2 hl2 => ?_⟩
   have s4 := au hl2 (.lst [.bl true])
   refine ⟨r1, l2, _, _, rfl, rfl, s4 _ _ x3, ak, (by show 6 + 1 ≤ sizeLine; decide), fun kp hkp => ⟨kp, rfl, ((q0.trans q1).same (sE.trans (s3.trans s4))).same (au hkp _), ?_⟩⟩
   rw [ak, List.map_append]
   rfl
 rintro σ X ⟨kp, rfl, qX, xkp⟩
 refine ⟨_, rfl, ?_⟩
 refine ⟨6, rfl, by decide, by decide, ?_⟩
 refine ql (n := 6) (fun i : Nat => V.bl (decide (V.int (0 + (i : Int)) = V.int kind))) (by decide) (fun _ _ _ q => q) (fun i H' Q hi sm q => ⟨_, rfl, _, rfl, rfl, q⟩) fun D hD => ?_
 rw [yL]
 have s5 := au hD (.lst ((kbs kind).map V.bl))
 refine ⟨(by show 1 ≤ sizeLine; decide), fun l1 hl1 => ?_⟩
 have s6 := au hl1 (.lst [.bl true])
 refine ⟨D, l1, _, _, rfl, rfl, s6 _ _ ak, ak, (by show 6 + 1 ≤ sizeLine; decide), fun l2 hl2 => ?_⟩
 have s7 := au hl2 (.lst ((kbs kind).map V.bl ++ [.bl true]))
 have s57 := s5.trans (s6.trans s7)
 have x2 : upd (upd (upd X D (.lst ((kbs kind).map V.bl))) l1 (.lst [.bl true])) l2 (.lst ((kbs kind).map V.bl ++ [.bl true])) l2 = some (.lst ((kbs kind ++ [true]).map V.bl)) := by
  rw [ak, List.map_append]
  rfl
 generalize upd (upd (upd X D (.lst ((kbs kind).map V.bl))) l1 (.lst [.bl true])) l2 (.lst ((kbs kind).map V.bl ++ [.bl true])) = Y at *
 refine .inr ⟨_, _, .lst (SqL.of (s57 _ _ xkp)) (gD _), .lst (SqL.of x2) (gD _), (gH _).1, (gH _).1, ?_⟩
 rw [(gH _).2]
 exact q _ (qX.same s57)
def Cv (kind : Int) (ns : List Int) : Prop := (kind = 0 ∧ 4096 < ns.length) ∨ (kind = 1 ∧ ns.length ≤ 4096 ∧ ¬ aK ns) ∨ (kind = 2 ∧ ns.length ≤ 4096 ∧ aK ns ∧ ¬ Tree ns)
def tL : Sp := fun vs H Q _ => ∃ (b : Addr) (ns : List Int) (kind : Int), vs = [.ref b, .int kind] ∧ H b = some (.lst (ns.map V.int)) ∧ Cv kind ns ∧ ∀ H', aR H H' → Q (.bl true) H'
theorem cg (T : Tx K mg a) : bh P w K mg base CX0 7 a.f_law_not_kept a.fd_law_not_kept ["_law_bits", "_law_kind"] tL := by
 refine T.D_law_not_kept.F.ok cu (fun vs H Q E h => ?_) (fun cdv A outer s H vs Q E hr h => ?_)
 ·obtain ⟨b, ns, kind, rfl, _⟩ := h
  rfl
 obtain ⟨b, ns, kind, rfl, hb, hbad, q⟩ := h
 refine ⟨_, (aq (aF (i := 2) cu.nd rfl (Or.inl rfl) (dz du rfl T.b_list Tw.jn (aa (pv 0) aj)))
  (aq (aF (i := 3) cu.nd rfl (Or.inl rfl) (aY aj))
  (qT (mR (i := 4) ((dC T).mono (by decide)) hr rfl T.D_kept_brackets.m T.D_kept_brackets.F.kp T.D_kept_brackets.b (aa (pv 2) aj) T.x_WoodError T.k_WoodError rfl cu.nd rfl rfl rfl rfl (fun _ => (az (aF (i := 3) cu.nd rfl (Or.inl rfl) (aA c7 (sU ((j0 T).mono (by decide)) (hr.hm _) rfl T.D_law_kinds.m T.D_law_kinds.F.kp T.D_law_kinds.b .nil aL (aa (pv 4) aj)) (aY (aa (aW (show dq _ _ (sI K) from fU) rfl T.b_isinstance Tw.bJ (aa (pv 4) (aa (v5 (v := .ty "ValueError") rfl T.b_ValueError Tw.jz rfl) aj))) aj)))))))
  (az (aC (oE (dJ (uG hr.units) (pv 3) (aA c7 (kh rfl (eQ.one (j := 1) rfl (Or.inl rfl) rfl rfl (Or.inl rfl)) (lY rfl T.b_range (aa ao aj)) (fun _ _ _ _ => jX) (fun _ _ _ _ => (dJ cM (pv 0) (pv 1) (aP _)))) (aY (aa fG aj))) (aP _)) (oO (dJ (uG hr.units) (pv 2) (pv 0) (aP _))))))))), ?_⟩
 refine ⟨_, rfl, b, _, rfl, .inl (SqL.of hb), fun hd hhd => ?_⟩
 have sa := au hhd (.lst (ns.map V.int))
 have xhd : upd H hd (.lst (ns.map V.int)) hd = some (.lst (ns.map V.int)) := ak
 generalize upd H hd (.lst (ns.map V.int)) = Ha at *
 refine ⟨(by show 0 ≤ sizeLine; decide), fun t0 ht0 => ?_⟩
 have s0 := sa.trans (au ht0 (.lst []))
 have xhd := au ht0 (.lst []) _ _ xhd
 generalize upd Ha t0 (.lst []) = H0 at *
 refine ⟨fun σ X => ∃ kp : Addr, σ = [some (.ref b), some (.int kind), some (.ref hd), some (.ref kp), none] ∧ aR H0 X ∧ X kp = some (.lst ((kbs kind ++ [true]).map V.bl)), ?_, ?_⟩
 ·rcases hbad with ⟨rfl, hbad⟩ | ⟨rfl, h1, h2⟩ | ⟨rfl, h1, h2, h3⟩
  ·refine ⟨_, rfl, hd, ns, rfl, SqL.of xhd, .inr (.inl ⟨hbad, ⟨_, rfl, T.i_TooMany_WoodError, fun ea hea => ?_⟩⟩)⟩
   have sE := au hea (pN ea a.c_TooMany)
   refine ⟨_, rfl, ea, a.c_TooMany, 0, rfl, ak, .inl ⟨rfl, rfl⟩, fun r1 H3 hr1 s3 x3 => ?_⟩
   refine ⟨_, rfl, ea, _, _, _, _, rfl, .inr ⟨_, rfl, rfl⟩, s3 _ _ ak, T.k_TooMany, T.i_TooMany_ValueError, (by show 1 ≤ sizeLine; decide), fun l2 hl2 => ?_⟩
   have s4 := au hl2 (.lst [.bl true])
   refine ⟨r1, l2, _, _, rfl, rfl, s4 _ _ x3, ak, (by show 6 + 1 ≤ sizeLine; decide), fun kp hkp => ⟨kp, rfl, (aR.refl _ : aR H0 _).trans ((sE.trans (s3.trans s4)).trans (au hkp _)), ?_⟩⟩
   rw [ak, List.map_append]
   rfl
  ·refine ⟨_, rfl, hd, ns, rfl, SqL.of xhd, .inr (.inr (.inl ⟨h1, h2, ⟨_, rfl, T.i_NoBit_WoodError, fun ea hea => ?_⟩⟩))⟩
   have sE := au hea (pN ea a.c_NoBit)
   refine ⟨_, rfl, ea, a.c_NoBit, 1, rfl, ak, .inr (.inl ⟨rfl, rfl⟩), fun r1 H3 hr1 s3 x3 => ?_⟩
   refine ⟨_, rfl, ea, _, _, _, _, rfl, .inr ⟨_, rfl, rfl⟩, s3 _ _ ak, T.k_NoBit, T.i_NoBit_ValueError, (by show 1 ≤ sizeLine; decide), fun l2 hl2 => ?_⟩
   have s4 := au hl2 (.lst [.bl true])
   refine ⟨r1, l2, _, _, rfl, rfl, s4 _ _ x3, ak, (by show 6 + 1 ≤ sizeLine; decide), fun kp hkp => ⟨kp, rfl, (aR.refl _ : aR H0 _).trans ((sE.trans (s3.trans s4)).trans (au hkp _)), ?_⟩⟩
   rw [ak, List.map_append]
   rfl
  ·refine ⟨_, rfl, hd, ns, rfl, SqL.of xhd, .inr (.inr (.inr ⟨h1, h2, h3, fun H1 s1 => ⟨_, rfl, T.i_NoTree_WoodError, fun ea hea => ?_⟩⟩))⟩
   have sE := au hea (pN ea a.c_NoTree)
   refine ⟨_, rfl, ea, a.c_NoTree, 2, rfl, ak, .inr (.inr (.inl ⟨rfl, rfl⟩)), fun r1 H3 hr1 s3 x3 => ?_⟩
   refine ⟨_, rfl, ea, _, _, _, _, rfl, .inr ⟨_, rfl, rfl⟩, s3 _ _ ak, T.k_NoTree, T.i_NoTree_ValueError, (by show 1 ≤ sizeLine; decide), fun l2 hl2 => ?_⟩
   have s4 := au hl2 (.lst [.bl true])
   refine ⟨r1, l2, _, _, rfl, rfl, s4 _ _ x3, ak, (by show 6 + 1 ≤ sizeLine; decide), fun kp hkp => ⟨kp, rfl, (s1 : aR H0 _).trans ((sE.trans (s3.trans s4)).trans (au hkp _)), ?_⟩⟩
   rw [ak, List.map_append]
   rfl
 rintro σ X ⟨kp, rfl, sX, xkp⟩
 refine ⟨_, rfl, ?_⟩
 refine ⟨6, rfl, by decide, by decide, ?_⟩
 refine ql (n := 6) (fun i : Nat => V.bl (decide (V.int (0 + (i : Int)) = V.int kind))) (by decide) (fun _ _ _ q => q) (fun i H' Q hi sm q => ⟨_, rfl, _, rfl, rfl, q⟩) fun D hD => ?_
 rw [yL]
 have s5 := au hD (.lst ((kbs kind).map V.bl))
 refine ⟨(by show 1 ≤ sizeLine; decide), fun l1 hl1 => ?_⟩
 have s6 := au hl1 (.lst [.bl true])
 refine ⟨D, l1, _, _, rfl, rfl, s6 _ _ ak, ak, (by show 6 + 1 ≤ sizeLine; decide), fun l2 hl2 => ?_⟩
 have s7 := au hl2 (.lst ((kbs kind).map V.bl ++ [.bl true]))
 have s57 := s5.trans (s6.trans s7)
 have x2 : upd (upd (upd X D (.lst ((kbs kind).map V.bl))) l1 (.lst [.bl true])) l2 (.lst ((kbs kind).map V.bl ++ [.bl true])) l2 = some (.lst ((kbs kind ++ [true]).map V.bl)) := by
  rw [ak, List.map_append]
  rfl
 generalize upd (upd (upd X D (.lst ((kbs kind).map V.bl))) l1 (.lst [.bl true])) l2 (.lst ((kbs kind).map V.bl ++ [.bl true])) = Y at *
 refine .inr ⟨_, _, .lst (SqL.of (s57 _ _ xkp)) (gD _), .lst (SqL.of x2) (gD _), (gH _).1, (gH _).1, ?_⟩
 rw [(gH _).2]
 refine ⟨_, rfl, ir ⟨_, rfl, _, rfl, .inl ⟨hd, b, ns, ns, rfl, rfl, SqL.of (s57 _ _ (sX _ _ xhd)), SqL.of (s57 _ _ (sX _ _ (s0 _ _ hb))), ?_⟩⟩⟩
 rw [decide_eq_true rfl]
 exact q _ (s0.trans (sX.trans s57))
def wL (Ph : Addr) : Sp := fun vs H Q _ => ∃ (p : BP) (far goal : Int), vs = [.ref p.t, .ref p.L.f, .int far, .int goal] ∧ Brk H Ph p [] ∧ p.L.wr = none ∧ Tree p.ns ∧ 0 < far ∧ ∀ H', Qt Ph H H' → Q (.bl true) H'
theorem iJ (T : Tx K mg a) (B : Bs mg base a) : bh P w K mg base CX0 11 a.f_law_places_refused a.fd_law_places_refused ["_law_tables", "_law_look_here", "_law_far", "_law_goal"] (wL a.tP_heap_look) := by
 refine T.D_law_places_refused.F.ok aU (fun vs H Q E h => ?_) (fun cdv A outer s H vs Q E hr h => ?_)
 ·obtain ⟨p, far, goal, rfl, _⟩ := h
  rfl
 obtain ⟨p, far, goal, rfl, hB, hw, htr, hf, q⟩ := h
 refine ⟨_, (aq (aF (i := 4) aU.nd rfl (Or.inl rfl) (bH bW (pv 0) ao (fun _ _ => rfl)))
  (aq (cA PassesOwn.never rfl (cI (aY (aa ao (aa ao (aa ao aj))))) (bc (i := 5) aU.nd rfl (Or.inl rfl)) (az (cA PassesOwn.never rfl (cI (aY (aa (aA bz ao (pv 2)) (aa (aA bC (pv 4) (pv 2)) aj)))) (bc (i := 6) aU.nd rfl (Or.inl rfl)) (az (aX (eU (fZ (aB T.D_law_refused (dm T B) (by decide) hr aL rfl (aa (pv 5) (aa (pv 0) (aa (pv 1) (aa (pv 6) (aa (pv 3) (aa ao aj))))))))) (az (aC fG)) aJ)))))
  (aq (cA PassesOwn.never rfl (cI (aY (aa (aA bz ao (pv 2)) (aa (aA bC (aA bz (pv 4) ao) (pv 2)) aj)))) (bc (i := 6) aU.nd rfl (Or.inl rfl)) (az (cA PassesOwn.never rfl (cI (aY (aa ao (aa ao (aa ao aj))))) (bc (i := 5) aU.nd rfl (Or.inl rfl)) (az (aX (eU (fZ (aB T.D_law_refused (dm T B) (by decide) hr aL rfl (aa (pv 5) (aa (pv 0) (aa (pv 1) (aa (pv 6) (aa (pv 2) (aa ao aj))))))))) (az (aC fG)) aJ)))))
  (aq (aF (i := 7) aU.nd rfl (Or.inl rfl) (aA bD (pv 2) (aA bC (pv 4) ao)))
  (aq (cA PassesOwn.never rfl (cI (aY (aa (gj (aa (aA bz ao (pv 2)) (aa (pv 4) aj))) (aa (gj (aa ao (aa (aA bC (pv 4) (pv 2)) aj))) (aa (gj (aa (pv 7) (aa (pv 7) aj))) (aa (gj (aa (pv 4) (aa (pv 7) aj))) (aa (gj (aa (pv 4) (aa (aA bC (pv 4) (pv 2)) aj))) aj))))))) (jM rfl (bT (bc (i := 6) aU.nd rfl (Or.inl rfl)) (bT (bc (i := 8) aU.nd rfl (Or.inl rfl)) gU))) (az (aX (eU (fZ (aB T.D_law_refused (dm T B) (by decide) hr aL rfl (aa ao (aa (pv 0) (aa (pv 1) (aa (pv 6) (aa (pv 8) (aa ao aj))))))))) (az (aC fG)) aJ)))
  (az (aC fG))))))), ?_⟩
 have nPh : ∀ {X : Hp} {b : Addr}, TabAt X a.tP_heap_look (cX bu) aN.qual → X b = none → b ≠ a.tP_heap_look := fun {X b} hT hb z => by
  obtain ⟨ps, e, _⟩ := hT
  rw [← z, hb] at e
  cases e
 refine ⟨_, rfl, p.t, _, _, _, rfl, rfl, SqT.of hB.ask.tab.tup, rfl, ?_⟩
 refine ⟨(by show 3 ≤ sizeLine; decide), fun l1 hl1 => ⟨l1, rfl, ⟨_, SqL.of ak⟩, ?_⟩⟩
 have n1 := nPh hB.tab hl1
 have x1 : upd H l1 (.lst [.int 0, .int 1, .int 2]) l1 = some (.lst [.int 0, .int 1, .int 2]) := ak
 have q1 := Qt.of hB.tab (au hl1 (.lst [.int 0, .int 1, .int 2]))
 generalize upd H l1 (.lst [.int 0, .int 1, .int 2]) = H1 at *
 refine cj (xs := [.int 0, .int 1, .int 2]) (fun i σ X => (∃ k5 k6, σ = [some (.ref p.t), some (.ref p.L.f), some (.int far), some (.int goal), some (.int (p.ns.length : Int)), k5, k6, none, none]) ∧ Qt a.tP_heap_look H X ∧ X l1 = some (.lst [.int 0, .int 1, .int 2])) ⟨⟨none, none, rfl⟩, q1, x1⟩ ?_ ?_ ?_
 ·rintro i σ X _ ⟨_, _, x⟩
  exact SqL.of x
 ·rintro i x σ X hx ⟨⟨k5, k6, rfl⟩, qX, xl1⟩
  obtain ⟨way, rfl, hway⟩ : ∃ way : Int, x = .int way ∧ (way = 0 ∨ way = 1 ∨ way = 2) := by
   match i, hx with
   | 0, hx => cases hx; exact ⟨0, rfl, by decide⟩
   | 1, hx => cases hx; exact ⟨1, rfl, by decide⟩
   | 2, hx => cases hx; exact ⟨2, rfl, by decide⟩
   | n + 3, hx => simp at hx
  refine ⟨_, rfl, _, _, rfl, rfl, _, rfl, _, rfl, _, _, rfl, rfl, (by show 2 ≤ sizeLine; decide), fun l2 hl2 => ⟨l2, rfl, ⟨_, SqL.of ak⟩, ?_⟩⟩
  have n2 := nPh qX.2 hl2
  have s2 := au hl2 (.lst [.int (0 - far), .int ((p.ns.length : Int) + far)])
  have x2 : upd X l2 (.lst [.int (0 - far), .int ((p.ns.length : Int) + far)]) l2 = some (.lst [.int (0 - far), .int ((p.ns.length : Int) + far)]) := ak
  have qX2 := qX.same s2
  have xl12 := s2 _ _ xl1
  refine cj (xs := [.int (0 - far), .int ((p.ns.length : Int) + far)]) (fun i σ Y => (∃ k6, σ = [some (.ref p.t), some (.ref p.L.f), some (.int far), some (.int goal), some (.int (p.ns.length : Int)), some (.int way), k6, none, none]) ∧ Qt a.tP_heap_look H Y ∧ Y l1 = some (.lst [.int 0, .int 1, .int 2]) ∧ Y l2 = some (.lst [.int (0 - far), .int ((p.ns.length : Int) + far)])) ⟨⟨_, rfl⟩, qX2, xl12, x2⟩ ?_ ?_ ?_
  ·rintro i σ Y _ ⟨_, _, _, x⟩
   exact SqL.of x
  ·rintro j x σ Y hx ⟨⟨k6, rfl⟩, qY, y1, y2⟩
   obtain ⟨at1, rfl, hat⟩ : ∃ at1 : Int, x = .int at1 ∧ (at1 < 0 ∨ (p.ns.length : Int) < at1) := by
    match j, hx with
    | 0, hx => cases hx; exact ⟨_, rfl, by omega⟩
    | 1, hx => cases hx; exact ⟨_, rfl, by omega⟩
    | n + 2, hx => simp at hx
   exact ⟨_, rfl, _, rfl, _, rfl, _, rfl, _, rfl, p, way, at1, goal, 3, rfl, hB.qt hw qY, hw, htr, .inl ⟨rfl, .inl ⟨hway, hat⟩⟩, fun H' q' => ⟨true, rfl, cW ⟨⟨_, rfl⟩, qY.trans q', q'.1 _ _ y1 n1, q'.1 _ _ y2 n2⟩⟩⟩
  ·rintro σ Y ⟨⟨k6, rfl⟩, qY, y1, _⟩
   exact ⟨⟨_, _, rfl⟩, qY, y1⟩
 rintro σ X ⟨⟨k5, k6, rfl⟩, qX, _⟩
 refine ⟨_, rfl, _, _, rfl, rfl, _, rfl, _, _, rfl, rfl, _, rfl, _, _, rfl, rfl, (by show 2 ≤ sizeLine; decide), fun l3 hl3 => ⟨l3, rfl, ⟨_, SqL.of ak⟩, ?_⟩⟩
 have n3 := nPh qX.2 hl3
 have x3 : upd X l3 (.lst [.int (0 - far), .int ((p.ns.length : Int) - 1 + far)]) l3 = some (.lst [.int (0 - far), .int ((p.ns.length : Int) - 1 + far)]) := ak
 have q3 := qX.same (au hl3 (.lst [.int (0 - far), .int ((p.ns.length : Int) - 1 + far)]))
 generalize upd X l3 (.lst [.int (0 - far), .int ((p.ns.length : Int) - 1 + far)]) = H3 at *
 refine cj (xs := [.int (0 - far), .int ((p.ns.length : Int) - 1 + far)]) (fun i σ X => (∃ k5 k6, σ = [some (.ref p.t), some (.ref p.L.f), some (.int far), some (.int goal), some (.int (p.ns.length : Int)), k5, k6, none, none]) ∧ Qt a.tP_heap_look H X ∧ X l3 = some (.lst [.int (0 - far), .int ((p.ns.length : Int) - 1 + far)])) ⟨⟨_, _, rfl⟩, q3, x3⟩ ?_ ?_ ?_
 ·rintro i σ X _ ⟨_, _, x⟩
  exact SqL.of x
 ·rintro i x σ X hx ⟨⟨k5, k6, rfl⟩, qX, xl1⟩
  obtain ⟨at1, rfl, hat⟩ : ∃ at1 : Int, x = .int at1 ∧ (at1 < 0 ∨ (p.ns.length : Int) ≤ at1) := by
   match i, hx with
   | 0, hx => cases hx; exact ⟨_, rfl, by omega⟩
   | 1, hx => cases hx; exact ⟨_, rfl, by omega⟩
   | n + 2, hx => simp at hx
  refine ⟨(by show 3 ≤ sizeLine; decide), fun l2 hl2 => ⟨l2, rfl, ⟨_, SqL.of ak⟩, ?_⟩⟩
  have n2 := nPh qX.2 hl2
  have s2 := au hl2 (.lst [.int 4, .int 5, .int 6])
  have x2 : upd X l2 (.lst [.int 4, .int 5, .int 6]) l2 = some (.lst [.int 4, .int 5, .int 6]) := ak
  have qX2 := qX.same s2
  have xl12 := s2 _ _ xl1
  refine cj (xs := [.int 4, .int 5, .int 6]) (fun i σ Y => (∃ k5, σ = [some (.ref p.t), some (.ref p.L.f), some (.int far), some (.int goal), some (.int (p.ns.length : Int)), k5, some (.int at1), none, none]) ∧ Qt a.tP_heap_look H Y ∧ Y l3 = some (.lst [.int (0 - far), .int ((p.ns.length : Int) - 1 + far)]) ∧ Y l2 = some (.lst [.int 4, .int 5, .int 6])) ⟨⟨_, rfl⟩, qX2, xl12, x2⟩ ?_ ?_ ?_
  ·rintro i σ Y _ ⟨_, _, _, x⟩
   exact SqL.of x
  ·rintro j x σ Y hx ⟨⟨k6, rfl⟩, qY, y1, y2⟩
   obtain ⟨way, rfl, hway⟩ : ∃ way : Int, x = .int way ∧ (way = 4 ∨ way = 5 ∨ way = 6) := by
    match j, hx with
    | 0, hx => cases hx; exact ⟨4, rfl, by decide⟩
    | 1, hx => cases hx; exact ⟨5, rfl, by decide⟩
    | 2, hx => cases hx; exact ⟨6, rfl, by decide⟩
    | n + 3, hx => simp at hx
   exact ⟨_, rfl, _, rfl, _, rfl, _, rfl, _, rfl, p, way, at1, far, 3, rfl, hB.qt hw qY, hw, htr, .inl ⟨rfl, .inr (.inr ⟨hway, hat⟩)⟩, fun H' q' => ⟨true, rfl, cW ⟨⟨_, rfl⟩, qY.trans q', q'.1 _ _ y1 n3, q'.1 _ _ y2 n2⟩⟩⟩
  ·rintro σ Y ⟨⟨k6, rfl⟩, qY, y1, _⟩
   exact ⟨⟨_, _, rfl⟩, qY, y1⟩
 rintro σ X ⟨⟨k5, k6, rfl⟩, qX, _⟩
 have m0 := Int.emod_nonneg far (show (p.ns.length : Int) + 1 ≠ 0 by omega)
 have m1 := Int.emod_lt_of_pos far (show (0 : Int) < (p.ns.length : Int) + 1 by omega)
 refine ⟨_, rfl, _, rfl, _, _, rfl, rfl, _, _, rfl, rfl, (by show (0 : Int) < (p.ns.length : Int) + 1; omega), ?_⟩
 refine ⟨_, rfl, _, _, rfl, rfl, _, rfl, (by show 2 ≤ sizeLine; decide), fun t0 ht0 => ?_⟩
 have c0 := au ht0 (.tup [.int (0 - far), .int ((p.ns.length : Int))])
 have e0 : upd X t0 (.tup [.int (0 - far), .int ((p.ns.length : Int))]) t0 = some (.tup [.int (0 - far), .int ((p.ns.length : Int))]) := ak
 generalize upd X t0 (.tup [.int (0 - far), .int ((p.ns.length : Int))]) = Z0 at *
 refine ⟨_, rfl, _, rfl, _, _, rfl, rfl, (by show 2 ≤ sizeLine; decide), fun t1 ht1 => ?_⟩
 have c1 := au ht1 (.tup [.int (0), .int ((p.ns.length : Int) + far)])
 have e1 : upd Z0 t1 (.tup [.int (0), .int ((p.ns.length : Int) + far)]) t1 = some (.tup [.int (0), .int ((p.ns.length : Int) + far)]) := ak
 generalize upd Z0 t1 (.tup [.int (0), .int ((p.ns.length : Int) + far)]) = Z1 at *
 refine ⟨_, rfl, _, rfl, (by show 2 ≤ sizeLine; decide), fun t2 ht2 => ?_⟩
 have c2 := au ht2 (.tup [.int (far % ((p.ns.length : Int) + 1)), .int (far % ((p.ns.length : Int) + 1))])
 have e2 : upd Z1 t2 (.tup [.int (far % ((p.ns.length : Int) + 1)), .int (far % ((p.ns.length : Int) + 1))]) t2 = some (.tup [.int (far % ((p.ns.length : Int) + 1)), .int (far % ((p.ns.length : Int) + 1))]) := ak
 generalize upd Z1 t2 (.tup [.int (far % ((p.ns.length : Int) + 1)), .int (far % ((p.ns.length : Int) + 1))]) = Z2 at *
 refine ⟨_, rfl, _, rfl, (by show 2 ≤ sizeLine; decide), fun t3 ht3 => ?_⟩
 have c3 := au ht3 (.tup [.int ((p.ns.length : Int)), .int (far % ((p.ns.length : Int) + 1))])
 have e3 : upd Z2 t3 (.tup [.int ((p.ns.length : Int)), .int (far % ((p.ns.length : Int) + 1))]) t3 = some (.tup [.int ((p.ns.length : Int)), .int (far % ((p.ns.length : Int) + 1))]) := ak
 generalize upd Z2 t3 (.tup [.int ((p.ns.length : Int)), .int (far % ((p.ns.length : Int) + 1))]) = Z3 at *
 refine ⟨_, rfl, _, rfl, _, rfl, _, _, rfl, rfl, (by show 2 ≤ sizeLine; decide), fun t4 ht4 => ?_⟩
 have c4 := au ht4 (.tup [.int ((p.ns.length : Int)), .int ((p.ns.length : Int) + far)])
 have e4 : upd Z3 t4 (.tup [.int ((p.ns.length : Int)), .int ((p.ns.length : Int) + far)]) t4 = some (.tup [.int ((p.ns.length : Int)), .int ((p.ns.length : Int) + far)]) := ak
 generalize upd Z3 t4 (.tup [.int ((p.ns.length : Int)), .int ((p.ns.length : Int) + far)]) = Z4 at *
 refine ⟨(by show 5 ≤ sizeLine; decide), fun l4 hl4 => ⟨l4, rfl, ⟨_, SqL.of ak⟩, ?_⟩⟩
 have c5 := au hl4 (.lst [.ref t0, .ref t1, .ref t2, .ref t3, .ref t4])
 have x4 : upd Z4 l4 (.lst [.ref t0, .ref t1, .ref t2, .ref t3, .ref t4]) l4 = some (.lst [.ref t0, .ref t1, .ref t2, .ref t3, .ref t4]) := ak
 have qZ := qX.same (c0.trans (c1.trans (c2.trans (c3.trans (c4.trans c5)))))
 have f0 := c5 _ _ (c4 _ _ (c3 _ _ (c2 _ _ (c1 _ _ e0))))
 have f1 := c5 _ _ (c4 _ _ (c3 _ _ (c2 _ _ e1)))
 have f2 := c5 _ _ (c4 _ _ (c3 _ _ e2))
 have f3 := c5 _ _ (c4 _ _ e3)
 have f4 := c5 _ _ e4
 have n4 : l4 ≠ a.tP_heap_look := TabAt.ne qZ.2 x4 nofun
 generalize upd Z4 l4 (.lst [.ref t0, .ref t1, .ref t2, .ref t3, .ref t4]) = Z5 at *
 have items : ∀ (i : Nat) (v : V), [V.ref t0, .ref t1, .ref t2, .ref t3, .ref t4][i]? = some v → ∃ (t : Addr) (x y : Int), v = .ref t ∧ Z5 t = some (.tup [.int x, .int y]) ∧ (x < 0 ∨ y ≤ x ∨ (p.ns.length : Int) < y) := fun i v hv => by
  match i, hv with
  | 0, hv => cases hv; exact ⟨t0, _, _, rfl, f0, by omega⟩
  | 1, hv => cases hv; exact ⟨t1, _, _, rfl, f1, by omega⟩
  | 2, hv => cases hv; exact ⟨t2, _, _, rfl, f2, by omega⟩
  | 3, hv => cases hv; exact ⟨t3, _, _, rfl, f3, by omega⟩
  | 4, hv => cases hv; exact ⟨t4, _, _, rfl, f4, by omega⟩
  | n + 5, hv => simp at hv
 refine cj (xs := [V.ref t0, .ref t1, .ref t2, .ref t3, .ref t4]) (fun i σ Y => (∃ k5 k6 k7 k8, σ = [some (.ref p.t), some (.ref p.L.f), some (.int far), some (.int goal), some (.int (p.ns.length : Int)), k5, k6, k7, k8]) ∧ Qt a.tP_heap_look H Y ∧ Qt a.tP_heap_look Z5 Y) ⟨⟨_, _, _, _, rfl⟩, qZ, ⟨fun _ _ e _ => e, qZ.2⟩⟩ ?_ ?_ ?_
 ·rintro i σ Y _ ⟨_, _, k⟩
  exact SqL.of (k.1 _ _ x4 n4)
 ·rintro i v σ Y hv ⟨⟨k5, k6, k7, k8, rfl⟩, qY, kY⟩
  obtain ⟨t, x, y, rfl, e, hbad⟩ := items i v hv
  refine ⟨t, _, rfl, SqT.of (kY.1 _ _ e (TabAt.ne qZ.2 e nofun)), rfl, _, _, rfl, _, _, rfl, rfl, ?_⟩
  exact ⟨_, rfl, _, rfl, _, rfl, _, rfl, p, 3, x, y, 3, rfl, hB.qt hw qY, hw, htr, .inl ⟨rfl, .inr (.inl ⟨rfl, hbad⟩)⟩, fun H' q' => ⟨true, rfl, cW ⟨⟨_, _, _, _, rfl⟩, qY.trans q', kY.trans q'⟩⟩⟩
 ·rintro σ Y ⟨⟨k5, k6, k7, k8, rfl⟩, qY, _⟩
  exact q Y qY
theorem sum_set : ∀ {ns : List Int} {i : Nat} {x : Int} (y : Int), ns[i]? = some x → (ns.set i y).sum = ns.sum - x + y
 | [], i, x, y, h => by simp at h
 | a :: r, 0, x, y, h => by
  cases h
  rw [List.set_cons_zero, List.sum_cons, List.sum_cons]
  omega
 | a :: r, i + 1, x, y, h => by
  rw [List.set_cons_succ, List.sum_cons, List.sum_cons, sum_set y (by simpa using h)]
  omega
theorem uo {ns : List Int} (h : Tree ns) : 2 * ns.sum = (ns.length : Int) := by
 have := h.2.1
 unfold ht at this
 rw [List.take_length] at this
 omega
theorem yI {ns : List Int} {i : Nat} {x : Int} (h : Tree ns) (hx : ns[i]? = some x) : ¬ Tree (ns.set i (1 - x)) := fun z => by
 have h1 := uo h
 have h2 := uo z
 rw [sum_set _ hx, List.length_set] at h2
 omega
theorem xn {ns : List Int} {i : Nat} {x : Int} (h : aK ns) (hx : ns[i]? = some x) : aK (ns.set i (1 - x)) := fun y hy => by
 rcases List.mem_or_eq_of_mem_set hy with z | z
 ·exact h y z
 ·have := h x (List.mem_of_getElem? hx)
  omega
theorem zP {ns : List Int} {i : Nat} {v : Int} (hi : i < ns.length) (h0 : v ≠ 0) (h1 : v ≠ 1) : ¬ aK (ns.set i v) := fun z => by
 have e : (ns.set i v)[i]? = some v := List.getElem?_set_self hi
 rcases z v (List.mem_of_getElem? e) with y | y
 ·exact h0 y
 ·exact h1 y
theorem atR (n : Nat) (m : Int) (hn : 0 < n) : ∃ k : Nat, m % (n : Int) = (k : Int) ∧ k < n := by
 have a0 := Int.emod_nonneg m (show (n : Int) ≠ 0 by omega)
 have a1 := Int.emod_lt_of_pos m (show (0 : Int) < (n : Int) by omega)
 exact ⟨(m % (n : Int)).toNat, by omega, by omega⟩
def nM (K : PySem.W.Frag) : Sp := fun vs H Q _ => ∃ (b sa : Addr) (ns zs : List Int), vs = [.ref b, .ref sa] ∧ H b = some (.lst (ns.map V.int)) ∧ SqL K H sa (zs.map V.int) ∧ Tree ns ∧ aK ns ∧ ns.length ≤ 3100 ∧ ∀ H', aR H H' → Q (.bl true) H'
theorem ju (T : Tx K mg a) : bh P w K mg base CX0 8 a.f_law_rows_refused a.fd_law_rows_refused ["_law_bits", "_law_script"] (nM K) := by
 refine T.D_law_rows_refused.F.ok bx (fun vs H Q E h => ?_) (fun cdv A outer s H vs Q E hr h => ?_)
 ·obtain ⟨b, sa, ns, zs, rfl, _⟩ := h
  rfl
 obtain ⟨b, sa, ns, zs, rfl, hb, hS, htr, hbt, hn, q⟩ := h
 refine ⟨_, (aq (aF (i := 2) bx.nd rfl (Or.inl rfl) (dz du rfl T.b_list Tw.jn (aa (pv 0) aj)))
  (aq (aF (i := 3) bx.nd rfl (Or.inl rfl) (ou (aA bD (aA bD (aA cC (aB T.D_law_cell_at (bK T) (by decide) hr aL rfl (aa (pv 1) (aa ao aj))) ao) ao) (aW aZ rfl T.b_len Tw.dg (aa (pv 0) aj)))))
  (aq (o8 (aA bz ao (bH cR (pv 2) (pv 3) (fun _ _ => rfl))) (vA (pv 2) (pv 3) set_list))
  (aq (aF (i := 4) bx.nd rfl (Or.inl rfl) (aB T.D_law_cell_at (bK T) (by decide) hr aL rfl (aa (pv 1) (aa ao aj))))
  (aq (aF (i := 5) bx.nd rfl (Or.inl rfl) (dz du rfl T.b_list Tw.jn (aa (bH cR (aY (aa (pv 0) (aa (pv 2) aj))) (aA bD (aA bO (pv 4) ao) ao) (fun _ _ => rfl)) aj)))
  (aq (aF (i := 6) bx.nd rfl (Or.inl rfl) (ou (aA bD (aA bD (aA cC (aB T.D_law_cell_at (bK T) (by decide) hr aL rfl (aa (pv 1) (aa ao aj))) ao) ao) (aW aZ rfl T.b_len Tw.dg (aa (pv 0) aj)))))
  (aq (o8 (bH cR (aY (aa (aA bC ao (aA bD (aA bO (pv 4) ao) (aA rF ao ao))) (aa (aA bz (yD uP ao) (aA bD (aA bO (pv 4) ao) (aA rF ao ao))) aj))) (aA bD (pv 4) ao) (fun _ _ => rfl)) (vA (pv 5) (pv 6) set_list))
  (aq (aF (i := 7) bx.nd rfl (Or.inl rfl) (iZ lq (aA c7 (pv 5) (aA fB (aY (aa ao aj)) ao)) nR (jr ao)))
  (aq (aX (PW.pt (rZ (eU (fZ (aB T.D_law_not_kept (cg T) (by decide) hr aL rfl (aa (pv 2) (aa ao aj))))) (rO (eU (fZ (aB T.D_law_not_kept (cg T) (by decide) hr aL rfl (aa (pv 5) (aa ao aj)))))))) (az (aC fG)) aJ)
  (az (aC (oE (aB T.D_law_not_kept (cg T) (by decide) hr aL rfl (aa (pv 7) (aa ao aj))) (oO (aB T.D_law_not_kept (cg T) (by decide) hr aL rfl (aa (aY aj) (aa ao aj)))))))))))))))), ?_⟩
 have h2 := htr.1
 have ern : (ns.map V.int).length = ns.length := List.length_map ..
 refine ⟨_, rfl, b, _, rfl, .inl (SqL.of hb), fun tu htu => ?_⟩
 have s1 := au htu (.lst (ns.map V.int))
 have xtu : upd H tu (.lst (ns.map V.int)) tu = some (.lst (ns.map V.int)) := ak
 have nbt : b ≠ tu := aO hb htu
 have xb1 := s1 _ _ hb
 have hS1 := s1.seq hS
 generalize upd H tu (.lst (ns.map V.int)) = H1 at *
 refine ⟨fun v Y => H1 = Y ∧ ∃ n : Nat, v = .int (n : Int) ∧ n < ns.length, ?_, ?_⟩
 ·refine ⟨_, rfl, sa, zs, 1, rfl, hS1, _, _, rfl, rfl, .inr ⟨by decide, by decide⟩, _, _, rfl, rfl, (by show (0 : Int) < 65521; decide), _, rfl, b, _, rfl, .inl (SqL.of xb1), _, _, rfl, rfl, (by show (0 : Int) < (((ns.map V.int).length : Nat) : Int); omega), rfl, ?_⟩
  obtain ⟨k, e, hk⟩ := atR (ns.map V.int).length ((zs[1]?).getD 0 * 69621 % 65521) (by omega)
  exact ⟨k, congrArg V.int e, by omega⟩
 rintro v Y ⟨rfl, at0, rfl, hat⟩
 have hx := List.getElem?_eq_getElem hat
 generalize ns[at0] = x at *
 refine ⟨_, rfl, _, rfl, tu, _, _, _, rfl, rfl, SqL.of xtu, j8 hx, _, _, rfl, rfl, _, rfl, _, rfl, tu, _, _, at0, rfl, rfl, xtu, rm (by rw [ern]; exact hat), ?_⟩
 have ems : (ns.map V.int).set at0 (V.int (1 - x)) = (ns.set at0 (1 - x)).map V.int := by rw [List.map_set]
 have s2 : aR H (upd H1 tu (.lst ((ns.map V.int).set at0 (V.int (1 - x))))) := cO s1 htu _
 have xtu2 : upd H1 tu (.lst ((ns.map V.int).set at0 (V.int (1 - x)))) tu = some (.lst ((ns.set at0 (1 - x)).map V.int)) := by rw [ak, ems]
 generalize upd H1 tu (.lst ((ns.map V.int).set at0 (V.int (1 - x)))) = H2 at *
 refine ⟨_, rfl, sa, zs, 2, rfl, s2.seq hS, ?_⟩
 generalize (zs[2]?).getD 0 = c
 refine ⟨_, rfl, _, rfl, (by show 2 ≤ sizeLine; decide), fun l3 hl3 => ?_⟩
 have s3 := au hl3 (.lst [.ref b, .ref tu])
 obtain ⟨src, ms, e1, e2, hml⟩ : ∃ (src : Addr) (ms : List Int), atI [V.ref b, V.ref tu] (c / 2 % 2) = some (.ref src) ∧ upd H2 l3 (.lst [.ref b, .ref tu]) src = some (.lst (ms.map V.int)) ∧ ms.length = ns.length := by
  rcases (show c / 2 % 2 = 0 ∨ c / 2 % 2 = 1 by omega) with e | e <;> rw [e]
  ·exact ⟨b, ns, rfl, s3 _ _ (s2 _ _ hb), rfl⟩
  ·exact ⟨tu, _, rfl, s3 _ _ xtu2, List.length_set ..⟩
 refine ⟨_, rfl, _, _, rfl, rfl, ⟨by decide, by decide⟩, _, _, rfl, rfl, (by show (0 : Int) < 2; decide), l3, _, _, _, rfl, rfl, SqL.of ak, e1, src, _, rfl, .inl (SqL.of e2), fun od hod => ?_⟩
 have s4 := s3.trans (au hod (.lst (ms.map V.int)))
 have xod : upd (upd H2 l3 (.lst [.ref b, .ref tu])) od (.lst (ms.map V.int)) od = some (.lst (ms.map V.int)) := ak
 have hod0 := s2.free (s3.free hod)
 have hod2 := s3.free hod
 have xtu4 := s4 _ _ xtu2
 have a4 := s2.trans s4
 generalize upd (upd H2 l3 (.lst [.ref b, .ref tu])) od (.lst (ms.map V.int)) = H4 at *
 have ntu : tu ≠ od := aO xtu2 hod2
 refine ⟨fun v Y => H4 = Y ∧ ∃ n : Nat, v = .int (n : Int) ∧ n < ns.length, ?_, ?_⟩
 ·refine ⟨_, rfl, sa, zs, 3, rfl, a4.seq hS, _, _, rfl, rfl, .inr ⟨by decide, by decide⟩, _, _, rfl, rfl, (by show (0 : Int) < 65519; decide), _, rfl, b, _, rfl, .inl (SqL.of (a4 _ _ hb)), _, _, rfl, rfl, (by show (0 : Int) < (((ns.map V.int).length : Nat) : Int); omega), rfl, ?_⟩
  obtain ⟨k, e, hk⟩ := atR (ns.map V.int).length ((zs[3]?).getD 0 * 40692 % 65519) (by omega)
  exact ⟨k, congrArg V.int e, by omega⟩
 rintro v Y ⟨rfl, sp, rfl, hsp⟩
 have hfar : (0 : Int) ≤ c / 4 % 10 ^ (60 : Int).toNat := Int.emod_nonneg _ (by decide)
 obtain ⟨v, ev, v0, v1⟩ : ∃ v : Int, atI [V.int (2 + c / 4 % 10 ^ (60 : Int).toNat), V.int (-1 - c / 4 % 10 ^ (60 : Int).toNat)] (c % 2) = some (.int v) ∧ v ≠ 0 ∧ v ≠ 1 := by
  rcases (show c % 2 = 0 ∨ c % 2 = 1 by omega) with e | e <;> rw [e]
  ·exact ⟨_, rfl, by omega, by omega⟩
  ·exact ⟨_, rfl, by omega, by omega⟩
 refine ⟨_, rfl, _, _, rfl, rfl, ⟨by decide, by decide⟩, _, _, rfl, rfl, ⟨by decide, by decide, by decide⟩, _, _, rfl, rfl, (by show (0 : Int) < 10 ^ (60 : Int).toNat; decide), _, _, rfl, rfl, _, rfl, _, rfl, _, _, rfl, rfl, ⟨by decide, by decide⟩, _, _, rfl, rfl, ⟨by decide, by decide, by decide⟩, _, _, rfl, rfl, (by show (0 : Int) < 10 ^ (60 : Int).toNat; decide), _, _, rfl, rfl, (by show 2 ≤ sizeLine; decide), fun l5 hl5 => ?_⟩
 have s5 := au hl5 (.lst [V.int (2 + c / 4 % 10 ^ (60 : Int).toNat), V.int (-1 - c / 4 % 10 ^ (60 : Int).toNat)])
 refine ⟨_, rfl, _, _, rfl, rfl, (by show (0 : Int) < 2; decide), l5, _, _, _, rfl, rfl, SqL.of ak, ev, _, rfl, _, rfl, od, _, _, sp, rfl, rfl, s5 _ _ xod, rm (by rw [List.length_map, hml]; exact hsp), ?_⟩
 have emo : (ms.map V.int).set sp (V.int v) = (ms.set sp v).map V.int := by rw [List.map_set]
 rw [emo]
 have s6 : aR H2 (upd (upd H4 l5 (.lst [V.int (2 + c / 4 % 10 ^ (60 : Int).toNat), V.int (-1 - c / 4 % 10 ^ (60 : Int).toNat)])) od (.lst ((ms.set sp v).map V.int))) := cO (s4.trans s5) hod2 _
 have xod6 : upd (upd H4 l5 (.lst [V.int (2 + c / 4 % 10 ^ (60 : Int).toNat), V.int (-1 - c / 4 % 10 ^ (60 : Int).toNat)])) od (.lst ((ms.set sp v).map V.int)) od = some (.lst ((ms.set sp v).map V.int)) := ak
 generalize upd (upd H4 l5 (.lst [V.int (2 + c / 4 % 10 ^ (60 : Int).toNat), V.int (-1 - c / 4 % 10 ^ (60 : Int).toNat)])) od (.lst ((ms.set sp v).map V.int)) = H6 at *
 have a6 := s2.trans s6
 have hol : (ms.set sp v).length = ns.length := by rw [List.length_set, hml]
 refine ⟨_, rfl, (by show 1 ≤ sizeLine; decide), fun l7 hl7 => ?_⟩
 have s7 := au hl7 (.lst [.int 1])
 refine ⟨l7, 4097, [.int 1], rfl, rfl, ak, by decide, by decide, ?_, fun l8 hl8 => ?_⟩
 ·rw [sizeLine_eq]
  decide
 have s8 := au hl8 (.lst (List.replicate (4097 : Int).toNat [V.int 1]).flatten)
 rw [show (4097 : Int).toNat = 4097 from rfl, jq] at *
 refine ⟨od, l8, _, _, rfl, rfl, s8 _ _ (s7 _ _ xod6), ak, ?_, fun l9 hl9 => ?_⟩
 ·rw [List.length_map, List.length_map, List.length_replicate, hol, sizeLine_eq]
  omega
 have s9 := au hl9 (.lst ((ms.set sp v).map V.int ++ (List.replicate 4097 (1 : Int)).map V.int))
 rw [← List.map_append] at *
 have e47 : j7 ((ms.set sp v ++ List.replicate 4097 (1 : Int)).map V.int) none (some 4097) = ((ms.set sp v ++ List.replicate 4097 (1 : Int)).take 4097).map V.int := uY _ 4097
 refine ⟨_, rfl, l9, _, rfl, SqL.of ak, fun lo hlo => ?_⟩
 rw [e47]
 have hll : ((ms.set sp v ++ List.replicate 4097 (1 : Int)).take 4097).length = 4097 := by
  rw [List.length_take, List.length_append, List.length_replicate]
  omega
 generalize (ms.set sp v ++ List.replicate 4097 (1 : Int)).take 4097 = lg at *
 have s10 := s7.trans (s8.trans (s9.trans (au hlo (.lst (lg.map V.int)))))
 have xlo := (ak : upd (upd (upd (upd H6 l7 (.lst [.int 1])) l8 (.lst ((List.replicate 4097 (1 : Int)).map V.int))) l9 (.lst ((ms.set sp v ++ List.replicate 4097 (1 : Int)).map V.int))) lo (.lst (lg.map V.int)) lo = some (.lst (lg.map V.int)))
 generalize upd (upd (upd (upd H6 l7 (.lst [.int 1])) l8 (.lst ((List.replicate 4097 (1 : Int)).map V.int))) l9 (.lst ((ms.set sp v ++ List.replicate 4097 (1 : Int)).map V.int))) lo (.lst (lg.map V.int)) = H9 at *
 have a9 := a6.trans s10
 refine ⟨_, rfl, tu, _, 2, rfl, s10 _ _ (s6 _ _ xtu2), .inr (.inr ⟨rfl, by rw [List.length_set]; omega, xn hbt hx, yI htr hx⟩), fun Y1 t1 => ⟨true, rfl, cW ?_⟩⟩
 refine ⟨_, rfl, od, _, 1, rfl, t1 _ _ (s10 _ _ xod6), .inr (.inl ⟨rfl, by omega, zP (by omega) v0 v1⟩), fun Y2 t2 => ⟨true, rfl, cW ?_⟩⟩
 refine ⟨_, rfl, lo, _, 0, rfl, t2 _ _ (t1 _ _ xlo), .inl ⟨rfl, by omega⟩, fun Y3 t3 => ⟨true, rfl, ir ?_⟩⟩
 refine ⟨(by show 0 ≤ sizeLine; decide), fun l0 hl0 => ?_⟩
 have s0 := au hl0 (.lst [])
 exact ⟨l0, [], 2, rfl, ak, .inr (.inr ⟨rfl, by decide, nofun, fun z => absurd z.1 (by decide)⟩), fun Y4 t4 => q Y4 (a9.trans (t1.trans (t2.trans (t3.trans (s0.trans t4)))))⟩
theorem yq (m k : Nat) : ((List.replicate m (1 : Int) ++ List.replicate m (0 : Int)).take k).sum = ((min k m : Nat) : Int) := by
 rw [List.take_append, List.take_replicate, List.take_replicate, List.sum_append]
 have e1 : ∀ n : Nat, (List.replicate n (1 : Int)).sum = (n : Int) := fun n => by
  induction n with
  | zero => rfl
  | succ n ih => rw [List.replicate_succ, List.sum_cons, ih]; omega
 have e0 : ∀ n : Nat, (List.replicate n (0 : Int)).sum = 0 := fun n => by
  induction n with
  | zero => rfl
  | succ n ih => rw [List.replicate_succ, List.sum_cons, ih]; rfl
 rw [e1, e0]
 omega
theorem lA (m : Nat) : (List.replicate m (1 : Int) ++ List.replicate m (0 : Int)).length = 2 * m := by
 rw [List.length_append, List.length_replicate, List.length_replicate]
 omega
theorem rW (m k : Nat) : ht (List.replicate m (1 : Int) ++ List.replicate m (0 : Int)) k = 2 * ((min k m : Nat) : Int) - k := by
 unfold ht
 rw [yq]
theorem xV (m : Nat) : aK (List.replicate m (1 : Int) ++ List.replicate m (0 : Int)) := fun x hx => by
 rcases List.mem_append.mp hx with h | h
 ·exact .inr (List.eq_of_mem_replicate h)
 ·exact .inl (List.eq_of_mem_replicate h)
theorem wN {m : Nat} (h : 1 ≤ m) : Tree (List.replicate m (1 : Int) ++ List.replicate m (0 : Int)) := by
 refine ⟨by rw [lA]; omega, by rw [lA, rW]; omega, fun k k0 k1 => ?_⟩
 rw [lA] at k1
 rw [rW]
 omega
theorem uh {m k : Nat} (h : k < m) : (List.replicate m (1 : Int) ++ List.replicate m (0 : Int))[k]? = some 1 := by
 rw [List.getElem?_append_left (by rw [List.length_replicate]; exact h), List.getElem?_replicate, if_pos h]
theorem yW {m k : Nat} (h : m ≤ k) (h2 : k < 2 * m) : (List.replicate m (1 : Int) ++ List.replicate m (0 : Int))[k]? = some 0 := by
 rw [List.getElem?_append_right (by rw [List.length_replicate]; exact h), List.length_replicate, List.getElem?_replicate, if_pos (by omega)]
def Qs (Ph Pt : Addr) (H X : Hp) : Prop := (∀ b o, H b = some o → b ≠ Ph → b ≠ Pt → X b = some o) ∧ TabAt X Ph (cX bu) aN.qual ∧ TabAt X Pt (oX bI) bV.qual
theorem Brk.make {H H6 : Hp} {Ph Pt t ah nd bl f : Addr} {ns lows : List Int} {S : Nat} {xs : List V} (nn : Ph ≠ Pt) (kb : KB H t ah nd bl ns lows S xs) (hb : aK ns) (hl : ns.length ≤ 4096) (hTh : TabAt H Ph (cX bu) aN.qual) (hT : TabAt H Pt (oX bI) bV.qual) (b6 : jA Pt H H6) (A6 : Asks H6 ⟨f, none, bl, 0, (cZ ns).map V.int⟩ []) :
  Brk H6 Ph ⟨t, ⟨f, none, bl, 0, (cZ ns).map V.int⟩, ah, nd, ns, lows, S, xs⟩ [] := by
 have o6 : ∀ b o, H b = some o → (∀ ps, o ≠ .tbl ps) → H6 b = some o := fun b o e n => b6 b o e (TabAt.ne hT e n)
 have hTh6 : TabAt H6 Ph (cX bu) aN.qual := by
  obtain ⟨ps, z1, z2, z3⟩ := hTh
  refine ⟨ps, b6 _ _ z1 nn, z2, ?_⟩
  rcases z3 with z3 | ⟨cd, oc, vs, tk, z4, z5, z6⟩
  ·exact .inl z3
  ·exact .inr ⟨cd, oc, vs, tk, z4, b6 _ _ z5 (TabAt.ne hT z5 nofun), z6⟩
 have blk : ∀ n, n < many ns.length → ((cZ ns).map V.int)[0 + n]? = some (.int (bM ns n)) := fun n hn => by
  rw [Nat.zero_add, List.getElem?_map, lO hn]
  rfl
 exact ⟨⟨⟨o6 _ _ kb.tab.tup nofun, o6 _ _ kb.tab.ahs nofun, kb.tab.few⟩, A6, hb, hl, blk⟩, o6 _ _ kb.nds nofun, kb.low, kb.sz, kb.heap, hTh6⟩
theorem TabAt.qt {X Y : Hp} {Ph Pt : Addr} {pos pos' : Pos} {q q' : Str} (nn : Pt ≠ Ph) (h : TabAt X Pt pos q) (hT : TabAt X Ph pos' q') (b : ∀ b o, X b = some o → b ≠ Ph → Y b = some o) : TabAt Y Pt pos q := by
 obtain ⟨ps, z1, z2, z3⟩ := h
 refine ⟨ps, b _ _ z1 nn, z2, ?_⟩
 rcases z3 with z3 | ⟨cd, oc, vs, tk, z4, z5, z6⟩
 ·exact .inl z3
 ·exact .inr ⟨cd, oc, vs, tk, z4, b _ _ z5 (TabAt.ne hT z5 nofun), z6⟩
def sO (Ph Pt : Addr) : Sp := fun vs H Q _ => vs = [] ∧ TabAt H Ph (cX bu) aN.qual ∧ TabAt H Pt (oX bI) bV.qual ∧ ∀ H', Qs Ph Pt H H' → Q (.bl true) H'
theorem nF (T : Tx K mg a) (B : Bs mg base a) : bh P w K mg base CX0 9 a.f_law_greatest a.fd_law_greatest [] (sO a.tP_heap_look a.tP_law_look_of) := by
 refine T.D_law_greatest.F.ok cP (fun vs H Q E h => ?_) (fun cdv A outer s H vs Q E hr h => ?_)
 ·obtain ⟨rfl, _⟩ := h
  rfl
 obtain ⟨rfl, hTh, hT, q⟩ := h
 refine ⟨_, (aq (o8 (aB T.D_kept_brackets (dC T) (by decide) hr iT rfl (aa (aA c7 (aA fB (aY (aa ao aj)) ao) (aA fB (aY (aa ao aj)) ao)) aj)) (jM rfl (bT (bc (i := 0) cP.nd rfl (Or.inl rfl)) (bT (bc (i := 1) cP.nd rfl (Or.inl rfl)) gU))))
  (aq (aF (i := 2) cP.nd rfl (Or.inl rfl) (aB T.D_law_look_of (jc T B) (by decide) hr aL rfl (aa (pv 1) aj)))
  (aq (aX (PW.pt (rZ (aM mV (aB T.D_closing (gZ T B) (by decide) hr iT rfl (aa (pv 0) (aa (pv 2) (aa ao aj)))) ao (aP _)) (rZ (aM mV (aB T.D_closing (gZ T B) (by decide) hr iT rfl (aa (pv 0) (aa (pv 2) (aa ao aj)))) ao (aP _)) (rO (aM mV (aB T.D_opening (jK T B) (by decide) hr iT rfl (aa (pv 0) (aa (pv 2) (aa ao aj)))) ao (aP _)))))) (az (aC fG)) aJ)
  (az (aC (oE (dJ cM (aB T.D_height (fc T) (by decide) hr iT rfl (aa (pv 0) (aa (pv 2) (aa ao aj)))) ao (aP _)) (oO (aB T.D_law_not_kept (cg T) (by decide) hr aL rfl (aa (aA c7 (aA fB (aY (aa ao aj)) ao) (aA fB (aY (aa ao aj)) ao)) (aa ao aj)))))))))), ?_⟩
 have nn := B.N_heap_look_law_look_of
 have two : ∀ (m n : Nat) (X : Hp) (Q' : VK), m + n ≤ 5000 → (∀ (r : Addr) (Y : Hp), X r = none → aR X Y → Y r = some (.lst ((List.replicate m (1 : Int) ++ List.replicate n (0 : Int)).map V.int)) → Q' (.ref r) Y) → tOp Bv (tOp zf (zB (wg (tC (.int 1)) yf)) (tC (.int (m : Int)))) (tOp zf (zB (wg (tC (.int 0)) yf)) (tC (.int (n : Int)))) [none, none, none] X Q' := fun m n X Q' hmn qq => by
  refine ⟨(by show 1 ≤ sizeLine; decide), fun l1 hl1 => ?_⟩
  have s1 := au hl1 (.lst [.int 1])
  refine ⟨l1, (m : Int), [.int 1], rfl, rfl, ak, by omega, by omega, ?_, fun l2 hl2 => ?_⟩
  ·rw [sizeLine_eq, Int.toNat_natCast]
   show 1 * m ≤ _
   omega
  rw [Int.toNat_natCast, jq] at *
  have s2 := au hl2 (.lst ((List.replicate m (1 : Int)).map V.int))
  refine ⟨(by show 1 ≤ sizeLine; decide), fun l3 hl3 => ?_⟩
  have s3 := au hl3 (.lst [.int 0])
  refine ⟨l3, (n : Int), [.int 0], rfl, rfl, ak, by omega, by omega, ?_, fun l4 hl4 => ?_⟩
  ·rw [sizeLine_eq, Int.toNat_natCast]
   show 1 * n ≤ _
   omega
  rw [Int.toNat_natCast, jq] at *
  have s4 := au hl4 (.lst ((List.replicate n (0 : Int)).map V.int))
  refine ⟨l2, l4, _, _, rfl, rfl, s4 _ _ (s3 _ _ ak), ak, ?_, fun r hr' => ?_⟩
  ·rw [List.length_map, List.length_map, List.length_replicate, List.length_replicate, sizeLine_eq]
   omega
  have sA := s1.trans (s2.trans (s3.trans s4))
  refine qq r _ (sA.free hr') (sA.trans (au hr' _)) ?_
  rw [ak, List.map_append]
 refine two 2048 2048 H _ (by decide) fun b H1 hb0 s1 xb => ?_
 have hlen : (List.replicate 2048 (1 : Int) ++ List.replicate 2048 (0 : Int)).length = 4096 := lA 2048
 have hh := rW 2048
 have hbt := xV 2048
 have htr := wN (m := 2048) (by decide)
 have a0 := uh (m := 2048) (k := 0) (by decide)
 have a1 := uh (m := 2048) (k := 2047) (by decide)
 have a2 := yW (m := 2048) (k := 4095) (by decide) (by decide)
 generalize (List.replicate 2048 (1 : Int) ++ List.replicate 2048 (0 : Int)) = ns at *
 refine ⟨b, ns, rfl, SqL.of xb, .inl ⟨by omega, hbt, htr, fun r t ah nd bl lows S xs H2 hbl hr0 ht0 s2 xr kb => ?_⟩⟩
 refine ⟨r, _, rfl, SqT.of xr, rfl, _, _, rfl, _, _, rfl, rfl, ?_⟩
 have s12 := s1.trans s2
 refine ⟨_, rfl, bl, _, rfl, kb.bls, TabAt.same hT s12, fun f H3 nf b3 hT3 A3 => ?_⟩
 have hB := Brk.make nn kb hbt (by omega) (TabAt.same hTh s12) (TabAt.same hT s12) b3 A3
 have ne : ∀ {x y : Nat}, x = y → ∀ {A B : Prop}, B → if (!decide (V.int (x : Int) = V.int (y : Int))) = true then A else B := fun h => lu (by rw [h])
 refine ⟨_, rfl, _, rfl, ⟨t, ⟨f, none, bl, 0, (cZ ns).map V.int⟩, ah, nd, ns, lows, S, xs⟩, [], ((0 : Nat) : Int), rfl, hB, by simp, htr, .inl ⟨0, rfl, a0, fun k1 ss1 Y1 f1 d1 => ?_⟩⟩
 have e1 : k1 = 4095 := by
  obtain ⟨c1, c2, c3, c4⟩ := f1
  have c2 : k1 + 1 ≤ ns.length := c2
  rw [hh, hh] at c3
  omega
 subst e1
 have q1 := d1.qt rfl
 have hB1 := hB.qt rfl q1
 refine ⟨rfl, _, rfl, lu rfl ?_⟩
 refine ⟨_, rfl, _, rfl, ⟨t, ⟨f, none, bl, 0, (cZ ns).map V.int⟩, ah, nd, ns, lows, S, xs⟩, [], ((2047 : Nat) : Int), rfl, hB1, by simp, htr, .inl ⟨2047, rfl, a1, fun k2 ss2 Y2 f2 d2 => ?_⟩⟩
 have e2 : k2 = 2048 := by
  obtain ⟨c1, c2, c3, c4⟩ := f2
  rw [hh, hh] at c3
  rcases Nat.lt_or_ge 2048 k2 with z | z
  ·have := c4 2049 (by omega) (by omega)
   rw [hh, hh] at this
   omega
  ·omega
 subst e2
 have q2 := q1.trans (d2.qt rfl)
 have hB2 := hB.qt rfl q2
 refine ⟨rfl, _, rfl, lu rfl ?_⟩
 refine ⟨_, rfl, _, rfl, ⟨t, ⟨f, none, bl, 0, (cZ ns).map V.int⟩, ah, nd, ns, lows, S, xs⟩, [], ((4095 : Nat) : Int), rfl, hB2, by simp, htr, .inl ⟨4095, rfl, a2, fun k3 ss3 Y3 f3 d3 => ?_⟩⟩
 have e3 : k3 = 0 := by
  obtain ⟨c1, c2, c3⟩ := f3
  rw [hh, hh] at c2
  omega
 subst e3
 have q3 := q2.trans (d3.qt rfl)
 have hB3 := hB.qt rfl q3
 refine ⟨rfl, _, rfl, lu rfl ?_⟩
 refine ⟨_, rfl, _, rfl, t, ⟨f, none, bl, 0, (cZ ns).map V.int⟩, ah, ns, [], _, ((2048 : Nat) : Int), rfl, hB3.ask, .inl ⟨2048, rfl, by simp, by omega, fun ss4 Y4 w4 s4 => ?_⟩⟩
 have e4 : ht ns 2048 = 2048 := by rw [hh]; rfl
 rw [e4]
 have q4 := q3.same s4
 refine ⟨rfl, _, rfl, ir ?_⟩
 refine two 2049 2048 Y4 _ (by decide) fun l5 Y5 hl5 s5 x5 => ?_
 refine ⟨l5, _, 0, rfl, x5, .inl ⟨rfl, by rw [List.length_append, List.length_replicate, List.length_replicate]; decide⟩, fun Y6 s6 => q Y6 ?_⟩
 have s56 := s5.trans s6
 refine ⟨fun b o e n1 n2 => s56 _ _ (q4.1 b o (b3 b o (s12 _ _ e) n2) n1), TabAt.same q4.2 s56, TabAt.same (TabAt.qt nn.symm hT3 hB.tab q4.1) s56⟩
def sp_law (K : PySem.W.Frag) (Ph Pt : Addr) : Sp := fun vs H Q _ => ∃ (s : Addr) (ns : List Int), vs = [.ref s] ∧ SqL K H s (ns.map V.int) ∧ ns.length ≤ 63 ∧ TabAt H Ph (cX bu) aN.qual ∧ TabAt H Pt (oX bI) bV.qual ∧ ∀ H', Q (.bl true) H'
theorem wG {H : Hp} {s Ph Pt : Addr} {ns : List Int} (hS : SqL K H s (ns.map V.int)) (hl : ns.length ≤ 63) (h0 : H Ph = some (.tbl #[])) (h : H Pt = some (.tbl #[])) : sp_law K Ph Pt [.ref s] H (fun v _ => v = .bl true) fun _ _ _ => False :=
 ⟨s, ns, rfl, hS, hl, tab0 h0, tab0 h, fun _ => rfl⟩
theorem wQ {ns : List Int} (h : Tree ns) (hb : aK ns) : ns[0]? = some 1 ∧ ns[ns.length - 1]? = some 0 ∧ ht ns (ns.length - 1) = 1 := by
 obtain ⟨h1, h2, h3⟩ := h
 have e0 := List.getElem?_eq_getElem (show 0 < ns.length by omega)
 have e1 := List.getElem?_eq_getElem (show ns.length - 1 < ns.length by omega)
 have b0 := hb _ (List.getElem_mem (show 0 < ns.length by omega))
 have b1 := hb _ (List.getElem_mem (show ns.length - 1 < ns.length by omega))
 have p1 := h3 1 (by omega) (by omega)
 have p2 := h3 (ns.length - 1) (by omega) (by omega)
 have u0 := kj e0
 have u1 := kj e1
 rw [eX] at u0
 rw [show ns.length - 1 + 1 = ns.length by omega] at u1
 have u0 : ht ns 1 = 0 + 2 * ns[0] - 1 := u0
 rw [e0, e1]
 refine ⟨congrArg some (by omega), congrArg some (by omega), by omega⟩
theorem Af (T : Tx K mg a) (B : Bs mg base a) : bh P w K mg base CX0 12 a.f_law a.fd_law ["_law_script"] (sp_law K a.tP_heap_look a.tP_law_look_of) := by
 refine T.D_law.F.ok gb (fun vs H Q E h => ?_) (fun cdv A outer s H vs Q E hr h => ?_)
 ·obtain ⟨b, f, rfl, _⟩ := h
  rfl
 obtain ⟨sa, zs, rfl, hS, hl, hTh, hT, q⟩ := h
 refine ⟨_, (aq (aF (i := 1) gb.nd rfl (Or.inl rfl) (aB T.D_law_tree_bits (mL T) (by decide) hr aL rfl (aa (pv 0) aj)))
  (aq (aX (eU (fZ (aB T.D_law_rows_refused (ju T) (by decide) hr aL rfl (aa (pv 1) (aa (pv 0) aj))))) (az (aC fG)) aJ)
  (qT (aX (PW.pt (jL (aM cM (aA bD (aB T.D_law_cell_at (bK T) (by decide) hr aL rfl (aa (pv 0) (aa ao aj))) ao) ao (aP _)) (jo (eU (fZ (xY ((nF T B).mono (by decide)) hr rfl T.D_law_greatest.m T.D_law_greatest.F.kp T.D_law_greatest.b .nil aL)))))) (az (aC fG)) aJ)
  (aq (o8 (aB T.D_kept_brackets (dC T) (by decide) hr iT rfl (aa (dz du rfl T.b_list Tw.jn (aa (pv 1) aj)) aj)) (jM rfl (bT (bc (i := 2) gb.nd rfl (Or.inl rfl)) (bT (bc (i := 3) gb.nd rfl (Or.inl rfl)) gU))))
  (aq (aF (i := 4) gb.nd rfl (Or.inl rfl) (aB T.D_law_look_of (jc T B) (by decide) hr aL rfl (aa (pv 3) aj)))
  (aq (aF (i := 5) gb.nd rfl (Or.inl rfl) (ou (aA bC ao (aA bD (aA bO (aB T.D_law_cell_at (bK T) (by decide) hr aL rfl (aa (pv 0) (aa ao aj))) ao) (bH cR (aY (aa ao (aa ao (aa (aA rF ao ao) aj)))) (aA bD (aB T.D_law_cell_at (bK T) (by decide) hr aL rfl (aa (pv 0) (aa ao aj))) ao) (fun _ _ => rfl))))))
  (aq (aX (eU (fZ (aB T.D_law_places_refused (iJ T B) (by decide) hr aL rfl (aa (pv 2) (aa (pv 4) (aa (pv 5) (aa (aA bD (aB T.D_law_cell_at (bK T) (by decide) hr aL rfl (aa (pv 0) (aa ao aj))) (aA rF ao ao)) aj))))))) (az (aC fG)) aJ)
  (aq (cA PassesOwn.never rfl (cI (iZ lq (pv 0) nR (jr ao))) (bc (i := 6) gb.nd rfl (Or.inl rfl)) (aq (aF (i := 7) gb.nd rfl (Or.inl rfl) (ou (aA bD (aA bD (aA cC (pv 6) ao) ao) (aW aZ rfl T.b_len Tw.dg (aa (pv 1) aj)))))
  (aq (cA PassesOwn.never rfl (cI (bH cR (aY (aa (aY (aa ao aj)) (aa (aY (aa ao (aa ao aj))) aj))) (aA bz ao (bH cR (pv 1) (pv 7) (fun _ _ => rfl))) (fun _ _ => rfl))) (bc (i := 8) gb.nd rfl (Or.inl rfl)) (az (aX (eU (fZ (aB T.D_law_refused (dm T B) (by decide) hr aL rfl (aa (pv 8) (aa (pv 2) (aa (pv 4) (aa (pv 7) (aa (aA bD (pv 6) ao) (aa ao aj))))))))) (az (aC fG)) aJ)))
  (az (aX (aM cM (aB T.D_law_told (mX T B) (by decide) hr iT rfl (aa (aA bz ao (bH cR (pv 1) (pv 7) (fun _ _ => rfl))) (aa (pv 2) (aa (pv 4) (aa (pv 7) (aa ao aj)))))) (pv 7) (aP _)) (az (aC fG)) aJ)))))
  (aq (aF (i := 9) gb.nd rfl (Or.inl rfl) (ou (aA bz (aW aZ rfl T.b_len Tw.dg (aa (pv 1) aj)) ao)))
  (aq (aX (PW.pt (rZ (aM mV (aB T.D_closing (gZ T B) (by decide) hr iT rfl (aa (pv 2) (aa (pv 4) (aa ao aj)))) (pv 9) (aP _)) (rO (aM mV (aB T.D_opening (jK T B) (by decide) hr iT rfl (aa (pv 2) (aa (pv 4) (aa (pv 9) aj)))) ao (aP _))))) (az (aC fG)) aJ)
  (az (aC (oE (dJ cM (aB T.D_further_out (jg T B) (by decide) hr iT rfl (aa (pv 2) (aa (pv 4) (aa ao (aa ao aj))))) ao (aP _)) (oO (dJ cM (aB T.D_height (fc T) (by decide) hr iT rfl (aa (pv 2) (aa (pv 4) (aa (pv 9) aj)))) ao (aP _)))))))))))))))), ?_⟩
 have nn := B.N_heap_look_law_look_of
 refine ⟨_, rfl, sa, zs, rfl, hS, hl, fun b H1 ns hb0 sm1 hb htr hbt hn => ?_⟩
 have ern : (ns.map V.int).length = ns.length := List.length_map ..
 have h2 := htr.1
 refine ⟨_, rfl, _, rfl, b, sa, ns, zs, rfl, hb, sm1.seq hS, htr, hbt, hn, fun H2 s2 => ⟨true, rfl, cW ?_⟩⟩
 have a2 := sm1.trans s2
 have hS2 := a2.seq hS
 have hTh2 := TabAt.same hTh a2
 have hT2 := TabAt.same hT a2
 have xb2 := s2 _ _ hb
 refine ⟨fun σ X => σ = [some (.ref sa), some (.ref b), none, none, none, none, none, none, none, none] ∧ Qs a.tP_heap_look a.tP_law_look_of H2 X, ?_, ?_⟩
 ·refine ⟨_, rfl, sa, zs, 0, rfl, hS2, _, _, rfl, rfl, (by show (0 : Int) < 16; decide), rfl, _, rfl, aV (fun _ => ?_) fun _ => cW ⟨rfl, fun _ _ e _ _ => e, hTh2, hT2⟩⟩
  exact ⟨rfl, hTh2, hT2, fun H' q' => ⟨true, rfl, cW ⟨rfl, q'⟩⟩⟩
 rintro σ X ⟨rfl, kX, hThX, hTX⟩
 have gX : ∀ {b : Addr} {o : HO}, H2 b = some o → (∀ ps, o ≠ .tbl ps) → X b = some o := fun e n => kX _ _ e (TabAt.ne hTh2 e n) (TabAt.ne hT2 e n)
 have hSX : SqL K X sa (zs.map V.int) := by
  rcases hS2 with (e | ⟨o, e⟩) | e
  ·exact .inl (.inl (gX e nofun))
  ·exact .inl (.inr ⟨o, gX e nofun⟩)
  ·exact .inr e
 have xbX := gX xb2 nofun
 refine ⟨_, rfl, b, _, rfl, .inl (SqL.of xbX), fun c hc => ?_⟩
 have s3 := au hc (.lst (ns.map V.int))
 have xc : upd X c (.lst (ns.map V.int)) c = some (.lst (ns.map V.int)) := ak
 refine ⟨c, ns, rfl, SqL.of xc, .inl ⟨by omega, hbt, htr, fun r t ah nd bl lows S xs H4 hbl hr0 ht0 s4 xr kb => ?_⟩⟩
 refine ⟨r, _, rfl, SqT.of xr, rfl, _, _, rfl, _, _, rfl, rfl, ?_⟩
 have s34 := s3.trans s4
 refine ⟨_, rfl, bl, _, rfl, kb.bls, TabAt.same hTX s34, fun f H5 nf b5 hT5 A5 => ?_⟩
 have hB := Brk.make nn kb hbt (by omega) (TabAt.same hThX s34) (TabAt.same hTX s34) b5 A5
 obtain ⟨p, hp⟩ : ∃ p : BP, p = ⟨t, ⟨f, none, bl, 0, (cZ ns).map V.int⟩, ah, nd, ns, lows, S, xs⟩ := ⟨_, rfl⟩
 have ew : p.L.wr = none := by rw [hp]
 have et : p.t = t := by rw [hp]
 have ef : p.L.f = f := by rw [hp]
 have en : p.ns = ns := by rw [hp]
 rw [← hp] at hB
 clear hp
 have g5 : ∀ {b : Addr} {o : HO}, X b = some o → (∀ ps, o ≠ .tbl ps) → H5 b = some o ∧ b ≠ a.tP_heap_look := fun e n => ⟨b5 _ _ (s34 _ _ e) (TabAt.ne hTX e n), TabAt.ne hThX e n⟩
 have fS : ∀ {Y : Hp}, Qt a.tP_heap_look H5 Y → SqL K Y sa (zs.map V.int) := fun k => by
  rcases hSX with (e | ⟨o, e⟩) | e
  ·obtain ⟨e1, e2⟩ := g5 e nofun
   exact .inl (.inl (k.1 _ _ e1 e2))
  ·obtain ⟨e1, e2⟩ := g5 e nofun
   exact .inl (.inr ⟨o, k.1 _ _ e1 e2⟩)
  ·exact .inr e
 have fb : ∀ {Y : Hp}, Qt a.tP_heap_look H5 Y → Y b = some (.lst (ns.map V.int)) := fun k => by
  obtain ⟨e1, e2⟩ := g5 xbX nofun
  exact k.1 _ _ e1 e2
 have q5 : Qt a.tP_heap_look H5 H5 := ⟨fun _ _ e _ => e, hB.tab⟩
 rw [← et, ← ef]
 rw [← en] at htr
 refine ⟨fun v Y => Qt a.tP_heap_look H5 Y ∧ ∃ far : Int, v = .int far ∧ 0 < far, ?_, ?_⟩
 ·refine ⟨_, rfl, sa, zs, 0, rfl, fS q5, _, _, rfl, rfl, ⟨by decide, by decide⟩, ?_⟩
  refine ⟨_, _, rfl, rfl, ⟨by decide, by decide, by decide⟩, (by show 3 ≤ sizeLine; decide), fun l1 hl1 => ?_⟩
  have t1 := au hl1 (.lst [.int 10, .int 2000, .int (10 ^ (60 : Int).toNat)])
  refine ⟨_, rfl, sa, zs, 0, rfl, t1.seq (fS q5), _, _, rfl, rfl, (by show (0 : Int) < 3; decide), ?_⟩
  generalize (zs[0]?).getD 0 = zi
  obtain ⟨m, hm, hm0⟩ : ∃ m : Int, atI [V.int 10, .int 2000, .int (10 ^ (60 : Int).toNat)] (zi % 3) = some (.int m) ∧ 0 < m := by
   rcases (show zi % 3 = 0 ∨ zi % 3 = 1 ∨ zi % 3 = 2 by omega) with e | e | e <;> rw [e]
   ·exact ⟨10, rfl, by decide⟩
   ·exact ⟨2000, rfl, by decide⟩
   ·exact ⟨10 ^ (60 : Int).toNat, rfl, by decide⟩
  have e1 := Int.emod_nonneg (zi / 3) (show m ≠ 0 by omega)
  exact ⟨l1, _, _, _, rfl, rfl, SqL.of ak, hm, _, _, rfl, rfl, hm0, _, _, rfl, rfl, q5.same t1, _, rfl, by omega⟩
 rintro v X6 ⟨q6, far, rfl, hfar⟩
 refine ⟨_, rfl, _, rfl, _, rfl, _, rfl, sa, zs, 1, rfl, fS q6, _, _, rfl, rfl, ⟨by decide, by decide, by decide⟩, _, _, rfl, rfl, (by show (0 : Int) < 10 ^ (60 : Int).toNat; decide), p, far, _, rfl, hB.qt ew q6, ew, htr, hfar, fun X7 q7' => ⟨true, rfl, cW ?_⟩⟩
 have q7 := q6.trans q7'
 refine ⟨_, rfl, _, rfl, sa, _, rfl, fS q7, fun lz hlz => ⟨lz, rfl, ⟨_, SqL.of ak⟩, ?_⟩⟩
 have e10 : j7 (zs.map V.int) none (some 10) = (zs.take 10).map V.int := uY zs 10
 rw [e10]
 have q8 := q7.same (au hlz (.lst ((zs.take 10).map V.int)))
 have xlz : upd X7 lz (.lst ((zs.take 10).map V.int)) lz = some (.lst ((zs.take 10).map V.int)) := ak
 generalize upd X7 lz (.lst ((zs.take 10).map V.int)) = X8 at *
 have nlz : lz ≠ a.tP_heap_look := TabAt.ne q8.2 xlz nofun
 refine cj (xs := (zs.take 10).map V.int) (fun i σ Y => (∃ k6 k7 k8, σ = [some (.ref sa), some (.ref b), some (.ref p.t), some (.ref bl), some (.ref p.L.f), some (.int far), k6, k7, k8, none]) ∧ Qt a.tP_heap_look H5 Y ∧ Y lz = some (.lst ((zs.take 10).map V.int))) ⟨⟨none, none, none, rfl⟩, q8, xlz⟩ ?_ ?_ ?_
 ·rintro i σ Y _ ⟨_, _, x⟩
  exact SqL.of x
 ·rintro i x σ Y hx ⟨⟨k6, k7, k8, rfl⟩, qY, yz⟩
  obtain ⟨z, hz, rfl⟩ := int_at hx
  refine ⟨fun v Z => Y = Z ∧ ∃ n : Nat, v = .int (n : Int) ∧ n < ns.length, ?_, ?_⟩
  ·refine ⟨_, rfl, _, _, rfl, rfl, .inr ⟨by decide, by decide⟩, _, _, rfl, rfl, (by show (0 : Int) < 65537; decide), _, rfl, b, _, rfl, .inl (SqL.of (fb qY)), _, _, rfl, rfl, (by show (0 : Int) < (((ns.map V.int).length : Nat) : Int); omega), rfl, ?_⟩
   obtain ⟨k, e, hk⟩ := atR (ns.map V.int).length (z * 48271 % 65537) (by omega)
   exact ⟨k, congrArg V.int e, by omega⟩
  rintro v Y' ⟨rfl, at0, rfl, hat⟩
  have hx0 := List.getElem?_eq_getElem hat
  have hx1 := hbt _ (List.getElem_mem hat)
  generalize ns[at0] = x at *
  refine ⟨(by show 1 ≤ sizeLine; decide), fun l1 hl1 => ?_⟩
  have t1 := au hl1 (.lst [.int 5])
  have x1 : upd Y l1 (.lst [.int 5]) l1 = some (.lst ([5].map V.int)) := ak
  generalize upd Y l1 (.lst [.int 5]) = Y1 at *
  refine ⟨(by show 2 ≤ sizeLine; decide), fun l2 hl2 => ?_⟩
  have t2 := au hl2 (.lst [.int 4, .int 6])
  have x2 : upd Y1 l2 (.lst [.int 4, .int 6]) l2 = some (.lst ([4, 6].map V.int)) := ak
  have x1 := t2 _ _ x1
  generalize upd Y1 l2 (.lst [.int 4, .int 6]) = Y2 at *
  refine ⟨(by show 2 ≤ sizeLine; decide), fun l3 hl3 => ?_⟩
  have t3 := au hl3 (.lst [.ref l1, .ref l2])
  have x3 : upd Y2 l3 (.lst [.ref l1, .ref l2]) l3 = some (.lst [.ref l1, .ref l2]) := ak
  have x1 := t3 _ _ x1
  have x2 := t3 _ _ x2
  have t13 := t1.trans (t2.trans t3)
  have q9 := qY.same t13
  have yz9 := t13 _ _ yz
  generalize upd Y2 l3 (.lst [.ref l1, .ref l2]) = Y3 at *
  obtain ⟨lw, ws, e1, e2, hws⟩ : ∃ (lw : Addr) (ws : List Int), atI [V.ref l1, V.ref l2] (1 - x) = some (.ref lw) ∧ Y3 lw = some (.lst (ws.map V.int)) ∧ ∀ w ∈ ws, Ae w (at0 : Int) p.ns := by
   rcases hx1 with rfl | rfl
   ·refine ⟨l2, [4, 6], rfl, x2, fun w hw => ?_⟩
    simp only [List.mem_cons, List.not_mem_nil, or_false] at hw
    exact ⟨at0, rfl, .inr ⟨hw, by rw [en]; exact hx0⟩⟩
   ·refine ⟨l1, [5], rfl, x1, fun w hw => ?_⟩
    rw [List.mem_singleton.mp hw]
    exact ⟨at0, rfl, .inl ⟨rfl, by rw [en]; exact hx0⟩⟩
  have nlw : lw ≠ a.tP_heap_look := TabAt.ne q9.2 e2 nofun
  refine ⟨_, rfl, _, rfl, b, _, _, _, rfl, rfl, SqL.of (fb q9), j8 hx0, _, _, rfl, rfl, l3, _, _, _, rfl, rfl, SqL.of x3, e1, lw, rfl, ⟨_, SqL.of e2⟩, ?_⟩
  refine cj (xs := ws.map V.int) (fun j σ W => (∃ k8, σ = [some (.ref sa), some (.ref b), some (.ref p.t), some (.ref bl), some (.ref p.L.f), some (.int far), some (.int z), some (.int (at0 : Int)), k8, none]) ∧ Qt a.tP_heap_look H5 W ∧ W lz = some (.lst ((zs.take 10).map V.int)) ∧ W lw = some (.lst (ws.map V.int))) ⟨⟨_, rfl⟩, q9, yz9, e2⟩ ?_ ?_ ?_
  ·rintro j σ W _ ⟨_, _, _, x⟩
   exact SqL.of x
  ·rintro j v σ W hv ⟨⟨k8, rfl⟩, qW, wz, ww⟩
   obtain ⟨w, hw, rfl⟩ := int_at hv
   exact ⟨_, rfl, _, rfl, _, rfl, _, rfl, _, rfl, _, _, rfl, rfl, (by show (0 : Int) < 3; decide), p, w, (at0 : Int), z % 3, 4, rfl, hB.qt ew qW, ew, htr, .inr ⟨rfl, hws w (List.mem_of_getElem? hw)⟩, fun H' q' => ⟨true, rfl, cW ⟨⟨_, rfl⟩, qW.trans q', q'.1 _ _ wz nlz, q'.1 _ _ ww nlw⟩⟩⟩
  ·rintro σ W ⟨⟨k8, rfl⟩, qW, wz, _⟩
   have hBW := hB.qt ew qW
   refine ⟨_, rfl, _, rfl, b, _, _, _, rfl, rfl, SqL.of (fb qW), j8 hx0, _, _, rfl, rfl, _, rfl, _, rfl, _, rfl, p, 5 - x, (at0 : Int), 0, rfl, hBW, ew, htr, ?_⟩
   have fin : ∀ (k : Nat) (H' : Hp), k ≠ at0 → Qt a.tP_heap_look W H' → ∃ kk, V.bl (decide (V.int (k : Int) = V.int (at0 : Int))) = V.bl kk ∧ kk = false := fun k H' h _ => ⟨_, rfl, decide_eq_false (fun z => h (by have := V.int.inj z; omega))⟩
   rcases hx1 with rfl | rfl
   ·refine .inr (.inl ⟨at0, rfl, rfl, by rw [en]; exact hx0, fun k H' hk q' => ⟨_, rfl, rfl, _, rfl, ?_⟩⟩)
    rw [decide_eq_false (fun z => by have := V.int.inj z; omega)]
    exact cW ⟨⟨_, _, _, rfl⟩, qW.trans q', q'.1 _ _ wz nlz⟩
   ·refine .inl ⟨at0, rfl, rfl, by rw [en]; exact hx0, fun k H' hk q' => ⟨_, rfl, rfl, _, rfl, ?_⟩⟩
    rw [decide_eq_false (fun z => by have := V.int.inj z; omega)]
    exact cW ⟨⟨_, _, _, rfl⟩, qW.trans q', q'.1 _ _ wz nlz⟩
 ·rintro σ Y ⟨⟨k6, k7, k8, rfl⟩, qY, _⟩
  have hBY := hB.qt ew qY
  obtain ⟨u0, u1, u2⟩ := wQ (by rw [← en]; exact htr) hbt
  rw [← en] at u0 u1 u2
  have hpl : p.ns.length = ns.length := by rw [en]
  have el : (((ns.map V.int).length : Nat) : Int) - 1 = ((p.ns.length - 1 : Nat) : Int) := by omega
  refine ⟨fun v Z => Y = Z ∧ v = .int ((p.ns.length - 1 : Nat) : Int), ⟨_, rfl, b, _, rfl, .inl (SqL.of (fb qY)), _, _, rfl, rfl, rfl, congrArg V.int el⟩, ?_⟩
  rintro v Z ⟨rfl, rfl⟩
  refine ⟨_, rfl, _, rfl, p, [], ((0 : Nat) : Int), rfl, hBY, by simp, htr, .inl ⟨0, rfl, u0, fun k1 ss1 Y1 f1 d1 => ?_⟩⟩
  have e1 : k1 = p.ns.length - 1 := by
   obtain ⟨c1, c2, c3, c4⟩ := f1
   rw [eX] at c3
   rcases Nat.lt_or_ge (k1 + 1) p.ns.length with z | z
   ·have := htr.2.2 (k1 + 1) (by omega) z
    omega
   ·omega
  subst e1
  have qY1 := qY.trans (d1.qt ew)
  refine ⟨_, rfl, rfl, _, rfl, lu rfl ?_⟩
  refine ⟨_, rfl, _, rfl, _, rfl, p, [], ((p.ns.length - 1 : Nat) : Int), rfl, hB.qt ew qY1, by simp, htr, .inl ⟨_, rfl, u1, fun k2 ss2 Y2 f2 d2 => ?_⟩⟩
  have e2 : k2 = 0 := by
   obtain ⟨c1, c2, c3⟩ := f2
   rw [u2] at c2
   rcases Nat.eq_zero_or_pos k2 with z | z
   ·exact z
   ·have := htr.2.2 k2 z (by omega)
    omega
  subst e2
  have qY2 := qY1.trans (d2.qt ew)
  refine ⟨rfl, _, rfl, lu rfl ?_⟩
  refine ⟨_, rfl, _, rfl, p, [], ((0 : Nat) : Int), 0, rfl, hB.qt ew qY2, by simp, htr, .inl ⟨0, rfl, u0, fun x ss3 Y3 hx d3 => ?_⟩⟩
  have ex : x = .int ((0 : Nat) : Int) := by
   rcases hx with ⟨_, e⟩ | ⟨z, _⟩
   ·exact e
   ·exact absurd rfl z
  subst ex
  have qY3 := qY2.trans (d3.qt ew)
  have hB3 := hB.qt ew qY3
  refine ⟨rfl, _, rfl, ir ?_⟩
  refine ⟨_, rfl, _, rfl, _, rfl, p.t, p.L, p.ah, p.ns, [], _, ((p.ns.length - 1 : Nat) : Int), rfl, hB3.ask, .inl ⟨_, rfl, by simp, by omega, fun ss4 Y4 w4 s4 => ⟨rfl, ?_⟩⟩⟩
  rw [u2]
  exact q _
end
theorem Ah {l : PySem.W.OpenLaw} {w : World} {K : PySem.W.Frag} {h : Heap} {mg : Str → Option Value} {fa f0 f1 f2 f3 f4 f5 f6 f7 f8 f9 f10 f11 f12 f13 f14 f15 f16 f17 f18 f19 f20 f21 f22 f23 f24 f25 f26 f27 f28 f29 f30 f31 f32 f33 f34 f35 f36 f37 f38 f39 f40 f41 f42 f43 f44 f45 f46 f47 f48 f49 f50 f51 f52 f53 f54 f55 f56 : Addr} {e0 e1 e2 e3 e4 e5 e6 e7 e8 e9 e10 e11 e12 e13 e14 e15 e16 e17 e18 e19 e20 e21 e22 e23 e24 e25 e26 e27 e28 e29 e30 e31 e33 e34 e35 e36 e37 e38 e39 e40 e41 e42 e43 e44 e45 e46 e47 e49 e50 e51 e52 e53 e54 e55 e56 : FuncData} {od32 an32 od48 an48 : Option Addr} {sl32 sl48 : Array (Option Value)} {oc32 kV32 dc32 pm32 ct32 oc48 kV48 dc48 pm48 ct48 : Value} {tt_BLOCK_BITS tt_MOST_BITS tt_MOST_NUMBERS : Tok} {c_NoBit c_NoNode c_NoOctets c_NoPlace c_NoSign c_NoTree c_NoWord c_TooMany c_Twice c_WoodError : Addr} {tc_heap_look tP_heap_look tc_law_look_of tP_law_look_of : Addr} {to_heap_look to_law_look_of : Value} {td_heap_look td_law_look_of : Option Addr} {tv_heap_look tv_law_look_of : Array Value} {ts_heap_look ts_law_look_of : Array (Option Value)} {qq : Program} {loose : List Str} {mb : Str → Option Value} {mean : ExcName → Option Value} (X : K.In h) (TT : PyProof.Rows.Top qq loose mean mg mb h) (hfa : mg "law" = some (.ref fa))
  (d0 : FI K "packed" oM f0 e0)
  (d1 : FI K "check_row" iV f1 e1)
  (d2 : FI K "block_of" jD f2 e2)
  (d3 : FI K "bit_in" pF f3 e3)
  (d4 : FI K "bits_of" lR f4 e4)
  (d5 : FI K "ones_in" mC f5 e5)
  (d6 : FI K "nets_of" lK f6 e6)
  (d7 : FI K "low_in" oN f7 e7)
  (d8 : FI K "first_low_in" fu f8 e8)
  (d9 : FI K "last_low_in" gm f9 e9)
  (d10 : FI K "heap_of" lV f10 e10)
  (d11 : FI K "size_of" lW f11 e11)
  (d12 : FI K "lesser_of" jj f12 e12)
  (d13 : FI K "least_of" jJ f13 e13)
  (d14 : FI K "first_at_most" dX f14 e14)
  (d15 : FI K "last_at_most" fO f15 e15)
  (d16 : FI K "place_beneath" eG f16 e16)
  (d17 : FI K "check_stretch" dZ f17 e17)
  (d18 : FI K "cover" rC f18 e18)
  (d19 : FI K "kept_row" jF f19 e19)
  (d20 : FI K "ahead_of" jH f20 e20)
  (d21 : FI K "check_place" gq f21 e21)
  (d22 : FI K "bit_at" pQ f22 e22)
  (d23 : FI K "ones_at" lH f23 e23)
  (d24 : FI K "is_tree" my f24 e24)
  (d25 : FI K "check_brackets" dF f25 e25)
  (d26 : FI K "kept_brackets" eO f26 e26)
  (d27 : FI K "low_of" oY f27 e27)
  (d28 : FI K "base_of" mO f28 e28)
  (d29 : FI K "start_within" fH f29 e29)
  (d30 : FI K "end_within" iz f30 e30)
  (d31 : FI K "block_count" gk f31 e31)
  (a32 : PySem.W.nsIn K mainGlobals "heap_look" = some (some (.ref f32))) (l32 : K.lookup f32 = some ⟨oc32, od32, .func (PySem.W.fnOf "heap_look" "heap_look" (defArgs bR) (defBody bR) (defScope bR) .none kV32 dc32 pm32 an32 (.ref tc_heap_look) ct32), sl32⟩) (c32 : PySem.W.codeIn K (.ref tc_heap_look) "heap_look" = true) (k32 : PySem.W.keepIn K (.ref f32) = true)
  (tl_heap_look : K.lookup tc_heap_look = some ⟨to_heap_look, td_heap_look, .fields tv_heap_look, ts_heap_look⟩) (tp_heap_look : tv_heap_look[11]? = some (.ref tP_heap_look)) (tr_heap_look : ∃ d, (PyProof.Rows.recsOf qq).find? (fun e => e.name == ("heap_look" : Str)) = some d)
  (d33 : FI K "height" pB f33 e33)
  (d34 : FI K "lowest" oA f34 e34)
  (d35 : FI K "lowest_within" dO f35 e35)
  (d36 : FI K "low_behind" ik f36 e36)
  (d37 : FI K "first_within" fV f37 e37)
  (d38 : FI K "place_of_bit" fK f38 e38)
  (d39 : FI K "low_ahead" ji f39 e39)
  (d40 : FI K "last_low_upto" eF f40 e40)
  (d41 : FI K "last_within" gn f41 e41)
  (d42 : FI K "check_bracket" eE f42 e42)
  (d43 : FI K "closing" mD f43 e43)
  (d44 : FI K "opening" lN f44 e44)
  (d45 : FI K "further_out" gf f45 e45)
  (d46 : FI K "_law_cell_at" gh f46 e46)
  (d47 : FI K "_law_tree_bits" eH f47 e47)
  (a48 : PySem.W.nsIn K mainGlobals "_law_look_of" = some (some (.ref f48))) (l48 : K.lookup f48 = some ⟨oc48, od48, .func (PySem.W.fnOf "_law_look_of" "_law_look_of" (defArgs bF) (defBody bF) (defScope bF) .none kV48 dc48 pm48 an48 (.ref tc_law_look_of) ct48), sl48⟩) (c48 : PySem.W.codeIn K (.ref tc_law_look_of) "_law_look_of" = true) (k48 : PySem.W.keepIn K (.ref f48) = true)
  (tl_law_look_of : K.lookup tc_law_look_of = some ⟨to_law_look_of, td_law_look_of, .fields tv_law_look_of, ts_law_look_of⟩) (tp_law_look_of : tv_law_look_of[11]? = some (.ref tP_law_look_of)) (tr_law_look_of : ∃ d, (PyProof.Rows.recsOf qq).find? (fun e => e.name == ("_law_look_of" : Str)) = some d)
  (d49 : FI K "_law_told" jE f49 e49)
  (d50 : FI K "_law_kinds" iR f50 e50)
  (d51 : FI K "_law_refused" gw f51 e51)
  (d52 : FI K "_law_not_kept" fJ f52 e52)
  (d53 : FI K "_law_places_refused" cB f53 e53)
  (d54 : FI K "_law_rows_refused" cT f54 e54)
  (d55 : FI K "_law_greatest" fD f55 e55)
  (d56 : FI K "law" yw f56 e56)
  (z_ValueError : PySem.W.nsIn K mainGlobals "ValueError" = some none)
  (z_enumerate : PySem.W.nsIn K mainGlobals "enumerate" = some none)
  (z_isinstance : PySem.W.nsIn K mainGlobals "isinstance" = some none)
  (z_len : PySem.W.nsIn K mainGlobals "len" = some none)
  (z_list : PySem.W.nsIn K mainGlobals "list" = some none)
  (z_max : PySem.W.nsIn K mainGlobals "max" = some none)
  (z_min : PySem.W.nsIn K mainGlobals "min" = some none)
  (z_range : PySem.W.nsIn K mainGlobals "range" = some none)
  (z_reversed : PySem.W.nsIn K mainGlobals "reversed" = some none)
  (z_sum : PySem.W.nsIn K mainGlobals "sum" = some none)
  (z_tuple : PySem.W.nsIn K mainGlobals "tuple" = some none)
  (g_BLOCK_BITS : PySem.W.nsIn K mainGlobals "BLOCK_BITS" = some (some (.int 32 tt_BLOCK_BITS)))
  (g_MOST_BITS : PySem.W.nsIn K mainGlobals "MOST_BITS" = some (some (.int 4096 tt_MOST_BITS)))
  (g_MOST_NUMBERS : PySem.W.nsIn K mainGlobals "MOST_NUMBERS" = some (some (.int 4096 tt_MOST_NUMBERS)))
  (q_NoBit : PySem.W.nsIn K mainGlobals "NoBit" = some (some (.ref c_NoBit)))
  (q_NoNode : PySem.W.nsIn K mainGlobals "NoNode" = some (some (.ref c_NoNode)))
  (q_NoOctets : PySem.W.nsIn K mainGlobals "NoOctets" = some (some (.ref c_NoOctets)))
  (q_NoPlace : PySem.W.nsIn K mainGlobals "NoPlace" = some (some (.ref c_NoPlace)))
  (q_NoSign : PySem.W.nsIn K mainGlobals "NoSign" = some (some (.ref c_NoSign)))
  (q_NoTree : PySem.W.nsIn K mainGlobals "NoTree" = some (some (.ref c_NoTree)))
  (q_NoWord : PySem.W.nsIn K mainGlobals "NoWord" = some (some (.ref c_NoWord)))
  (q_TooMany : PySem.W.nsIn K mainGlobals "TooMany" = some (some (.ref c_TooMany)))
  (q_Twice : PySem.W.nsIn K mainGlobals "Twice" = some (some (.ref c_Twice)))
  (q_WoodError : PySem.W.nsIn K mainGlobals "WoodError" = some (some (.ref c_WoodError)))
  (ex_NoBit : PySem.W.excIn K c_NoBit bmV "ValueError.__new__" = true)
  (ed_NoBit : PySem.W.hasDictIn K c_NoBit = true)
  (ega_NoBit : PySem.W.findIn K (.ref c_NoBit) "__getattribute__" = some (some (.builtin "BaseException.__getattribute__")))
  (eng_NoBit : PySem.W.findIn K (.ref c_NoBit) "__getattr__" = some none)
  (ecl_NoBit : PySem.W.findIn K (.ref c_NoBit) "__class__" = some (some (.builtin "object.__class__")))
  (egt_NoBit : PySem.W.specialIn K (.builtin "object.__class__") "__get__" = some (some (.builtin "getset_descriptor.__get__")))
  (etk_NoBit : PySem.W.takesIn K (.builtin "object.__class__") = some true)
  (emo_NoBit : PySem.W.mroIn K c_NoBit (.type "object") = some true)
  (emb_NoBit : PySem.W.mroIn K c_NoBit (.type "BaseException") = some true)
  (i_NoBit_NoBit : PySem.W.kitOne K (.ref c_NoBit) (.ref c_NoBit) = some true)
  (i_NoBit_NoNode : PySem.W.kitOne K (.ref c_NoBit) (.ref c_NoNode) = some false)
  (i_NoBit_NoOctets : PySem.W.kitOne K (.ref c_NoBit) (.ref c_NoOctets) = some false)
  (i_NoBit_NoPlace : PySem.W.kitOne K (.ref c_NoBit) (.ref c_NoPlace) = some false)
  (i_NoBit_NoSign : PySem.W.kitOne K (.ref c_NoBit) (.ref c_NoSign) = some false)
  (i_NoBit_NoTree : PySem.W.kitOne K (.ref c_NoBit) (.ref c_NoTree) = some false)
  (i_NoBit_NoWord : PySem.W.kitOne K (.ref c_NoBit) (.ref c_NoWord) = some false)
  (i_NoBit_TooMany : PySem.W.kitOne K (.ref c_NoBit) (.ref c_TooMany) = some false)
  (i_NoBit_Twice : PySem.W.kitOne K (.ref c_NoBit) (.ref c_Twice) = some false)
  (i_NoBit_WoodError : PySem.W.kitOne K (.ref c_NoBit) (.ref c_WoodError) = some true)
  (i_NoBit_ValueError : PySem.W.kitOne K (.ref c_NoBit) (.type "ValueError") = some true)
  (ex_NoNode : PySem.W.excIn K c_NoNode bmV "ValueError.__new__" = true)
  (ed_NoNode : PySem.W.hasDictIn K c_NoNode = true)
  (ega_NoNode : PySem.W.findIn K (.ref c_NoNode) "__getattribute__" = some (some (.builtin "BaseException.__getattribute__")))
  (eng_NoNode : PySem.W.findIn K (.ref c_NoNode) "__getattr__" = some none)
  (ecl_NoNode : PySem.W.findIn K (.ref c_NoNode) "__class__" = some (some (.builtin "object.__class__")))
  (egt_NoNode : PySem.W.specialIn K (.builtin "object.__class__") "__get__" = some (some (.builtin "getset_descriptor.__get__")))
  (etk_NoNode : PySem.W.takesIn K (.builtin "object.__class__") = some true)
  (emo_NoNode : PySem.W.mroIn K c_NoNode (.type "object") = some true)
  (emb_NoNode : PySem.W.mroIn K c_NoNode (.type "BaseException") = some true)
  (i_NoNode_NoBit : PySem.W.kitOne K (.ref c_NoNode) (.ref c_NoBit) = some false)
  (i_NoNode_NoNode : PySem.W.kitOne K (.ref c_NoNode) (.ref c_NoNode) = some true)
  (i_NoNode_NoOctets : PySem.W.kitOne K (.ref c_NoNode) (.ref c_NoOctets) = some false)
  (i_NoNode_NoPlace : PySem.W.kitOne K (.ref c_NoNode) (.ref c_NoPlace) = some false)
  (i_NoNode_NoSign : PySem.W.kitOne K (.ref c_NoNode) (.ref c_NoSign) = some false)
  (i_NoNode_NoTree : PySem.W.kitOne K (.ref c_NoNode) (.ref c_NoTree) = some false)
  (i_NoNode_NoWord : PySem.W.kitOne K (.ref c_NoNode) (.ref c_NoWord) = some false)
  (i_NoNode_TooMany : PySem.W.kitOne K (.ref c_NoNode) (.ref c_TooMany) = some false)
  (i_NoNode_Twice : PySem.W.kitOne K (.ref c_NoNode) (.ref c_Twice) = some false)
  (i_NoNode_WoodError : PySem.W.kitOne K (.ref c_NoNode) (.ref c_WoodError) = some true)
  (i_NoNode_ValueError : PySem.W.kitOne K (.ref c_NoNode) (.type "ValueError") = some true)
  (ex_NoPlace : PySem.W.excIn K c_NoPlace bmV "ValueError.__new__" = true)
  (ed_NoPlace : PySem.W.hasDictIn K c_NoPlace = true)
  (ega_NoPlace : PySem.W.findIn K (.ref c_NoPlace) "__getattribute__" = some (some (.builtin "BaseException.__getattribute__")))
  (eng_NoPlace : PySem.W.findIn K (.ref c_NoPlace) "__getattr__" = some none)
  (ecl_NoPlace : PySem.W.findIn K (.ref c_NoPlace) "__class__" = some (some (.builtin "object.__class__")))
  (egt_NoPlace : PySem.W.specialIn K (.builtin "object.__class__") "__get__" = some (some (.builtin "getset_descriptor.__get__")))
  (etk_NoPlace : PySem.W.takesIn K (.builtin "object.__class__") = some true)
  (emo_NoPlace : PySem.W.mroIn K c_NoPlace (.type "object") = some true)
  (emb_NoPlace : PySem.W.mroIn K c_NoPlace (.type "BaseException") = some true)
  (i_NoPlace_NoBit : PySem.W.kitOne K (.ref c_NoPlace) (.ref c_NoBit) = some false)
  (i_NoPlace_NoNode : PySem.W.kitOne K (.ref c_NoPlace) (.ref c_NoNode) = some false)
  (i_NoPlace_NoOctets : PySem.W.kitOne K (.ref c_NoPlace) (.ref c_NoOctets) = some false)
  (i_NoPlace_NoPlace : PySem.W.kitOne K (.ref c_NoPlace) (.ref c_NoPlace) = some true)
  (i_NoPlace_NoSign : PySem.W.kitOne K (.ref c_NoPlace) (.ref c_NoSign) = some false)
  (i_NoPlace_NoTree : PySem.W.kitOne K (.ref c_NoPlace) (.ref c_NoTree) = some false)
  (i_NoPlace_NoWord : PySem.W.kitOne K (.ref c_NoPlace) (.ref c_NoWord) = some false)
  (i_NoPlace_TooMany : PySem.W.kitOne K (.ref c_NoPlace) (.ref c_TooMany) = some false)
  (i_NoPlace_Twice : PySem.W.kitOne K (.ref c_NoPlace) (.ref c_Twice) = some false)
  (i_NoPlace_WoodError : PySem.W.kitOne K (.ref c_NoPlace) (.ref c_WoodError) = some true)
  (i_NoPlace_ValueError : PySem.W.kitOne K (.ref c_NoPlace) (.type "ValueError") = some true)
  (ex_NoTree : PySem.W.excIn K c_NoTree bmV "ValueError.__new__" = true)
  (ed_NoTree : PySem.W.hasDictIn K c_NoTree = true)
  (ega_NoTree : PySem.W.findIn K (.ref c_NoTree) "__getattribute__" = some (some (.builtin "BaseException.__getattribute__")))
  (eng_NoTree : PySem.W.findIn K (.ref c_NoTree) "__getattr__" = some none)
  (ecl_NoTree : PySem.W.findIn K (.ref c_NoTree) "__class__" = some (some (.builtin "object.__class__")))
  (egt_NoTree : PySem.W.specialIn K (.builtin "object.__class__") "__get__" = some (some (.builtin "getset_descriptor.__get__")))
  (etk_NoTree : PySem.W.takesIn K (.builtin "object.__class__") = some true)
  (emo_NoTree : PySem.W.mroIn K c_NoTree (.type "object") = some true)
  (emb_NoTree : PySem.W.mroIn K c_NoTree (.type "BaseException") = some true)
  (i_NoTree_NoBit : PySem.W.kitOne K (.ref c_NoTree) (.ref c_NoBit) = some false)
  (i_NoTree_NoNode : PySem.W.kitOne K (.ref c_NoTree) (.ref c_NoNode) = some false)
  (i_NoTree_NoOctets : PySem.W.kitOne K (.ref c_NoTree) (.ref c_NoOctets) = some false)
  (i_NoTree_NoPlace : PySem.W.kitOne K (.ref c_NoTree) (.ref c_NoPlace) = some false)
  (i_NoTree_NoSign : PySem.W.kitOne K (.ref c_NoTree) (.ref c_NoSign) = some false)
  (i_NoTree_NoTree : PySem.W.kitOne K (.ref c_NoTree) (.ref c_NoTree) = some true)
  (i_NoTree_NoWord : PySem.W.kitOne K (.ref c_NoTree) (.ref c_NoWord) = some false)
  (i_NoTree_TooMany : PySem.W.kitOne K (.ref c_NoTree) (.ref c_TooMany) = some false)
  (i_NoTree_Twice : PySem.W.kitOne K (.ref c_NoTree) (.ref c_Twice) = some false)
  (i_NoTree_WoodError : PySem.W.kitOne K (.ref c_NoTree) (.ref c_WoodError) = some true)
  (i_NoTree_ValueError : PySem.W.kitOne K (.ref c_NoTree) (.type "ValueError") = some true)
  (ex_TooMany : PySem.W.excIn K c_TooMany bmV "ValueError.__new__" = true)
  (ed_TooMany : PySem.W.hasDictIn K c_TooMany = true)
  (ega_TooMany : PySem.W.findIn K (.ref c_TooMany) "__getattribute__" = some (some (.builtin "BaseException.__getattribute__")))
  (eng_TooMany : PySem.W.findIn K (.ref c_TooMany) "__getattr__" = some none)
  (ecl_TooMany : PySem.W.findIn K (.ref c_TooMany) "__class__" = some (some (.builtin "object.__class__")))
  (egt_TooMany : PySem.W.specialIn K (.builtin "object.__class__") "__get__" = some (some (.builtin "getset_descriptor.__get__")))
  (etk_TooMany : PySem.W.takesIn K (.builtin "object.__class__") = some true)
  (emo_TooMany : PySem.W.mroIn K c_TooMany (.type "object") = some true)
  (emb_TooMany : PySem.W.mroIn K c_TooMany (.type "BaseException") = some true)
  (i_TooMany_NoBit : PySem.W.kitOne K (.ref c_TooMany) (.ref c_NoBit) = some false)
  (i_TooMany_NoNode : PySem.W.kitOne K (.ref c_TooMany) (.ref c_NoNode) = some false)
  (i_TooMany_NoOctets : PySem.W.kitOne K (.ref c_TooMany) (.ref c_NoOctets) = some false)
  (i_TooMany_NoPlace : PySem.W.kitOne K (.ref c_TooMany) (.ref c_NoPlace) = some false)
  (i_TooMany_NoSign : PySem.W.kitOne K (.ref c_TooMany) (.ref c_NoSign) = some false)
  (i_TooMany_NoTree : PySem.W.kitOne K (.ref c_TooMany) (.ref c_NoTree) = some false)
  (i_TooMany_NoWord : PySem.W.kitOne K (.ref c_TooMany) (.ref c_NoWord) = some false)
  (i_TooMany_TooMany : PySem.W.kitOne K (.ref c_TooMany) (.ref c_TooMany) = some true)
  (i_TooMany_Twice : PySem.W.kitOne K (.ref c_TooMany) (.ref c_Twice) = some false)
  (i_TooMany_WoodError : PySem.W.kitOne K (.ref c_TooMany) (.ref c_WoodError) = some true)
  (i_TooMany_ValueError : PySem.W.kitOne K (.ref c_TooMany) (.type "ValueError") = some true)
  (ex_WoodError : PySem.W.excIn K c_WoodError bmV "ValueError.__new__" = true)
  (ed_WoodError : PySem.W.hasDictIn K c_WoodError = true)
  (ega_WoodError : PySem.W.findIn K (.ref c_WoodError) "__getattribute__" = some (some (.builtin "BaseException.__getattribute__")))
  (eng_WoodError : PySem.W.findIn K (.ref c_WoodError) "__getattr__" = some none)
  (ecl_WoodError : PySem.W.findIn K (.ref c_WoodError) "__class__" = some (some (.builtin "object.__class__")))
  (egt_WoodError : PySem.W.specialIn K (.builtin "object.__class__") "__get__" = some (some (.builtin "getset_descriptor.__get__")))
  (etk_WoodError : PySem.W.takesIn K (.builtin "object.__class__") = some true)
  (emo_WoodError : PySem.W.mroIn K c_WoodError (.type "object") = some true)
  (emb_WoodError : PySem.W.mroIn K c_WoodError (.type "BaseException") = some true)
  (i_WoodError_NoBit : PySem.W.kitOne K (.ref c_WoodError) (.ref c_NoBit) = some false)
  (i_WoodError_NoNode : PySem.W.kitOne K (.ref c_WoodError) (.ref c_NoNode) = some false)
  (i_WoodError_NoOctets : PySem.W.kitOne K (.ref c_WoodError) (.ref c_NoOctets) = some false)
  (i_WoodError_NoPlace : PySem.W.kitOne K (.ref c_WoodError) (.ref c_NoPlace) = some false)
  (i_WoodError_NoSign : PySem.W.kitOne K (.ref c_WoodError) (.ref c_NoSign) = some false)
  (i_WoodError_NoTree : PySem.W.kitOne K (.ref c_WoodError) (.ref c_NoTree) = some false)
  (i_WoodError_NoWord : PySem.W.kitOne K (.ref c_WoodError) (.ref c_NoWord) = some false)
  (i_WoodError_TooMany : PySem.W.kitOne K (.ref c_WoodError) (.ref c_TooMany) = some false)
  (i_WoodError_Twice : PySem.W.kitOne K (.ref c_WoodError) (.ref c_Twice) = some false)
  (i_WoodError_WoodError : PySem.W.kitOne K (.ref c_WoodError) (.ref c_WoodError) = some true)
  (i_WoodError_ValueError : PySem.W.kitOne K (.ref c_WoodError) (.type "ValueError") = some true)
  (nt : PySem.W.noTabs K = true)
  (nn_heap_look_law_look_of : tP_heap_look ≠ tP_law_look_of) :
  ∃ (fd : FuncData) (tabs : List (Addr × Addr)) (sp : Sp), (∀ (s : Shared) (v : Value), BindsTo s fd ⟨[v], []⟩ [("_law_script", v)]) ∧ PySem.W.TabsAt tabs h ∧ PySem.W.noTabs K = true ∧ (∀ base : Heap, K.In base → base.Ns mainGlobals mg → BMain mg base → (∀ q ∈ tabs, PySem.W.CodeHd base q.1 q.2) → bh l.prog w K mg base CX0 12 fa fd ["_law_script"] sp) ∧
   ∀ (H : Hp) (a : Addr) (ns : List Int), ns.length ≤ 63 → SqL K H a (ns.map V.int) → (∀ q ∈ tabs, H q.2 = some (.tbl #[])) → sp [.ref a] H (fun v _ => v = .bl true) fun _ _ _ => False := by
 have G := TT.g
 have e := hfa.symm.trans (PySem.W.mg_of X G d56.a)
 cases e
 obtain ⟨_, _, _, _, _, _, _, _, _, rfl, _, _⟩ := d56.F.ex
 have F32 := vy (st := bR) l32 c32 k32
 have D32 : Df K mg "heap_look" bR ["tables"] _ _ := ⟨F32, F32.binds (ps := ["tables"]) fun _ _ _ _ _ _ us hl => yV (C := fun us => bindArgs _ ⟨us, []⟩ = pure (List.zip (["tables"] : List Str) us)) hl (fun _ => rfl), PySem.W.mg_of X G a32⟩
 have F48 := vy (st := bF) l48 c48 k48
 have D48 : Df K mg "_law_look_of" bF ["_law_blocks"] _ _ := ⟨F48, F48.binds (ps := ["_law_blocks"]) fun _ _ _ _ _ _ us hl => yV (C := fun us => bindArgs _ ⟨us, []⟩ = pure (List.zip (["_law_blocks"] : List Str) us)) hl (fun _ => rfl), PySem.W.mg_of X G a48⟩
 have T : Tx K mg ⟨tc_heap_look, tP_heap_look, tc_law_look_of, tP_law_look_of, _, _, _, _, _, _, _, _, _, _, _, _, _, _, _, _, _, _, _, _, _, _, _, _, _, _, _, _, _, _, _, _, _, _, _, _, _, _, _, _, _, _, _, _, _, _, _, _, _, _, _, _, _, _, _, _, _, _, _, _, _, _, _, _, _, _, _, _, _, _, _, _, _, _, _, _, _, _, _, _, _, _, _, _, _, _, _, _, _, _, _, _, _, _, _, _, _, _, _, _, _, _, _, _, _, _, _, _, _, _, _, _, _, _, _, _, _, c_NoBit, c_NoNode, c_NoOctets, c_NoPlace, c_NoSign, c_NoTree, c_NoWord, c_TooMany, c_Twice, c_WoodError⟩ := ⟨df1 X G d0 fun _ _ _ _ _ _ _ => rfl, df1 X G d1 fun _ _ _ _ _ _ _ => rfl, df1 X G d2 fun _ _ _ _ _ _ _ => rfl, df2 X G d3 fun _ _ _ _ _ _ _ _ => rfl, df2 X G d4 fun _ _ _ _ _ _ _ _ => rfl, df2 X G d5 fun _ _ _ _ _ _ _ _ => rfl, df2 X G d6 fun _ _ _ _ _ _ _ _ => rfl, df2 X G d7 fun _ _ _ _ _ _ _ _ => rfl, df4 X G d8 fun _ _ _ _ _ _ _ _ _ _ => rfl, df4 X G d9 fun _ _ _ _ _ _ _ _ _ _ => rfl, df1 X G d10 fun _ _ _ _ _ _ _ => rfl, df1 X G d11 fun _ _ _ _ _ _ _ => rfl, df2 X G d12 fun _ _ _ _ _ _ _ _ => rfl, df4 X G d13 fun _ _ _ _ _ _ _ _ _ _ => rfl, df4 X G d14 fun _ _ _ _ _ _ _ _ _ _ => rfl, df4 X G d15 fun _ _ _ _ _ _ _ _ _ _ => rfl, df5 X G d16 fun _ _ _ _ _ _ _ _ _ _ _ => rfl, df3 X G d17 fun _ _ _ _ _ _ _ _ _ => rfl, df3 X G d18 fun _ _ _ _ _ _ _ _ _ => rfl, df1 X G d19 fun _ _ _ _ _ _ _ => rfl, df1 X G d20 fun _ _ _ _ _ _ _ => rfl, df2 X G d21 fun _ _ _ _ _ _ _ _ => rfl, df3 X G d22 fun _ _ _ _ _ _ _ _ _ => rfl, df3 X G d23 fun _ _ _ _ _ _ _ _ _ => rfl, df1 X G d24 fun _ _ _ _ _ _ _ => rfl, df1 X G d25 fun _ _ _ _ _ _ _ => rfl, df1 X G d26 fun _ _ _ _ _ _ _ => rfl, df3 X G d27 fun _ _ _ _ _ _ _ _ _ => rfl, df2 X G d28 fun _ _ _ _ _ _ _ _ => rfl, df2 X G d29 fun _ _ _ _ _ _ _ _ => rfl, df2 X G d30 fun _ _ _ _ _ _ _ _ => rfl, df1 X G d31 fun _ _ _ _ _ _ _ => rfl, D32, df3 X G d33 fun _ _ _ _ _ _ _ _ _ => rfl, df4 X G d34 fun _ _ _ _ _ _ _ _ _ _ => rfl, df5 X G d35 fun _ _ _ _ _ _ _ _ _ _ _ => rfl, df4 X G d36 fun _ _ _ _ _ _ _ _ _ _ => rfl, df5 X G d37 fun _ _ _ _ _ _ _ _ _ _ _ => rfl, df2 X G d38 fun _ _ _ _ _ _ _ _ => rfl, df4 X G d39 fun _ _ _ _ _ _ _ _ _ _ => rfl, df4 X G d40 fun _ _ _ _ _ _ _ _ _ _ => rfl, df5 X G d41 fun _ _ _ _ _ _ _ _ _ _ _ => rfl, df4 X G d42 fun _ _ _ _ _ _ _ _ _ _ => rfl, df3 X G d43 fun _ _ _ _ _ _ _ _ _ => rfl, df3 X G d44 fun _ _ _ _ _ _ _ _ _ => rfl, df4 X G d45 fun _ _ _ _ _ _ _ _ _ _ => rfl, df2 X G d46 fun _ _ _ _ _ _ _ _ => rfl, df1 X G d47 fun _ _ _ _ _ _ _ => rfl, D48, df5 X G d49 fun _ _ _ _ _ _ _ _ _ _ _ => rfl, df1 X G d50 fun _ _ _ _ _ _ _ => rfl, df6 X G d51 fun _ _ _ _ _ _ _ _ _ _ _ _ => rfl, df2 X G d52 fun _ _ _ _ _ _ _ _ => rfl, df4 X G d53 fun _ _ _ _ _ _ _ _ _ _ => rfl, df2 X G d54 fun _ _ _ _ _ _ _ _ => rfl, df0 X G d55 fun _ _ _ _ _ _ => rfl, df1 X G d56 fun _ _ _ _ _ _ _ => rfl, PySem.W.mg_none_of X G z_ValueError, PySem.W.mg_none_of X G z_enumerate, PySem.W.mg_none_of X G z_isinstance, PySem.W.mg_none_of X G z_len, PySem.W.mg_none_of X G z_list, PySem.W.mg_none_of X G z_max, PySem.W.mg_none_of X G z_min, PySem.W.mg_none_of X G z_range, PySem.W.mg_none_of X G z_reversed, PySem.W.mg_none_of X G z_sum, PySem.W.mg_none_of X G z_tuple, PySem.W.mg_of X G g_BLOCK_BITS, PySem.W.mg_of X G g_MOST_BITS, PySem.W.mg_of X G g_MOST_NUMBERS, PySem.W.mg_of X G q_NoBit, PySem.W.mg_of X G q_NoNode, PySem.W.mg_of X G q_NoOctets, PySem.W.mg_of X G q_NoPlace, PySem.W.mg_of X G q_NoSign, PySem.W.mg_of X G q_NoTree, PySem.W.mg_of X G q_NoWord, PySem.W.mg_of X G q_TooMany, PySem.W.mg_of X G q_Twice, PySem.W.mg_of X G q_WoodError, ⟨PySem.W.mg_of X G q_NoBit, ex_NoBit⟩, ⟨ed_NoBit, ega_NoBit, eng_NoBit, ecl_NoBit, egt_NoBit, etk_NoBit, emo_NoBit, emb_NoBit⟩, i_NoBit_NoBit, i_NoBit_NoNode, i_NoBit_NoOctets, i_NoBit_NoPlace, i_NoBit_NoSign, i_NoBit_NoTree, i_NoBit_NoWord, i_NoBit_TooMany, i_NoBit_Twice, i_NoBit_WoodError, i_NoBit_ValueError, ⟨PySem.W.mg_of X G q_NoNode, ex_NoNode⟩, ⟨ed_NoNode, ega_NoNode, eng_NoNode, ecl_NoNode, egt_NoNode, etk_NoNode, emo_NoNode, emb_NoNode⟩, i_NoNode_NoBit, i_NoNode_NoNode, i_NoNode_NoOctets, i_NoNode_NoPlace, i_NoNode_NoSign, i_NoNode_NoTree, i_NoNode_NoWord, i_NoNode_TooMany, i_NoNode_Twice, i_NoNode_WoodError, i_NoNode_ValueError, ⟨PySem.W.mg_of X G q_NoPlace, ex_NoPlace⟩, ⟨ed_NoPlace, ega_NoPlace, eng_NoPlace, ecl_NoPlace, egt_NoPlace, etk_NoPlace, emo_NoPlace, emb_NoPlace⟩, i_NoPlace_NoBit, i_NoPlace_NoNode, i_NoPlace_NoOctets, i_NoPlace_NoPlace, i_NoPlace_NoSign, i_NoPlace_NoTree, i_NoPlace_NoWord, i_NoPlace_TooMany, i_NoPlace_Twice, i_NoPlace_WoodError, i_NoPlace_ValueError, ⟨PySem.W.mg_of X G q_NoTree, ex_NoTree⟩, ⟨ed_NoTree, ega_NoTree, eng_NoTree, ecl_NoTree, egt_NoTree, etk_NoTree, emo_NoTree, emb_NoTree⟩, i_NoTree_NoBit, i_NoTree_NoNode, i_NoTree_NoOctets, i_NoTree_NoPlace, i_NoTree_NoSign, i_NoTree_NoTree, i_NoTree_NoWord, i_NoTree_TooMany, i_NoTree_Twice, i_NoTree_WoodError, i_NoTree_ValueError, ⟨PySem.W.mg_of X G q_TooMany, ex_TooMany⟩, ⟨ed_TooMany, ega_TooMany, eng_TooMany, ecl_TooMany, egt_TooMany, etk_TooMany, emo_TooMany, emb_TooMany⟩, i_TooMany_NoBit, i_TooMany_NoNode, i_TooMany_NoOctets, i_TooMany_NoPlace, i_TooMany_NoSign, i_TooMany_NoTree, i_TooMany_NoWord, i_TooMany_TooMany, i_TooMany_Twice, i_TooMany_WoodError, i_TooMany_ValueError, ⟨PySem.W.mg_of X G q_WoodError, ex_WoodError⟩, ⟨ed_WoodError, ega_WoodError, eng_WoodError, ecl_WoodError, egt_WoodError, etk_WoodError, emo_WoodError, emb_WoodError⟩, i_WoodError_NoBit, i_WoodError_NoNode, i_WoodError_NoOctets, i_WoodError_NoPlace, i_WoodError_NoSign, i_WoodError_NoTree, i_WoodError_NoWord, i_WoodError_TooMany, i_WoodError_Twice, i_WoodError_WoodError, i_WoodError_ValueError, rfl, rfl⟩
 obtain ⟨d_heap_look, tr_heap_look⟩ := tr_heap_look
 have tb_heap_look := PySem.W.tab_of TT X tr_heap_look (tM a32 l32 rfl tl_heap_look tp_heap_look)
 obtain ⟨d_law_look_of, tr_law_look_of⟩ := tr_law_look_of
 have tb_law_look_of := PySem.W.tab_of TT X tr_law_look_of (tM a48 l48 rfl tl_law_look_of tp_law_look_of)
 exact ⟨_, [(tc_heap_look, tP_heap_look), (tc_law_look_of, tP_law_look_of)], sp_law K tP_heap_look tP_law_look_of, fun s v => .of_eq rfl, List.forall_mem_cons.mpr ⟨tb_heap_look, List.forall_mem_cons.mpr ⟨tb_law_look_of, fun _ z => nomatch z⟩⟩, nt, fun base _ _ bm hc => Af T ⟨bm, hc _ (.head _), hc _ (.tail _ (.head _)), nn_heap_look_law_look_of⟩, fun H a ns hl hS hTb => wG hS hl (hTb _ (.head _)) (hTb _ (.tail _ (.head _)))⟩
end Tw
namespace Tp
open PySem
noncomputable section
abbrev O := Params → Obj
def sq (l : List Str) : Nat → List Value := @List.rec Str (fun _ => Nat → List Value) (fun _ => []) (fun s _ ih t => Value.str s t :: ih (Nat.add t 1)) l
def ap {α : Type} (a b : List α) : List α := @List.rec α (fun _ => List α) b (fun x _ r => x :: r) a
def tk {α : Type} (l : List α) : Nat → List α := @List.rec α (fun _ => Nat → List α) (fun _ => []) (fun x _ ih n => @Nat.rec (fun _ => List α) [] (fun m _ => x :: ih m) n) l
def mp {α β : Type} (f : α → β) (l : List α) : List β := @List.rec α (fun _ => List β) [] (fun x _ r => f x :: r) l
def ov (l : List O) : List (Nat × O) → List O := @List.rec O (fun _ => List (Nat × O) → List O) (fun _ => []) (fun x _ ih ex => @List.rec (Nat × O) (fun _ => List O) (x :: ih []) (fun e r _ => @Nat.rec (fun _ => List O) (e.2 :: ih r) (fun g _ => x :: ih ((g, e.2) :: r)) e.1) ex) l
def ev (l : List Obj) : Bool → List Obj := @List.rec Obj (fun _ => Bool → List Obj) (fun _ => []) (fun x _ ih b => @Bool.rec (fun _ => List Obj) (ih true) (x :: ih false) b) l
def bt (n : Nat) : List Obj → PySem.W.BT := @Nat.rec (fun _ => List Obj → PySem.W.BT) (fun _ => .nil) (fun _ ih l => @List.rec Obj (fun _ => PySem.W.BT) .nil (fun x xs _ => .node x (ih (ev xs true)) (ih (ev xs false))) l) n
def Z (s : Str) (t : Nat) (v : Value) (P : Params) : DictEntry := .mk (PyData.keyHash P s) (.str s t) v
def E (s : Str) (t r : Nat) (P : Params) : DictEntry := .mk (PyData.keyHash P s) (.str s t) (.ref r)
def gd (l : List (Params → DictEntry)) (n : Nat) (P : Params) : Obj := .mk (.type "dict") none (.dict (mp (fun e => e P) l).toArray n) #[]
def tb (l : List (Nat × Nat)) (P : Params) : Obj := .mk .none none (.fields (@List.rec (Nat × Nat) (fun _ => List Value) [] (fun x _ r => .int (Int.ofNat x.1) 0 :: .int 0 0 :: .ref x.2 :: r) l).toArray) #[]
def h0 (x0 : Nat) (x1 : Nat) (x2 : Nat) (x3 : Str) : List O := [fun P => (.mk (.type "tuple") none (.seq #[(.ref 24)] 0) #[]), fun P => (.mk (.type "builtin_function_or_method") none (.fields #[(.builtin "type.__prepare__"), (.type "type")]) #[]), fun P => (.mk (.type "dict") none (.dict #[(.mk (PyData.keyHash P "__module__") (.str "__module__" (Nat.add x0 7)) (.str "thinwood.errors" 187)), (.mk (PyData.keyHash P "__qualname__") (.str "__qualname__" (Nat.add x0 9)) (.str x3 (Nat.add x0 8))), (.mk (PyData.keyHash P "__firstlineno__") (.str "__firstlineno__" (Nat.add x0 11)) (.int (Int.ofNat x1) (Nat.add x0 10))), (.mk (PyData.keyHash P "__static_attributes__") (.str "__static_attributes__" (Nat.add x0 12)) (.ref (Nat.add x2 7)))] 4) #[]), fun P => (.mk (.type "tuple") none (.seq #[] 0) #[]), fun P => (.mk .none none (.fields #[]) #[]), fun P => (.mk (.type "code") none (.fields #[(.str x3 (Nat.add x0 2)), (.str x3 (Nat.add x0 3)), (.str "/claim/cut.py" (Nat.add x0 4)), (.int (Int.ofNat x1) 0), (.int 0 0), (.int 0 0), (.int 0 0), (.int 0 0), (.ref (Nat.add x2 3)), (.bool .false), (.int 181 0), (.ref (Nat.add x2 4)), .none, .none, .none, .none, (.int (Int.ofNat (Nat.add x0 5)) 0), (.int (Int.ofNat x1) 0), (.str "/claim/cut.py" (Nat.add x0 6))]) #[]), fun P => (.mk (.type "frame") none .plain #[(some (.ref (Nat.add x2 5))), (some (.ref 3)), (some (.ref (Nat.add x2 2))), none, (some (.str "thinwood.errors" 187)), none, (some (.ref 0))]), fun P => (.mk (.type "tuple") none (.seq #[] 0) #[]), fun P => (.mk (.type "dict") none (.dict #[(.mk (PyData.keyHash P "__module__") (.str "__module__" (Nat.add x0 7)) (.str "thinwood.errors" 187)), (.mk (PyData.keyHash P "__firstlineno__") (.str "__firstlineno__" (Nat.add x0 11)) (.int (Int.ofNat x1) (Nat.add x0 10))), (.mk (PyData.keyHash P "__static_attributes__") (.str "__static_attributes__" (Nat.add x0 12)) (.ref (Nat.add x2 7))), (.mk (PyData.keyHash P "__doc__") (.str "__doc__" (Nat.add x0 13)) .none)] 2) #[]), fun P => (.mk (.type "type") none (.cls (.mk x3 [(.ref 24)] [(.ref (Nat.add x2 9)), (.ref 24), (.type "ValueError"), (.type "Exception"), (.type "BaseException"), (.type "object")] (Nat.add x2 8) x3 .true [] [] .false none .false)) #[(some (.ref x2)), none, (some (.str x3 x0)), (some (.str x3 (Nat.add x0 8))), (some (.builtin "ValueError.__new__")), (some (.bool .true))]), fun P => (.mk (.type "super") none (.fields #[(.ref (Nat.add x2 9)), (.ref (Nat.add x2 9)), (.ref (Nat.add x2 9))]) #[]), fun P => (.mk (.type "builtin_function_or_method") none (.fields #[(.builtin "object.__init_subclass__"), (.ref (Nat.add x2 9))]) #[])]
def h1 (x0 : Nat) (x1 : Nat) (x2 : Nat) (x3 : Nat) (x4 : Nat) (x5 : Nat) (x6 : Str) (x7 : Str) : List O := [fun P => (.mk (.type "tuple") none (.seq #[] 0) #[]), fun P => (.mk .none none (.fields #[]) #[]), fun P => (.mk .none none (.func (FuncData.mk x6 x6 (L2.defArgs (Tw.top x0)) (FuncBody.stmts (L2.defBody (Tw.top x0))) (L2.defScope (Tw.top x0)) 0 [] .none .none .none .none none .none .none 0)) #[]), fun P => (.mk (.type "code") none (.fields #[(.str x6 x1), (.str x6 (Nat.add x1 1)), (.str "/claim/cut.py" (Nat.add x1 2)), (.int (Int.ofNat x2) 0), (.int (Int.ofNat x3) 0), (.int 0 0), (.int 0 0), (.int 3 0), (.ref x4), (.bool .true), (.int 181 0), (.ref (Nat.add x4 1)), .none, .none, .none, (.ref (Nat.add x4 2)), (.int (Int.ofNat (Nat.add x1 3)) 0), (.int (Int.ofNat x2) 0), (.str "/claim/cut.py" (Nat.add x1 4))]) #[]), fun P => (.mk (.type "function") none (.func (FuncData.mk x6 x6 (L2.defArgs (Tw.top x0)) (FuncBody.stmts (L2.defBody (Tw.top x0))) (L2.defScope (Tw.top x0)) 3 [] .none .none .none (.str x7 x5) none (.ref (Nat.add x4 3)) .none 0)) #[])]
def h2 (x0 : Nat) (x1 : Nat) (x2 : Nat) (x3 : Nat) (x4 : Nat) (x5 : Nat) (x6 : Nat) (x7 : List Str) (x8 : Str) (x9 : Str) : List O := [fun P => (.mk (.type "tuple") none (.seq #[] 0) #[]), fun P => (.mk .none none (.fields #[]) #[]), fun P => (.mk (.type "tuple") none (.seq (sq x7 (Nat.add x0 3)).toArray 0) #[]), fun P => (.mk (.type "tuple") none (.seq #[] 0) #[]), fun P => (.mk .none none (.func (FuncData.mk x8 x8 (L2.defArgs (Tw.top x1)) (FuncBody.stmts (L2.defBody (Tw.top x1))) (L2.defScope (Tw.top x1)) 0 [] .none .none .none .none none .none .none 0)) #[]), fun P => (.mk (.type "code") none (.fields #[(.str x8 x0), (.str x8 (Nat.add x0 1)), (.str "/claim/cut.py" (Nat.add x0 2)), (.int (Int.ofNat x2) 0), (.int (Int.ofNat x3) 0), (.int 0 0), (.int 0 0), (.int 3 0), (.ref x4), (.bool .true), (.int 181 0), (.ref (Nat.add x4 1)), .none, (.ref (Nat.add x4 2)), (.ref (Nat.add x4 3)), (.ref (Nat.add x4 4)), (.int (Int.ofNat x5) 0), (.int (Int.ofNat x2) 0), (.str "/claim/cut.py" (Nat.add x5 1))]) #[]), fun P => (.mk (.type "function") none (.func (FuncData.mk x8 x8 (L2.defArgs (Tw.top x1)) (FuncBody.stmts (L2.defBody (Tw.top x1))) (L2.defScope (Tw.top x1)) 3 [] .none .none .none (.str x9 x6) none (.ref (Nat.add x4 5)) .none 0)) #[])]
def g0 : List (Params → DictEntry) := [Z "__doc__" 166 .none, Z "__package__" 167 .none, Z "__loader__" 168 (.builtin "__main__.__loader__#opaque"), Z "__spec__" 169 .none, E "__annotations__" 170 6, E "__builtins__" 171 4, Z "__file__" 173 (.str "/claim/cut.py" 172), Z "__cached__" 174 .none, E "WoodError" 206 24, E "TooMany" 222 37]
def g1 : List (Params → DictEntry) := [E "NoBit" 238 49, E "NoPlace" 254 61, E "NoNode" 270 73, E "NoTree" 286 85, E "NoSign" 302 97, E "NoWord" 318 109, E "Twice" 334 121, E "NoOctets" 350 133, Z "BLOCK_BITS" 354 (.int 32 353), Z "MOST_BITS" 356 (.int 4096 355)]
def g2 : List (Params → DictEntry) := [E "packed" 362 140, E "check_row" 370 147, E "block_of" 379 154, E "bit_in" 387 161, E "bits_of" 393 166, E "ones_in" 401 173, E "nets_of" 412 180, E "low_in" 420 187, E "first_low_in" 432 194, E "last_low_in" 445 201]
def g3 : List (Params → DictEntry) := [Z "MOST_NUMBERS" 449 (.int 4096 448), E "heap_of" 459 208, E "size_of" 467 215, E "lesser_of" 475 222, E "least_of" 481 227, E "first_at_most" 492 234, E "last_at_most" 503 241, E "place_beneath" 515 248, E "check_stretch" 524 255, E "cover" 538 262]
def g4 : List (Params → DictEntry) := [E "kept_row" 548 269, E "ahead_of" 557 276, E "check_place" 565 283, E "bit_at" 574 290, E "ones_at" 587 297, E "is_tree" 599 304, E "check_brackets" 606 311, E "kept_brackets" 612 316, E "low_of" 621 323, E "base_of" 629 330]
def g5 : List (Params → DictEntry) := [E "start_within" 637 337, E "end_within" 645 344, E "block_count" 652 351, E "heap_look" 660 358, E "height" 669 365, E "lowest" 682 372, E "lowest_within" 694 379, E "low_behind" 707 386, E "first_within" 720 393, E "place_of_bit" 728 400]
def g6 : List (Params → DictEntry) := [E "low_ahead" 739 407, E "last_low_upto" 752 414, E "last_within" 764 421, E "check_bracket" 774 428, E "closing" 783 435, E "opening" 792 442, E "further_out" 802 449, E "_law_cell_at" 812 456, E "_law_tree_bits" 826 463, E "_law_look_of" 835 470]
def g7 : List (Params → DictEntry) := [E "_law_told" 846 477, E "_law_kinds" 854 484, E "_law_refused" 860 489, E "_law_not_kept" 866 494, E "_law_places_refused" 881 501, E "_law_rows_refused" 895 508, E "_law_greatest" 904 515, E "law" 920 522]
def gg : List (Params → DictEntry) := ap g0 (ap g1 (ap g2 (ap g3 (ap g4 (ap g5 (ap g6 (g7)))))))
def tt : List (Nat × Nat) := [(2, 20), (4, 33), (6, 45), (8, 57), (10, 69), (12, 81), (14, 93), (16, 105), (18, 117), (20, 129), (25, 139), (28, 146), (34, 153), (39, 160), (41, 165), (43, 172), (45, 179), (52, 186), (54, 193), (59, 200), (67, 207), (75, 214), (80, 221), (86, 226), (88, 233), (93, 240), (98, 247), (105, 254), (108, 261), (126, 268), (129, 275), (134, 282), (137, 289), (140, 296), (150, 303), (157, 310), (161, 315), (168, 322), (170, 329), (172, 336), (174, 343), (176, 350), (178, 357), (181, 364), (183, 371), (194, 378), (197, 385), (209, 392), (213, 399), (217, 406), (223, 413), (234, 420), (237, 427), (240, 434), (243, 441), (246, 448), (252, 455), (256, 462), (275, 469), (280, 476), (294, 483), (297, 488), (304, 493), (312, 500), (327, 507), (339, 514), (345, 521)]
def s0 : O := gd (Z "__name__" 165 (.str "law_thinwood_k37_no_such_brackets" 803) :: tk gg 78) 79
def l0 : O := fun P => (.mk (.type "tuple") none (.seq #[] 0) #[])
def s1 : O := tb (tk tt 67)
def l1 : O := fun P => (.mk (.type "code") none (.fields #[(.str "<module>" 182), (.str "<module>" 183), (.str "/claim/cut.py" 184), (.int 1 0), (.int 0 0), (.int 0 0), (.int 0 0), (.int 0 0), (.ref 11), (.bool .false), (.int 181 0), (.ref 12), .none, .none, .none, .none, (.int 185 0), (.int 1 0), (.str "/claim/cut.py" 186)]) #[])
def l2 : O := fun P => (.mk (.type "frame") none .plain #[(some (.ref 13)), (some (.ref 3)), (some (.ref 3)), none, (some (.str "__main__" 164)), none, (some (.ref 0))])
def l3 : O := fun P => (.mk (.type "tuple") none (.seq #[(.type "ValueError")] 0) #[])
def l4 : O := fun P => (.mk (.type "builtin_function_or_method") none (.fields #[(.builtin "type.__prepare__"), (.type "type")]) #[])
def l5 : O := fun P => (.mk (.type "dict") none (.dict #[(.mk (PyData.keyHash P "__module__") (.str "__module__" 196) (.str "thinwood.errors" 187)), (.mk (PyData.keyHash P "__qualname__") (.str "__qualname__" 198) (.str "WoodError" 197)), (.mk (PyData.keyHash P "__firstlineno__") (.str "__firstlineno__" 200) (.int 2 199)), (.mk (PyData.keyHash P "__static_attributes__") (.str "__static_attributes__" 201) (.ref 22))] 4) #[])
def l6 : O := fun P => (.mk .none none (.fields #[]) #[])
def l7 : O := fun P => (.mk (.type "code") none (.fields #[(.str "WoodError" 191), (.str "WoodError" 192), (.str "/claim/cut.py" 193), (.int 2 0), (.int 0 0), (.int 0 0), (.int 0 0), (.int 0 0), (.ref 18), (.bool .false), (.int 181 0), (.ref 19), .none, .none, .none, .none, (.int 194 0), (.int 2 0), (.str "/claim/cut.py" 195)]) #[])
def l8 : O := fun P => (.mk (.type "frame") none .plain #[(some (.ref 20)), (some (.ref 3)), (some (.ref 17)), none, (some (.str "thinwood.errors" 187)), none, (some (.ref 0))])
def l9 : O := fun P => (.mk (.type "dict") none (.dict #[(.mk (PyData.keyHash P "__module__") (.str "__module__" 196) (.str "thinwood.errors" 187)), (.mk (PyData.keyHash P "__firstlineno__") (.str "__firstlineno__" 200) (.int 2 199)), (.mk (PyData.keyHash P "__static_attributes__") (.str "__static_attributes__" 201) (.ref 22)), (.mk (PyData.keyHash P "__weakref__") (.str "__weakref__" 203) (.ref 25)), (.mk (PyData.keyHash P "__doc__") (.str "__doc__" 204) .none)] 3) #[])
def l10 : O := fun P => (.mk (.type "type") none (.cls (.mk "WoodError" [(.type "ValueError")] [(.ref 24), (.type "ValueError"), (.type "Exception"), (.type "BaseException"), (.type "object")] 23 "WoodError" .true [] [(.ref 37), (.ref 49), (.ref 61), (.ref 73), (.ref 85), (.ref 97), (.ref 109), (.ref 121), (.ref 133)] .false none .false)) #[(some (.ref 15)), none, (some (.str "WoodError" 189)), (some (.str "WoodError" 197)), (some (.builtin "ValueError.__new__")), (some (.bool .true))])
def l11 : O := fun P => (.mk (.type "getset_descriptor") none (.fields #[(.str "__weakref__" 202), (.ref 24), (.builtin "ExceptionGroup.__weakref__"), .none]) #[])
def l12 : O := fun P => (.mk (.type "super") none (.fields #[(.ref 24), (.ref 24), (.ref 24)]) #[])
def l13 : O := fun P => (.mk (.type "builtin_function_or_method") none (.fields #[(.builtin "object.__init_subclass__"), (.ref 24)]) #[])
def d1 : List O := h0 207 4 28 "TooMany"
def d2 : List O := h0 223 6 40 "NoBit"
def d3 : List O := h0 239 8 52 "NoPlace"
def d4 : List O := h0 255 10 64 "NoNode"
def d5 : List O := h0 271 12 76 "NoTree"
def d6 : List O := h0 287 14 88 "NoSign"
def d7 : List O := h0 303 16 100 "NoWord"
def d8 : List O := h0 319 18 112 "Twice"
def d9 : List O := h0 335 20 124 "NoOctets"
def d10 : List O := h1 14 357 25 1 136 351 "packed" "thinwood.blocks"
def d11 : List O := h2 363 15 28 1 141 368 351 ["bits", "bit"] "check_row" "thinwood.blocks"
def d12 : List O := h2 371 16 34 1 148 377 351 ["bits", "block", "bit"] "block_of" "thinwood.blocks"
def d13 : List O := h2 380 17 39 2 155 385 351 ["block", "k"] "bit_in" "thinwood.blocks"
def d14 : List O := h1 18 388 41 2 162 351 "bits_of" "thinwood.blocks"
def d15 : List O := h2 394 19 43 2 167 399 351 ["block", "upto"] "ones_in" "thinwood.blocks"
def d16 : List O := h2 402 20 45 2 174 410 351 ["block", "upto", "nets", "net", "bit"] "nets_of" "thinwood.blocks"
def d17 : List O := h2 413 21 52 2 181 418 351 ["block", "upto"] "low_in" "thinwood.blocks"
def d18 : List O := h2 421 22 54 4 188 430 351 ["block", "start", "stop", "goal", "k", "net"] "first_low_in" "thinwood.blocks"
def d19 : List O := h2 433 23 59 4 195 443 351 ["block", "start", "stop", "goal", "found", "k", "net"] "last_low_in" "thinwood.blocks"
def d20 : List O := h2 450 26 67 1 202 457 446 ["numbers", "size", "nodes", "node"] "heap_of" "thinwood.heaps"
def d21 : List O := h2 460 27 75 1 209 465 446 ["many", "size"] "size_of" "thinwood.heaps"
def d22 : List O := h2 468 28 80 2 216 473 446 ["one", "other"] "lesser_of" "thinwood.heaps"
def d23 : List O := h1 29 476 86 4 223 446 "least_of" "thinwood.heaps"
def d24 : List O := h2 482 30 88 4 228 490 446 ["many", "look", "start", "goal", "node"] "first_at_most" "thinwood.heaps"
def d25 : List O := h2 493 31 93 4 235 501 446 ["many", "look", "stop", "goal", "node"] "last_at_most" "thinwood.heaps"
def d26 : List O := h2 504 32 98 5 242 513 446 ["size", "look", "node", "goal", "side", "found"] "place_beneath" "thinwood.heaps"
def d27 : List O := h2 516 33 105 3 249 522 446 ["many", "start", "stop"] "check_stretch" "thinwood.heaps"
def d28 : List O := h2 525 34 108 3 256 536 446 ["many", "start", "stop", "size", "low", "high", "lefts", "rights"] "cover" "thinwood.heaps"
def d29 : List O := h2 541 36 126 1 263 546 539 ["bits", "blocks"] "kept_row" "thinwood.rows"
def d30 : List O := h2 549 37 129 1 270 555 539 ["blocks", "ahead", "block"] "ahead_of" "thinwood.rows"
def d31 : List O := h2 558 38 134 2 277 563 539 ["at", "most"] "check_place" "thinwood.rows"
def d32 : List O := h2 566 39 137 3 284 572 539 ["tables", "look", "at"] "bit_at" "thinwood.rows"
def d33 : List O := h2 575 40 140 3 291 585 539 ["tables", "look", "at", "many", "ahead", "number", "within"] "ones_at" "thinwood.rows"
def d34 : List O := h2 590 42 150 1 298 597 588 ["bits", "level", "at", "bit"] "is_tree" "thinwood.brackets"
def d35 : List O := h2 600 43 157 1 305 604 588 ["bits"] "check_brackets" "thinwood.brackets"
def d36 : List O := h1 44 607 161 1 312 588 "kept_brackets" "thinwood.brackets"
def d37 : List O := h2 613 45 168 3 317 619 588 ["tables", "number", "block"] "low_of" "thinwood.brackets"
def d38 : List O := h2 622 46 170 2 324 627 588 ["tables", "number"] "base_of" "thinwood.brackets"
def d39 : List O := h2 630 47 172 2 331 635 588 ["number", "at"] "start_within" "thinwood.brackets"
def d40 : List O := h2 638 48 174 2 338 643 588 ["number", "upto"] "end_within" "thinwood.brackets"
def d41 : List O := h2 646 49 176 1 345 650 588 ["tables"] "block_count" "thinwood.brackets"
def l14 : O := fun P => (.mk (.type "tuple") none (.seq #[(.str "tables" 656)] 0) #[])
def l15 : O := fun P => (.mk (.type "tuple") none (.seq #[(.str "nodes" 657)] 0) #[])
def l16 : O := fun P => (.mk .none none (.func (FuncData.mk "heap_look" "heap_look" (L2.defArgs (Tw.top 50)) (FuncBody.stmts (L2.defBody (Tw.top 50))) (L2.defScope (Tw.top 50)) 0 [] .none .none .none .none none .none .none 0)) #[])
def l17 : O := fun P => (.mk (.type "code") none (.fields #[(.str "heap_look" 653), (.str "heap_look" 654), (.str "/claim/cut.py" 655), (.int 178 0), (.int 1 0), (.int 0 0), (.int 0 0), (.int 3 0), (.ref 352), (.bool .true), (.int 181 0), (.ref 353), .none, (.ref 354), (.ref 355), (.ref 356), (.int 658 0), (.int 178 0), (.str "/claim/cut.py" 659)]) #[])
def l18 : O := fun P => (.mk (.type "function") none (.func (FuncData.mk "heap_look" "heap_look" (L2.defArgs (Tw.top 50)) (FuncBody.stmts (L2.defBody (Tw.top 50))) (L2.defScope (Tw.top 50)) 3 [] .none .none .none (.str "thinwood.brackets" 588) none (.ref 357) .none 0)) #[])
def d43 : List O := h2 661 51 181 3 359 667 588 ["tables", "look", "at"] "height" "thinwood.brackets"
def d44 : List O := h2 670 52 183 4 366 680 588 ["tables", "look", "at", "upto", "first", "last", "lows"] "lowest" "thinwood.brackets"
def d45 : List O := h2 683 53 194 5 373 692 588 ["tables", "look", "number", "at", "upto", "nets"] "lowest_within" "thinwood.brackets"
def d46 : List O := h2 695 54 197 4 380 705 588 ["tables", "look", "at", "goal", "number", "found", "further"] "low_behind" "thinwood.brackets"
def d47 : List O := h2 708 55 209 5 387 718 588 ["tables", "look", "number", "at", "goal", "start", "stop"] "first_within" "thinwood.brackets"
def d48 : List O := h2 721 56 213 2 394 726 588 ["number", "within"] "place_of_bit" "thinwood.brackets"
def d49 : List O := h2 729 57 217 4 401 737 588 ["tables", "look", "at", "goal", "found"] "low_ahead" "thinwood.brackets"
def d50 : List O := h2 740 58 223 4 408 750 588 ["tables", "look", "upto", "goal", "number", "found", "further"] "last_low_upto" "thinwood.brackets"
def d51 : List O := h2 753 59 234 5 415 762 588 ["tables", "look", "number", "upto", "goal", "stop"] "last_within" "thinwood.brackets"
def d52 : List O := h2 765 60 237 4 422 772 588 ["tables", "look", "at", "bit"] "check_bracket" "thinwood.brackets"
def d53 : List O := h2 775 61 240 3 429 781 588 ["tables", "look", "at"] "closing" "thinwood.brackets"
def d54 : List O := h2 784 62 243 3 436 790 588 ["tables", "look", "at"] "opening" "thinwood.brackets"
def d55 : List O := h2 793 63 246 4 443 800 588 ["tables", "look", "at", "pairs"] "further_out" "thinwood.brackets"
def d56 : List O := h2 805 65 252 2 450 810 803 ["_law_script", "_law_k"] "_law_cell_at" "law_thinwood_k37_no_such_brackets"
def d57 : List O := h2 813 66 256 1 457 824 803 ["_law_script", "_law_bits", "_law_high", "_law_cell", "_law_rest", "_law_ups", "_law_flat", "_law_downs"] "_law_tree_bits" "law_thinwood_k37_no_such_brackets"
def l19 : O := fun P => (.mk (.type "tuple") none (.seq #[(.str "_law_blocks" 830), (.str "_law_look" 831)] 0) #[])
def l20 : O := fun P => (.mk (.type "tuple") none (.seq #[(.str "_law_blocks" 832)] 0) #[])
def l21 : O := fun P => (.mk .none none (.func (FuncData.mk "_law_look_of" "_law_look_of" (L2.defArgs (Tw.top 67)) (FuncBody.stmts (L2.defBody (Tw.top 67))) (L2.defScope (Tw.top 67)) 0 [] .none .none .none .none none .none .none 0)) #[])
def l22 : O := fun P => (.mk (.type "code") none (.fields #[(.str "_law_look_of" 827), (.str "_law_look_of" 828), (.str "/claim/cut.py" 829), (.int 275 0), (.int 1 0), (.int 0 0), (.int 0 0), (.int 3 0), (.ref 464), (.bool .true), (.int 181 0), (.ref 465), .none, (.ref 466), (.ref 467), (.ref 468), (.int 833 0), (.int 275 0), (.str "/claim/cut.py" 834)]) #[])
def l23 : O := fun P => (.mk (.type "function") none (.func (FuncData.mk "_law_look_of" "_law_look_of" (L2.defArgs (Tw.top 67)) (FuncBody.stmts (L2.defBody (Tw.top 67))) (L2.defScope (Tw.top 67)) 3 [] .none .none .none (.str "law_thinwood_k37_no_such_brackets" 803) none (.ref 469) .none 0)) #[])
def d59 : List O := h2 836 68 280 5 471 844 803 ["_law_way", "_law_tables", "_law_look_here", "_law_at", "_law_more"] "_law_told" "law_thinwood_k37_no_such_brackets"
def d60 : List O := h2 847 69 294 1 478 852 803 ["_law_e", "_law_kinds_here"] "_law_kinds" "law_thinwood_k37_no_such_brackets"
def d61 : List O := h1 70 855 297 6 485 803 "_law_refused" "law_thinwood_k37_no_such_brackets"
def d62 : List O := h1 71 861 304 2 490 803 "_law_not_kept" "law_thinwood_k37_no_such_brackets"
def d63 : List O := h2 867 72 312 4 495 879 803 ["_law_tables", "_law_look_here", "_law_far", "_law_goal", "_law_many", "_law_way", "_law_at", "_law_spot", "_law_upto"] "_law_places_refused" "law_thinwood_k37_no_such_brackets"
def d64 : List O := h2 882 73 327 2 502 893 803 ["_law_bits", "_law_script", "_law_turned", "_law_at", "_law_cell", "_law_odd", "_law_spot", "_law_long"] "_law_rows_refused" "law_thinwood_k37_no_such_brackets"
def d65 : List O := h2 896 74 339 0 509 902 803 ["_law_tables", "_law_blocks", "_law_look_here"] "_law_greatest" "law_thinwood_k37_no_such_brackets"
def d66 : List O := h2 905 75 345 1 516 918 803 ["_law_script", "_law_bits", "_law_tables", "_law_blocks", "_law_look_here", "_law_far", "_law_cell", "_law_at", "_law_way", "_law_last"] "law" "law_thinwood_k37_no_such_brackets"
def f0 : List O := ap [PySem.W.boot_o_0, PySem.W.boot_o_1, PySem.W.boot_o_2, s0, PySem.W.boot_o_4, PySem.W.boot_o_5, PySem.W.boot_o_6, PySem.W.boot_o_7, PySem.W.boot_o_8, PySem.W.boot_o_9, PySem.W.boot_o_10, l0, s1, l1, l2, l3, l4, l5, l0, l6, l7, l8, l0, l9, l10, l11, l12, l13] (ap d1 (ap d2 (ap d3 (ap d4 (ap d5 (ap d6 (ap d7 (ap d8 (d9)))))))))
def f1 : List O := ap d10 (ap d11 (ap d12 (ap d13 (ap d14 (ap d15 (ap d16 (ap d17 (ap d18 (d19)))))))))
def f2 : List O := ap d20 (ap d21 (ap d22 (ap d23 (ap d24 (ap d25 (ap d26 (ap d27 (ap d28 (d29)))))))))
def f3 : List O := ap d30 (ap d31 (ap d32 (ap d33 (ap d34 (ap d35 (ap d36 (ap d37 (ap d38 (d39)))))))))
def f4 : List O := ap d40 (ap d41 (ap [l0, l6, l14, l15, l16, l17, l18] (ap d43 (ap d44 (ap d45 (ap d46 (ap d47 (ap d48 (d49)))))))))
def f5 : List O := ap d50 (ap d51 (ap d52 (ap d53 (ap d54 (ap d55 (ap d56 (ap d57 (ap [l0, l6, l19, l20, l21, l22, l23] (d59)))))))))
def f6 : List O := ap d60 (ap d61 (ap d62 (ap d63 (ap d64 (ap d65 (d66))))))
def ff : List O := ap f0 (ap f1 (ap f2 (ap f3 (ap f4 (ap f5 (f6))))))
def s2 : O := gd (Z "__name__" 165 (.str "thinwood.errors" 187) :: tk gg 9) 10
def l24 : O := fun P => (.mk .none none (.fields #[(.int 2 0), (.int 0 0), (.ref 20)]) #[])
def l25 : O := fun P => (.mk (.type "type") none (.cls (.mk "WoodError" [(.type "ValueError")] [(.ref 24), (.type "ValueError"), (.type "Exception"), (.type "BaseException"), (.type "object")] 23 "WoodError" .true [] [] .false none .false)) #[(some (.ref 15)), none, (some (.str "WoodError" 189)), (some (.str "WoodError" 197)), (some (.builtin "ValueError.__new__")), (some (.bool .true))])
def S_tree_63 : Params → PySem.W.BT := fun P => bt 6 (mp (fun x => x P) (ov (tk ff 28) [(3, s2), (8, l24), (11, l25)]))
def s3 : O := gd (Z "__name__" 165 (.str "thinwood.errors" 187) :: tk gg 10) 11
def s4 : O := tb (tk tt 2)
def l26 : O := fun P => (.mk (.type "type") none (.cls (.mk "WoodError" [(.type "ValueError")] [(.ref 24), (.type "ValueError"), (.type "Exception"), (.type "BaseException"), (.type "object")] 23 "WoodError" .true [] [(.ref 37)] .false none .false)) #[(some (.ref 15)), none, (some (.str "WoodError" 189)), (some (.str "WoodError" 197)), (some (.builtin "ValueError.__new__")), (some (.bool .true))])
def S_tree_78 : Params → PySem.W.BT := fun P => bt 7 (mp (fun x => x P) (ov (tk ff 40) [(3, s3), (8, s4), (11, l26)]))
def s5 : O := gd (Z "__name__" 165 (.str "thinwood.errors" 187) :: tk gg 11) 12
def s6 : O := tb (tk tt 3)
def l27 : O := fun P => (.mk (.type "type") none (.cls (.mk "WoodError" [(.type "ValueError")] [(.ref 24), (.type "ValueError"), (.type "Exception"), (.type "BaseException"), (.type "object")] 23 "WoodError" .true [] [(.ref 37), (.ref 49)] .false none .false)) #[(some (.ref 15)), none, (some (.str "WoodError" 189)), (some (.str "WoodError" 197)), (some (.builtin "ValueError.__new__")), (some (.bool .true))])
def S_tree_93 : Params → PySem.W.BT := fun P => bt 7 (mp (fun x => x P) (ov (tk ff 52) [(3, s5), (8, s6), (11, l27)]))
def s7 : O := gd (Z "__name__" 165 (.str "thinwood.errors" 187) :: tk gg 12) 13
def s8 : O := tb (tk tt 4)
def l28 : O := fun P => (.mk (.type "type") none (.cls (.mk "WoodError" [(.type "ValueError")] [(.ref 24), (.type "ValueError"), (.type "Exception"), (.type "BaseException"), (.type "object")] 23 "WoodError" .true [] [(.ref 37), (.ref 49), (.ref 61)] .false none .false)) #[(some (.ref 15)), none, (some (.str "WoodError" 189)), (some (.str "WoodError" 197)), (some (.builtin "ValueError.__new__")), (some (.bool .true))])
def S_tree_108 : Params → PySem.W.BT := fun P => bt 8 (mp (fun x => x P) (ov (tk ff 64) [(3, s7), (8, s8), (11, l28)]))
def s9 : O := gd (Z "__name__" 165 (.str "thinwood.errors" 187) :: tk gg 13) 14
def s10 : O := tb (tk tt 5)
def l29 : O := fun P => (.mk (.type "type") none (.cls (.mk "WoodError" [(.type "ValueError")] [(.ref 24), (.type "ValueError"), (.type "Exception"), (.type "BaseException"), (.type "object")] 23 "WoodError" .true [] [(.ref 37), (.ref 49), (.ref 61), (.ref 73)] .false none .false)) #[(some (.ref 15)), none, (some (.str "WoodError" 189)), (some (.str "WoodError" 197)), (some (.builtin "ValueError.__new__")), (some (.bool .true))])
def S_tree_123 : Params → PySem.W.BT := fun P => bt 8 (mp (fun x => x P) (ov (tk ff 76) [(3, s9), (8, s10), (11, l29)]))
def s11 : O := gd (Z "__name__" 165 (.str "thinwood.errors" 187) :: tk gg 14) 15
def s12 : O := tb (tk tt 6)
def l30 : O := fun P => (.mk (.type "type") none (.cls (.mk "WoodError" [(.type "ValueError")] [(.ref 24), (.type "ValueError"), (.type "Exception"), (.type "BaseException"), (.type "object")] 23 "WoodError" .true [] [(.ref 37), (.ref 49), (.ref 61), (.ref 73), (.ref 85)] .false none .false)) #[(some (.ref 15)), none, (some (.str "WoodError" 189)), (some (.str "WoodError" 197)), (some (.builtin "ValueError.__new__")), (some (.bool .true))])
def S_tree_138 : Params → PySem.W.BT := fun P => bt 8 (mp (fun x => x P) (ov (tk ff 88) [(3, s11), (8, s12), (11, l30)]))
def s13 : O := gd (Z "__name__" 165 (.str "thinwood.errors" 187) :: tk gg 15) 16
def s14 : O := tb (tk tt 7)
def l31 : O := fun P => (.mk (.type "type") none (.cls (.mk "WoodError" [(.type "ValueError")] [(.ref 24), (.type "ValueError"), (.type "Exception"), (.type "BaseException"), (.type "object")] 23 "WoodError" .true [] [(.ref 37), (.ref 49), (.ref 61), (.ref 73), (.ref 85), (.ref 97)] .false none .false)) #[(some (.ref 15)), none, (some (.str "WoodError" 189)), (some (.str "WoodError" 197)), (some (.builtin "ValueError.__new__")), (some (.bool .true))])
def S_tree_153 : Params → PySem.W.BT := fun P => bt 8 (mp (fun x => x P) (ov (tk ff 100) [(3, s13), (8, s14), (11, l31)]))
def s15 : O := gd (Z "__name__" 165 (.str "thinwood.errors" 187) :: tk gg 16) 17
def s16 : O := tb (tk tt 8)
def l32 : O := fun P => (.mk (.type "type") none (.cls (.mk "WoodError" [(.type "ValueError")] [(.ref 24), (.type "ValueError"), (.type "Exception"), (.type "BaseException"), (.type "object")] 23 "WoodError" .true [] [(.ref 37), (.ref 49), (.ref 61), (.ref 73), (.ref 85), (.ref 97), (.ref 109)] .false none .false)) #[(some (.ref 15)), none, (some (.str "WoodError" 189)), (some (.str "WoodError" 197)), (some (.builtin "ValueError.__new__")), (some (.bool .true))])
def S_tree_168 : Params → PySem.W.BT := fun P => bt 8 (mp (fun x => x P) (ov (tk ff 112) [(3, s15), (8, s16), (11, l32)]))
def s17 : O := gd (Z "__name__" 165 (.str "thinwood.errors" 187) :: tk gg 17) 18
def s18 : O := tb (tk tt 9)
def l33 : O := fun P => (.mk (.type "type") none (.cls (.mk "WoodError" [(.type "ValueError")] [(.ref 24), (.type "ValueError"), (.type "Exception"), (.type "BaseException"), (.type "object")] 23 "WoodError" .true [] [(.ref 37), (.ref 49), (.ref 61), (.ref 73), (.ref 85), (.ref 97), (.ref 109), (.ref 121)] .false none .false)) #[(some (.ref 15)), none, (some (.str "WoodError" 189)), (some (.str "WoodError" 197)), (some (.builtin "ValueError.__new__")), (some (.bool .true))])
def S_tree_183 : Params → PySem.W.BT := fun P => bt 8 (mp (fun x => x P) (ov (tk ff 124) [(3, s17), (8, s18), (11, l33)]))
def s19 : O := gd (Z "__name__" 165 (.str "thinwood.blocks" 351) :: tk gg 25) 26
def s20 : O := tb (tk tt 15)
def S_tree_229 : Params → PySem.W.BT := fun P => bt 9 (mp (fun x => x P) (ov (tk ff 167) [(3, s19), (8, s20)]))
def s21 : O := gd (Z "__name__" 165 (.str "thinwood.heaps" 446) :: tk gg 38) 39
def s22 : O := tb (tk tt 27)
def S_tree_313 : Params → PySem.W.BT := fun P => bt 9 (mp (fun x => x P) (ov (tk ff 249) [(3, s21), (8, s22)]))
def s23 : O := gd (Z "__name__" 165 (.str "thinwood.brackets" 588) :: tk gg 50) 51
def s24 : O := tb (tk tt 39)
def S_tree_397 : Params → PySem.W.BT := fun P => bt 10 (mp (fun x => x P) (ov (tk ff 331) [(3, s23), (8, s24)]))
def s25 : O := gd (Z "__name__" 165 (.str "thinwood.brackets" 588) :: tk gg 62) 63
def s26 : O := tb (tk tt 51)
def S_tree_483 : Params → PySem.W.BT := fun P => bt 10 (mp (fun x => x P) (ov (tk ff 415) [(3, s25), (8, s26)]))
def s27 : O := gd (Z "__name__" 165 (.str "law_thinwood_k37_no_such_brackets" 803) :: tk gg 74) 75
def s28 : O := tb (tk tt 63)
def S_tree_565 : Params → PySem.W.BT := fun P => bt 10 (mp (fun x => x P) (ov (tk ff 495) [(3, s27), (8, s28)]))
def S_tree_595 : Params → PySem.W.BT := fun P => bt 11 (mp (fun x => x P) (ff))
def S_heap_596 : Params → Heap := fun P => Heap.mk (Array.mk (mp (fun x => x P) (ff))) (.mk [] [] [] 0 [] [] .false #[] [] 0 .false .false .false 0 [2000, 10, 10] .false 0 .true [] [] 0 .false)
def S_sts_49 : List Stmt := tk (List.drop 0 PySem.Challenge.pw_thinwood_k37_no_such_brackets.main.body) 2
def S_sts_64 : List Stmt := tk (List.drop 2 PySem.Challenge.pw_thinwood_k37_no_such_brackets.main.body) 1
def S_sts_79 : List Stmt := tk (List.drop 3 PySem.Challenge.pw_thinwood_k37_no_such_brackets.main.body) 1
def S_sts_94 : List Stmt := tk (List.drop 4 PySem.Challenge.pw_thinwood_k37_no_such_brackets.main.body) 1
def S_sts_109 : List Stmt := tk (List.drop 5 PySem.Challenge.pw_thinwood_k37_no_such_brackets.main.body) 1
def S_sts_124 : List Stmt := tk (List.drop 6 PySem.Challenge.pw_thinwood_k37_no_such_brackets.main.body) 1
def S_sts_139 : List Stmt := tk (List.drop 7 PySem.Challenge.pw_thinwood_k37_no_such_brackets.main.body) 1
def S_sts_154 : List Stmt := tk (List.drop 8 PySem.Challenge.pw_thinwood_k37_no_such_brackets.main.body) 1
def S_sts_169 : List Stmt := tk (List.drop 9 PySem.Challenge.pw_thinwood_k37_no_such_brackets.main.body) 1
def S_sts_184 : List Stmt := tk (List.drop 10 PySem.Challenge.pw_thinwood_k37_no_such_brackets.main.body) 9
def S_sts_230 : List Stmt := tk (List.drop 19 PySem.Challenge.pw_thinwood_k37_no_such_brackets.main.body) 14
def S_sts_314 : List Stmt := tk (List.drop 33 PySem.Challenge.pw_thinwood_k37_no_such_brackets.main.body) 14
def S_sts_398 : List Stmt := tk (List.drop 47 PySem.Challenge.pw_thinwood_k37_no_such_brackets.main.body) 12
def S_sts_484 : List Stmt := tk (List.drop 59 PySem.Challenge.pw_thinwood_k37_no_such_brackets.main.body) 13
def S_sts_566 : List Stmt := tk (List.drop 72 PySem.Challenge.pw_thinwood_k37_no_such_brackets.main.body) 4
def S_view : Program := { PySem.Challenge.pw_thinwood_k37_no_such_brackets with main := { PySem.Challenge.pw_thinwood_k37_no_such_brackets.main with body := mp Tw.top [1, 2, 3, 4, 5, 6, 7, 8, 9, 10, 12, 13, 14, 15, 16, 17, 18, 19, 20, 21, 22, 23, 25, 26, 27, 28, 29, 30, 31, 32, 33, 34, 36, 37, 38, 39, 40, 42, 43, 44, 45, 46, 47, 48, 49, 50, 51, 52, 53, 54, 55, 56, 57, 58, 59, 60, 61, 62, 63, 65, 66, 67, 68, 69, 70, 71, 72, 73, 74, 75] } }
end
end Tp
theorem PySem.W.Fast.tw14598715356260435866 : True := trivial
lay_quick Tp.g0 Tp.g1 Tp.g2 Tp.g3 Tp.g4 Tp.g5 Tp.g6 Tp.g7 Tp.gg Tp.s0 Tp.l0 Tp.s1 Tp.l1 Tp.l2 Tp.l3 Tp.l4 Tp.l5 Tp.l6 Tp.l7 Tp.l8 Tp.l9 Tp.l10 Tp.l11 Tp.l12 Tp.l13 Tp.d1 Tp.d2 Tp.d3 Tp.d4 Tp.d5 Tp.d6 Tp.d7 Tp.d8 Tp.d9 Tp.d10 Tp.d11 Tp.d12 Tp.d13 Tp.d14 Tp.d15
lay_quick Tp.d16 Tp.d17 Tp.d18 Tp.d19 Tp.d20 Tp.d21 Tp.d22 Tp.d23 Tp.d24 Tp.d25 Tp.d26 Tp.d27 Tp.d28 Tp.d29 Tp.d30 Tp.d31 Tp.d32 Tp.d33 Tp.d34 Tp.d35 Tp.d36 Tp.d37 Tp.d38 Tp.d39 Tp.d40 Tp.d41 Tp.l14 Tp.l15 Tp.l16 Tp.l17 Tp.l18 Tp.d43 Tp.d44 Tp.d45 Tp.d46 Tp.d47 Tp.d48 Tp.d49 Tp.d50 Tp.d51
lay_quick Tp.d52 Tp.d53 Tp.d54 Tp.d55 Tp.d56 Tp.d57 Tp.l19 Tp.l20 Tp.l21 Tp.l22 Tp.l23 Tp.d59 Tp.d60 Tp.d61 Tp.d62 Tp.d63 Tp.d64 Tp.d65 Tp.d66 Tp.f0 Tp.f1 Tp.f2 Tp.f3 Tp.f4 Tp.f5 Tp.f6 Tp.ff Tp.s2 Tp.l24 Tp.l25 Tp.S_tree_63 Tp.s3 Tp.s4 Tp.l26 Tp.S_tree_78 Tp.s5 Tp.s6 Tp.l27 Tp.S_tree_93 Tp.s7
lay_quick Tp.s8 Tp.l28 Tp.S_tree_108 Tp.s9 Tp.s10 Tp.l29 Tp.S_tree_123 Tp.s11 Tp.s12 Tp.l30 Tp.S_tree_138 Tp.s13 Tp.s14 Tp.l31 Tp.S_tree_153 Tp.s15 Tp.s16 Tp.l32 Tp.S_tree_168 Tp.s17 Tp.s18 Tp.l33 Tp.S_tree_183 Tp.s19 Tp.s20 Tp.S_tree_229 Tp.s21 Tp.s22 Tp.S_tree_313 Tp.s23 Tp.s24 Tp.S_tree_397 Tp.s25 Tp.s26 Tp.S_tree_483 Tp.s27 Tp.s28 Tp.S_tree_565 Tp.S_tree_595 Tp.S_heap_596
lay_quick Tp.S_sts_49 Tp.S_sts_64 Tp.S_sts_79 Tp.S_sts_94 Tp.S_sts_109 Tp.S_sts_124 Tp.S_sts_139 Tp.S_sts_154 Tp.S_sts_169 Tp.S_sts_184 Tp.S_sts_230 Tp.S_sts_314 Tp.S_sts_398 Tp.S_sts_484 Tp.S_sts_566 Tp.S_view
namespace Tp
open PySem PySem.W.Fast
noncomputable abbrev _root_.PySem.W.Fast.tw1504139741344919626 : Params → PySem.W.BT := tw11432227658251013801
theorem _root_.PySem.W.Fast.te1504139741344919626 : S_tree_63 = _root_.PySem.W.Fast.tw1504139741344919626 := te11432227658251013801
noncomputable abbrev _root_.PySem.W.Fast.tw8005062247462203124 : Params → PySem.W.BT := tw16269510630359031336
theorem _root_.PySem.W.Fast.te8005062247462203124 : S_tree_78 = _root_.PySem.W.Fast.tw8005062247462203124 := te16269510630359031336
noncomputable abbrev _root_.PySem.W.Fast.tw10435798275586129550 : Params → PySem.W.BT := tw5549918322004914887
theorem _root_.PySem.W.Fast.te10435798275586129550 : S_tree_93 = _root_.PySem.W.Fast.tw10435798275586129550 := te5549918322004914887
noncomputable abbrev _root_.PySem.W.Fast.tw1962110903060548589 : Params → PySem.W.BT := tw10118726668083288838
theorem _root_.PySem.W.Fast.te1962110903060548589 : S_tree_108 = _root_.PySem.W.Fast.tw1962110903060548589 := te10118726668083288838
noncomputable abbrev _root_.PySem.W.Fast.tw8164593885592771745 : Params → PySem.W.BT := tw244363406318419850
theorem _root_.PySem.W.Fast.te8164593885592771745 : S_tree_123 = _root_.PySem.W.Fast.tw8164593885592771745 := te244363406318419850
noncomputable abbrev _root_.PySem.W.Fast.tw4229455143575187299 : Params → PySem.W.BT := tw12417361858070979987
theorem _root_.PySem.W.Fast.te4229455143575187299 : S_tree_138 = _root_.PySem.W.Fast.tw4229455143575187299 := te12417361858070979987
noncomputable abbrev _root_.PySem.W.Fast.tw16186168004869015827 : Params → PySem.W.BT := tw863085786592867233
theorem _root_.PySem.W.Fast.te16186168004869015827 : S_tree_153 = _root_.PySem.W.Fast.tw16186168004869015827 := te863085786592867233
noncomputable abbrev _root_.PySem.W.Fast.tw2605353456231183903 : Params → PySem.W.BT := tw12361961019411380784
theorem _root_.PySem.W.Fast.te2605353456231183903 : S_tree_168 = _root_.PySem.W.Fast.tw2605353456231183903 := te12361961019411380784
noncomputable abbrev _root_.PySem.W.Fast.tw2169656223745055462 : Params → PySem.W.BT := tw673588881184747952
theorem _root_.PySem.W.Fast.te2169656223745055462 : S_tree_183 = _root_.PySem.W.Fast.tw2169656223745055462 := te673588881184747952
noncomputable abbrev _root_.PySem.W.Fast.tw1770671399549795532 : Params → PySem.W.BT := tw10992195630508241376
theorem _root_.PySem.W.Fast.te1770671399549795532 : S_tree_229 = _root_.PySem.W.Fast.tw1770671399549795532 := te10992195630508241376
noncomputable abbrev _root_.PySem.W.Fast.tw10303126674964871603 : Params → PySem.W.BT := tw6975029710025070533
theorem _root_.PySem.W.Fast.te10303126674964871603 : S_tree_313 = _root_.PySem.W.Fast.tw10303126674964871603 := te6975029710025070533
noncomputable abbrev _root_.PySem.W.Fast.tw1128435387178519433 : Params → PySem.W.BT := tw15530674595482416506
theorem _root_.PySem.W.Fast.te1128435387178519433 : S_tree_397 = _root_.PySem.W.Fast.tw1128435387178519433 := te15530674595482416506
noncomputable abbrev _root_.PySem.W.Fast.tw4358866624197743463 : Params → PySem.W.BT := tw84981450984698048
theorem _root_.PySem.W.Fast.te4358866624197743463 : S_tree_483 = _root_.PySem.W.Fast.tw4358866624197743463 := te84981450984698048
noncomputable abbrev _root_.PySem.W.Fast.tw1828537878926131896 : Params → PySem.W.BT := tw17930534698235112910
theorem _root_.PySem.W.Fast.te1828537878926131896 : S_tree_565 = _root_.PySem.W.Fast.tw1828537878926131896 := te17930534698235112910
noncomputable abbrev _root_.PySem.W.Fast.tw5121495627848521069 : Params → PySem.W.BT := tw18148526867626808836
theorem _root_.PySem.W.Fast.te5121495627848521069 : S_tree_595 = _root_.PySem.W.Fast.tw5121495627848521069 := te18148526867626808836
noncomputable abbrev _root_.PySem.W.Fast.tw8954732462422216862 : Params → Heap := tw533089385544451347
theorem _root_.PySem.W.Fast.te8954732462422216862 : S_heap_596 = _root_.PySem.W.Fast.tw8954732462422216862 := te533089385544451347
noncomputable abbrev _root_.PySem.W.Fast.tw16958121391559307060 : List Stmt := tw666750322614274432
theorem _root_.PySem.W.Fast.te16958121391559307060 : S_sts_49 = _root_.PySem.W.Fast.tw16958121391559307060 := te666750322614274432
noncomputable abbrev _root_.PySem.W.Fast.tw948119296246685285 : List Stmt := tw5768192320520425421
theorem _root_.PySem.W.Fast.te948119296246685285 : S_sts_64 = _root_.PySem.W.Fast.tw948119296246685285 := te5768192320520425421
noncomputable abbrev _root_.PySem.W.Fast.tw2173633094422229830 : List Stmt := tw16161987442105222805
theorem _root_.PySem.W.Fast.te2173633094422229830 : S_sts_79 = _root_.PySem.W.Fast.tw2173633094422229830 := te16161987442105222805
noncomputable abbrev _root_.PySem.W.Fast.tw9963181037298711660 : List Stmt := tw11682420065776883047
theorem _root_.PySem.W.Fast.te9963181037298711660 : S_sts_94 = _root_.PySem.W.Fast.tw9963181037298711660 := te11682420065776883047
noncomputable abbrev _root_.PySem.W.Fast.tw1646096058013294744 : List Stmt := tw5728941507444464575
theorem _root_.PySem.W.Fast.te1646096058013294744 : S_sts_109 = _root_.PySem.W.Fast.tw1646096058013294744 := te5728941507444464575
noncomputable abbrev _root_.PySem.W.Fast.tw14286341465107535263 : List Stmt := tw3506674074365841151
theorem _root_.PySem.W.Fast.te14286341465107535263 : S_sts_124 = _root_.PySem.W.Fast.tw14286341465107535263 := te3506674074365841151
noncomputable abbrev _root_.PySem.W.Fast.tw12016376531745920462 : List Stmt := tw11501099722331979331
theorem _root_.PySem.W.Fast.te12016376531745920462 : S_sts_139 = _root_.PySem.W.Fast.tw12016376531745920462 := te11501099722331979331
noncomputable abbrev _root_.PySem.W.Fast.tw3063075648961930798 : List Stmt := tw13451323129798551695
theorem _root_.PySem.W.Fast.te3063075648961930798 : S_sts_154 = _root_.PySem.W.Fast.tw3063075648961930798 := te13451323129798551695
noncomputable abbrev _root_.PySem.W.Fast.tw12184119851124522926 : List Stmt := tw8446481660639318910
theorem _root_.PySem.W.Fast.te12184119851124522926 : S_sts_169 = _root_.PySem.W.Fast.tw12184119851124522926 := te8446481660639318910
noncomputable abbrev _root_.PySem.W.Fast.tw4296480964170201401 : List Stmt := tw9025746439807584814
theorem _root_.PySem.W.Fast.te4296480964170201401 : S_sts_184 = _root_.PySem.W.Fast.tw4296480964170201401 := te9025746439807584814
noncomputable abbrev _root_.PySem.W.Fast.tw7777300822059675210 : List Stmt := tw6486594379525369962
theorem _root_.PySem.W.Fast.te7777300822059675210 : S_sts_230 = _root_.PySem.W.Fast.tw7777300822059675210 := te6486594379525369962
noncomputable abbrev _root_.PySem.W.Fast.tw11209137912369347032 : List Stmt := tw13823852086282305190
theorem _root_.PySem.W.Fast.te11209137912369347032 : S_sts_314 = _root_.PySem.W.Fast.tw11209137912369347032 := te13823852086282305190
noncomputable abbrev _root_.PySem.W.Fast.tw5540951648507988294 : List Stmt := tw10647827924470504377
theorem _root_.PySem.W.Fast.te5540951648507988294 : S_sts_398 = _root_.PySem.W.Fast.tw5540951648507988294 := te10647827924470504377
noncomputable abbrev _root_.PySem.W.Fast.tw10441484278247512676 : List Stmt := tw14527065003938339795
theorem _root_.PySem.W.Fast.te10441484278247512676 : S_sts_484 = _root_.PySem.W.Fast.tw10441484278247512676 := te14527065003938339795
noncomputable abbrev _root_.PySem.W.Fast.tw2851791022001372722 : List Stmt := tw1232481768666955918
theorem _root_.PySem.W.Fast.te2851791022001372722 : S_sts_566 = _root_.PySem.W.Fast.tw2851791022001372722 := te1232481768666955918
noncomputable abbrev _root_.PySem.W.Fast.tw2764232773113860496 : Program := tw11325136443342628617
theorem _root_.PySem.W.Fast.te2764232773113860496 : S_view = _root_.PySem.W.Fast.tw2764232773113860496 := te11325136443342628617
theorem _root_.PySem.W.Fast.te4082107541001167221 : True := trivial
end Tp
open PySem PySem.W PyProof.Rows
set_option maxRecDepth 100000 in
set_option maxHeartbeats 0 in
theorem PySem.Challenge.cw_thinwood_k37_no_such_brackets_holds : PySem.Challenge.rw_thinwood_k37_no_such_brackets.Holds := by
 w_on; o_law; k_head; (case hw => w_witness2)
 k_fill
 refine L2.yd (l := PySem.Challenge.rw_thinwood_k37_no_such_brackets) (n := 63) (k := 12) (x := "_law_script") rfl (by decide) rfl ⟨rfl, by decide, by decide⟩ (fun w h Y => PySem.W.km_in_of Y) ?F
 case F =>
  intro w mg mb mean fa h KX TT hmg
  refine' Tw.Ah KX TT hmg ?d0 ?d1 ?d2 ?d3 ?d4 ?d5 ?d6 ?d7 ?d8 ?d9 ?d10 ?d11 ?d12 ?d13 ?d14 ?d15 ?d16 ?d17 ?d18 ?d19 ?d20 ?d21 ?d22 ?d23 ?d24 ?d25 ?d26 ?d27 ?d28 ?d29 ?d30 ?d31 ?a32 ?l32 ?c32 ?k32 ?tl_heap_look ?tp_heap_look ?tr_heap_look ?d33 ?d34 ?d35 ?d36 ?d37 ?d38 ?d39 ?d40 ?d41 ?d42 ?d43 ?d44 ?d45 ?d46 ?d47 ?a48 ?l48 ?c48 ?k48 ?tl_law_look_of ?tp_law_look_of ?tr_law_look_of ?d49 ?d50 ?d51 ?d52 ?d53 ?d54 ?d55 ?d56 ?z_ValueError ?z_enumerate ?z_isinstance ?z_len ?z_list ?z_max ?z_min ?z_range ?z_reversed ?z_sum ?z_tuple ?g_BLOCK_BITS ?g_MOST_BITS ?g_MOST_NUMBERS ?q_NoBit ?q_NoNode ?q_NoOctets ?q_NoPlace ?q_NoSign ?q_NoTree ?q_NoWord ?q_TooMany ?q_Twice ?q_WoodError ?ex_NoBit ?ed_NoBit ?ega_NoBit ?eng_NoBit ?ecl_NoBit ?egt_NoBit ?etk_NoBit ?emo_NoBit ?emb_NoBit ?i_NoBit_NoBit ?i_NoBit_NoNode ?i_NoBit_NoOctets ?i_NoBit_NoPlace ?i_NoBit_NoSign ?i_NoBit_NoTree ?i_NoBit_NoWord ?i_NoBit_TooMany ?i_NoBit_Twice ?i_NoBit_WoodError ?i_NoBit_ValueError ?ex_NoNode ?ed_NoNode ?ega_NoNode ?eng_NoNode ?ecl_NoNode ?egt_NoNode ?etk_NoNode ?emo_NoNode ?emb_NoNode ?i_NoNode_NoBit ?i_NoNode_NoNode ?i_NoNode_NoOctets ?i_NoNode_NoPlace ?i_NoNode_NoSign ?i_NoNode_NoTree ?i_NoNode_NoWord ?i_NoNode_TooMany ?i_NoNode_Twice ?i_NoNode_WoodError ?i_NoNode_ValueError ?ex_NoPlace ?ed_NoPlace ?ega_NoPlace ?eng_NoPlace ?ecl_NoPlace ?egt_NoPlace ?etk_NoPlace ?emo_NoPlace ?emb_NoPlace ?i_NoPlace_NoBit ?i_NoPlace_NoNode ?i_NoPlace_NoOctets ?i_NoPlace_NoPlace ?i_NoPlace_NoSign ?i_NoPlace_NoTree ?i_NoPlace_NoWord ?i_NoPlace_TooMany ?i_NoPlace_Twice ?i_NoPlace_WoodError ?i_NoPlace_ValueError ?ex_NoTree ?ed_NoTree ?ega_NoTree ?eng_NoTree ?ecl_NoTree ?egt_NoTree ?etk_NoTree ?emo_NoTree ?emb_NoTree ?i_NoTree_NoBit ?i_NoTree_NoNode ?i_NoTree_NoOctets ?i_NoTree_NoPlace ?i_NoTree_NoSign ?i_NoTree_NoTree ?i_NoTree_NoWord ?i_NoTree_TooMany ?i_NoTree_Twice ?i_NoTree_WoodError ?i_NoTree_ValueError ?ex_TooMany ?ed_TooMany ?ega_TooMany ?eng_TooMany ?ecl_TooMany ?egt_TooMany ?etk_TooMany ?emo_TooMany ?emb_TooMany ?i_TooMany_NoBit ?i_TooMany_NoNode ?i_TooMany_NoOctets ?i_TooMany_NoPlace ?i_TooMany_NoSign ?i_TooMany_NoTree ?i_TooMany_NoWord ?i_TooMany_TooMany ?i_TooMany_Twice ?i_TooMany_WoodError ?i_TooMany_ValueError ?ex_WoodError ?ed_WoodError ?ega_WoodError ?eng_WoodError ?ecl_WoodError ?egt_WoodError ?etk_WoodError ?emo_WoodError ?emb_WoodError ?i_WoodError_NoBit ?i_WoodError_NoNode ?i_WoodError_NoOctets ?i_WoodError_NoPlace ?i_WoodError_NoSign ?i_WoodError_NoTree ?i_WoodError_NoWord ?i_WoodError_TooMany ?i_WoodError_Twice ?i_WoodError_WoodError ?i_WoodError_ValueError ?nt ?nn_heap_look_law_look_of
  (case d0 | d1 | d2 | d3 | d4 | d5 | d6 | d7 | d8 | d9 | d10 | d11 | d12 | d13 | d14 | d15 | d16 | d17 | d18 | d19 | d20 | d21 | d22 | d23 | d24 | d25 | d26 | d27 | d28 | d29 | d30 | d31 | d33 | d34 | d35 | d36 | d37 | d38 | d39 | d40 | d41 | d42 | d43 | d44 | d45 | d46 | d47 | d49 | d50 | d51 | d52 | d53 | d54 | d55 | d56 => exact ⟨by k_is, L2.vy (by k_is) (by k_is) (by k_is)⟩); (case a32 => k_is); (case l32 => k_is); (case c32 => k_is); (case k32 => k_is); (case tl_heap_look => k_is); (case tp_heap_look => rfl); (case tr_heap_look => exact ⟨_, rfl⟩); (case a48 => k_is); (case l48 => k_is); (case c48 => k_is); (case k48 => k_is); (case tl_law_look_of => k_is); (case tp_law_look_of => rfl); (case tr_law_look_of => exact ⟨_, rfl⟩); (case z_ValueError => k_is); (case z_enumerate => k_is); (case z_isinstance => k_is); (case z_len => k_is); (case z_list => k_is); (case z_max => k_is); (case z_min => k_is); (case z_range => k_is); (case z_reversed => k_is); (case z_sum => k_is); (case z_tuple => k_is); (case g_BLOCK_BITS => k_is); (case g_MOST_BITS => k_is); (case g_MOST_NUMBERS => k_is); (case q_NoBit => k_is); (case q_NoNode => k_is); (case q_NoOctets => k_is); (case q_NoPlace => k_is); (case q_NoSign => k_is); (case q_NoTree => k_is); (case q_NoWord => k_is); (case q_TooMany => k_is); (case q_Twice => k_is); (case q_WoodError => k_is); (case ex_NoBit => k_exc); (case ed_NoBit => k_is); (case ega_NoBit => k_is); (case eng_NoBit => k_is); (case ecl_NoBit => k_is); (case egt_NoBit => k_is); (case etk_NoBit => k_is); (case emo_NoBit => k_is); (case emb_NoBit => k_is); (case i_NoBit_NoBit => kit_is); (case i_NoBit_NoNode => kit_is); (case i_NoBit_NoOctets => kit_is); (case i_NoBit_NoPlace => kit_is); (case i_NoBit_NoSign => kit_is); (case i_NoBit_NoTree => kit_is); (case i_NoBit_NoWord => kit_is); (case i_NoBit_TooMany => kit_is); (case i_NoBit_Twice => kit_is); (case i_NoBit_WoodError => kit_is); (case i_NoBit_ValueError => kit_is); (case ex_NoNode => k_exc); (case ed_NoNode => k_is); (case ega_NoNode => k_is); (case eng_NoNode => k_is); (case ecl_NoNode => k_is); (case egt_NoNode => k_is); (case etk_NoNode => k_is); (case emo_NoNode => k_is); (case emb_NoNode => k_is); (case i_NoNode_NoBit => kit_is); (case i_NoNode_NoNode => kit_is); (case i_NoNode_NoOctets => kit_is); (case i_NoNode_NoPlace => kit_is); (case i_NoNode_NoSign => kit_is); (case i_NoNode_NoTree => kit_is); (case i_NoNode_NoWord => kit_is); (case i_NoNode_TooMany => kit_is); (case i_NoNode_Twice => kit_is); (case i_NoNode_WoodError => kit_is); (case i_NoNode_ValueError => kit_is); (case ex_NoPlace => k_exc); (case ed_NoPlace => k_is); (case ega_NoPlace => k_is); (case eng_NoPlace => k_is); (case ecl_NoPlace => k_is); (case egt_NoPlace => k_is); (case etk_NoPlace => k_is); (case emo_NoPlace => k_is); (case emb_NoPlace => k_is); (case i_NoPlace_NoBit => kit_is); (case i_NoPlace_NoNode => kit_is); (case i_NoPlace_NoOctets => kit_is); (case i_NoPlace_NoPlace => kit_is); (case i_NoPlace_NoSign => kit_is); (case i_NoPlace_NoTree => kit_is); (case i_NoPlace_NoWord => kit_is); (case i_NoPlace_TooMany => kit_is); (case i_NoPlace_Twice => kit_is); (case i_NoPlace_WoodError => kit_is); (case i_NoPlace_ValueError => kit_is); (case ex_NoTree => k_exc); (case ed_NoTree => k_is); (case ega_NoTree => k_is); (case eng_NoTree => k_is); (case ecl_NoTree => k_is); (case egt_NoTree => k_is); (case etk_NoTree => k_is); (case emo_NoTree => k_is); (case emb_NoTree => k_is); (case i_NoTree_NoBit => kit_is); (case i_NoTree_NoNode => kit_is); (case i_NoTree_NoOctets => kit_is); (case i_NoTree_NoPlace => kit_is); (case i_NoTree_NoSign => kit_is); (case i_NoTree_NoTree => kit_is); (case i_NoTree_NoWord => kit_is); (case i_NoTree_TooMany => kit_is); (case i_NoTree_Twice => kit_is); (case i_NoTree_WoodError => kit_is); (case i_NoTree_ValueError => kit_is); (case ex_TooMany => k_exc); (case ed_TooMany => k_is); (case ega_TooMany => k_is); (case eng_TooMany => k_is); (case ecl_TooMany => k_is); (case egt_TooMany => k_is); (case etk_TooMany => k_is); (case emo_TooMany => k_is); (case emb_TooMany => k_is); (case i_TooMany_NoBit => kit_is); (case i_TooMany_NoNode => kit_is); (case i_TooMany_NoOctets => kit_is); (case i_TooMany_NoPlace => kit_is); (case i_TooMany_NoSign => kit_is); (case i_TooMany_NoTree => kit_is); (case i_TooMany_NoWord => kit_is); (case i_TooMany_TooMany => kit_is); (case i_TooMany_Twice => kit_is); (case i_TooMany_WoodError => kit_is); (case i_TooMany_ValueError => kit_is); (case ex_WoodError => k_exc); (case ed_WoodError => k_is); (case ega_WoodError => k_is); (case eng_WoodError => k_is); (case ecl_WoodError => k_is); (case egt_WoodError => k_is); (case etk_WoodError => k_is); (case emo_WoodError => k_is); (case emb_WoodError => k_is); (case i_WoodError_NoBit => kit_is); (case i_WoodError_NoNode => kit_is); (case i_WoodError_NoOctets => kit_is); (case i_WoodError_NoPlace => kit_is); (case i_WoodError_NoSign => kit_is); (case i_WoodError_NoTree => kit_is); (case i_WoodError_NoWord => kit_is); (case i_WoodError_TooMany => kit_is); (case i_WoodError_Twice => kit_is); (case i_WoodError_WoodError => kit_is); (case i_WoodError_ValueError => kit_is); (case nt => kernel_rfl); (case nn_heap_look_law_look_of => decide)
